import PyProof.Rows.All
import Wide.All
import OpenK.AllK
import Wide.FinOn
import PySem.Challenge.RW_switchkinds_k75_whole_rack_texts
abbrev gV:PySem.Str:="__debug__"
abbrev hK:PySem.Str:="__classdict__"
abbrev hZ:PySem.Str:="law_switchkinds_k75_whole_rack_texts"
abbrev iS:PySem.Str:="/claim/cut.py"
abbrev kE:PySem.Str:="switchkinds.racks"
abbrev mv:PySem.Str:="switchkinds.errors"
abbrev nS:PySem.Str:="switchkinds.switches"
abbrev oD:PySem.Str:="switchkinds.wholes"
abbrev ce:=PySem.Value->PySem.Shared->Prop
abbrev cf:=List (PySem.Addr×PySem.Obj)
abbrev L1:=List
abbrev L7:=Option
noncomputable section
open Option renaming some->pi,none->qw
open Bool renaming true->qz,false->q7
open PySem.Challenge renaming pw_switchkinds_k75_whole_rack_texts->ci,rw_switchkinds_k75_whole_rack_texts->di
open PySem.Builtin.SmallTypes renaming ownedTupleHandOut->dk,ownedTupleIsFree->dm,nextOf->ee
open PyProof.Rows renaming callWith_builtin1->dq,callWith_type1->dt
open PySem.Builtin.Str renaming strSliceIndices->du,partsBetween->eo,occurrences->ez,strSub->iy
open PySem.Builtin.List renaming listExtendWith->dv
open PySem.Calls renaming Name_function_global->dw,callWith_builtin->f6,evalArgs_plain->h8,spliced_cons->iw,spliced_nil->jh
open PySem.F renaming slot_tuple_iterator_next->dy,slot_list_getattribute->et,args_dict_get_2->e7,plainAttrs_dict->fj,plainAttrs_list->fq,entry_dict_get->f7,plainAttrs_str->gf,slot_dict_get->gr,type_dict_get->gu,plain_extend_loop->ik,args_str_split_2->ja,entry_str_split->jq,args_zip_next_1->js,slot_str_split->ki,entry_zip_next->kj,slot_zip_next->lr
open Option renaming isNone_iff_eq_none->ef,isSome_iff_exists->eh,isSome_map->jk,map->qe
open List.Perm renaming eq_of_pairwise->er
open PySem.W.OpenRow renaming toRowW->fw
open PySem.World renaming withFollow->fx
open PySem.W renaming cellsFrom_some->fy,methodCall_KW->gw,plainGet_of->ie,callWith_K0->ig,codeRec_of->ix,callWith_K->i0,methodObj->jd,hasDictIn->je,plainOver->jf,emptyDict->jg,openGood->jx,plainGet->jy,instObj->ky,lookIn->md,findIn->mf,keepIn->mh,codeIn->mi,tabObj->mq,CodeHd->mr,kla_fn->mw,kHook->m6,mg_of->n8,Frag->oe,Hook->og,isFn->ox,fnOf->oy
open PySem.W.RowW renaming records->gz
open PySem.Around renaming under_plainId->ia
open Array renaming length_toList->ic
open PySem.PyData renaming canLayAll0->jj,canLay0->mj,eqvAll->nj,depth->pb,eqv->qc
open Int renaming toNat_natCast->jr
open PySem.PassesOwn renaming leaving->ju
open Option.some renaming inj->ku
open ForInStep renaming yield->lj
open PySem.Paired renaming length->ng
open List.cons renaming inj->nr
open PySem.NameKind renaming free->nu,cell->ny
open PySem.Value renaming builtin->nz,none->pw,bool->p3,type->p4,int->qf,str->qg,ref->qh
open PySem.Str renaming ofString->pc,empty->qi
open Sum.inr renaming inj->pf
open True renaming intro->qa
open PySem.Obj renaming mapSeq->qb
open PySem.Txt renaming split->qj,join->qq
open Sum renaming inl->qr,inr->qt
open Ne renaming symm->qu
open PySem renaming wpAny_bind->aa,wpAny_pure->ac,mem_of_lookup->ii,strKind->n5,Within->oj,Env->qm
open PySem.Heap renaming get?_push_of_some->ae,get?_push_size->af,lt_size->ah,size_push->ai,get?_update_other->fz,get?_update_self->gm,get?_push_ne->jt,size_update->kn,SameBut->oq
open Nat renaming le_refl->aj,lt_of_lt_of_le->bg,ne_of_lt->bh,zero_le->bu,add_lt_add_left->im,add_le_add_left->io,lt_of_le_of_lt->jc,lt_succ_of_lt->jm,lt_succ_self->jz,le_add_right->kl,min_eq_left->l0,lt_irrefl->nh,le_trans->om,le_of_lt->oo,ne_of_gt->ou,le_succ->pj
open List renaming replicate->ao,length_map->aq,mem_map->au,mem_cons->av,size_toArray->ax,getElem?_eq_some_iff->ay,getElem?_set_ne->bc,getElem?_eq_getElem->bd,getElem?_set_self->bj,getElem?_append_right->bn,length_append->bo,length_cons->bq,mem_append_right->bt,getElem?_append_left->bx,getD_eq_getElem?_getD->cb,drop_eq_getElem_cons->dz,getElem?_replicate->eu,length_eq_one_iff->gc,take_of_length_le->gi,length_replicate->gj,contains_iff_mem->gy,mem_cons_of_mem->g7,mem_append_left->g8,filterMap_cons->ib,map_congr_left->ij,mem_map_of_mem->ip,append_toArray->iq,mem_cons_self->ir,mem_filterMap->iu,findIdx?_cons->iz,mem_singleton->i3,pairwise_cons->jb,getElem?_map->ji,length_range->jl,append_assoc->jo,nodup_append->jv,all_eq_true->jw,length_take->j3,filter_cons->kc,take_length->kd,lookup_cons->ke,drop_length->kg,not_mem_nil->kh,cons_append->km,isEmpty_iff->ko,getElem_mem->kr,mem_filter->kz,mem_append->k6,append_nil->k7,nodup_cons->la,of_mem_zip->lf,length_set->lg,find?_cons->lh,map_append->li,forIn_cons->lm,length_zip->ly,nil_append->lz,filterMap->mn,forIn_nil->mo,map_cons->ni,any_cons->nq,map_nil->oz,zipWith->pd,map_map->pe,lookup->ph,length->pp,range->pq,Perm->qo
open Bool renaming and_eq_true->aw,false_eq_true->az,false_ne_true->bf,not_eq_true'->jp
open False renaming elim->ba
def zBd{α β:Type}{o:L7 α}{f}{b:β}(h:o.bind f=pi b): ∃a,o=pi a/\f a=pi b:=Option.bind_eq_some_iff.mp h
def zMd{α β:Type}{o}{f:α->β}{b}(h:o.map f=pi b): ∃a,o=pi a/\f a=b:=Option.map_eq_some_iff.mp h
def zAd{α:Type}{l:L1 α}{p}(h:l.all p=qz): ∀x,x∈l->p x=qz:=jw.mp h
def zPd(h:m<n):m∈pq n:=List.mem_range.mpr h
def zRd(h:m∈pq n):m<n:=List.mem_range.mp h
set_option Elab.async false
set_option genInjectivity false
set_option genSizeOf false
set_option bootstrap.genMatcherCode false
set_option compiler.extract_closed false
set_option linter.all false
set_option maxRecDepth 100000
namespace SK
open PySem PySem.W PyProof.Rows PySem.Calls
abbrev _root_.PySem.Shared.z(s:Shared):=s.heap.objs.size
noncomputable def Nf(tb:String->L7 Builtin)(p:Program)(w:World)(m:Nat)(ann:L7 Value)(n:Nat):SharedT->Thread->L7 SharedT:=
 Nat.rec (λ_ _=>qw) (λ_ ih s t=>match through t with
  |true=>pi s
  |false=>match stepOk m ann t with
   |false=>qw
   |true=>match stepT (denote tb) p w s t with
    |some r=>ih r.1 r.2
    |none=>qw) n
theorem p6{tb}{p}{w}{m}{ann}: ∀n s s' t,Nf tb p w m ann n s t=pi s'->topRun tb p w m ann n s.abs t=pi s'.abs
 |0,_,_,_,h=>nomatch h
 |n+1,s,s',t,h=>by
  have h:(match through t with
   |true=>pi s
   |false=>match stepOk m ann t with
    |false=>qw
    |true=>match stepT (denote tb) p w s t with
     |some r=>Nf tb p w m ann n r.1 r.2
     |none=>qw)=pi s':=h
  unfold topRun;rcases b:through t with _|_;rw[b]at h;rcases hk:stepOk m ann t with _|_;rw[hk]at h;cases h;rw[hk]at h;rcases a:stepT (denote tb) p w s t with _|r;rw[a]at h;cases h;obtain⟨d,c⟩:=r;rw[a]at h;rw[stepT_spec a];exact p6 n _ _ _ h;rw[b]at h;cases h;rfl
noncomputable def BTl:Nat->L1 Obj->BT
 |0,_=>.nil
 |n+1,l=>match l with
  |[]=>.nil
  |v::r=>.node v (BTl n (ev qz r)) (BTl n (ev q7 r))
where
 ev:Bool->L1 Obj->L1 Obj
 |_,[]=>[]
 |true,v::r=>v::ev q7 r
 |false,_::r=>ev qz r
def bt0(P:Params):BT:=BTl 12 (boot_heap P).objs.toList
def sT0(P:Params)(os:OsState):SharedT:=⟨bt0 P,(boot_heap P).objs.size,(boot_heap P).life, #[],boot_drawn,boot_toks,os⟩
def Jk P:absHeap (bt0 P) (boot_heap P).objs.size (boot_heap P).life=boot_heap P:=by kernel_rfl
def Fv P:(boot_heap P).isNs mainGlobals=qz:=by kernel_rfl
def Fw(p q:Program)(loose:L1 Str)(Xt:Shared->Bool){α:Type}(Yf:Shared->α)(P:Params)(s:Shared):=
 (staticsOk (importedModules p.main.body) (boot_heap P) s.heap&&namesBound p s.heap&&gensDone s&&laidKept (boot_heap P) s.heap,openSeen q loose (importedModules p.main.body) Xt qz s,Yf s)
def ON(p:Program)(N:Nat)(w:World)(os:OsState):L7 SharedT:=Nf treeTable p w (boot_heap w.params).objs.size ((boot_heap w.params).nsMap mainGlobals "__annotations__") N (sT0 w.params os) (topStub p)
def left_tree{Yf}{Ya:World->α}{N:Nat}(e:opening p=plainProg p.main.scope.names)(hN:Nat.ble 600 N=qz)(f: ∀s,fenceModules? p s=pi s)(hk: ∀w os,(ON p N w os).map (λs=>Fw p q loose Xt Yf w.params s.abs)=pi (qz,openGood q loose,Ya w)):LeftO p q loose Xt Yf Ya N:=λw=>by
 obtain⟨j,g,c⟩:=zMd (boot_open e hN f w);obtain⟨h,b,d,k,os⟩:=j;obtain⟨rfl,rfl,rfl,rfl⟩:h=boot_heap w.params/\b=Array.mk []/\d=boot_drawn/\k=boot_toks:=by simpa using c
 obtain⟨s,r,l⟩:=zMd (hk w os);obtain⟨i,n,m⟩:_/\_/\_:=by simpa only[Fw,Prod.mk.injEq]using l
 have a:=p6 _ _ _ _ r;have o:(sT0 w.params os).abs=⟨boot_heap w.params,Array.mk [],boot_drawn,boot_toks,os⟩:=by
  show(⟨absHeap (bt0 w.params) (boot_heap w.params).objs.size (boot_heap w.params).life, #[],boot_drawn,boot_toks,os⟩:Shared)=_;rw[Jk]
 rw[o]at a;have t:topFrom treeTable p w N ⟨boot_heap w.params,Array.mk [],boot_drawn,boot_toks,os⟩=pi s.abs:=by
  unfold topFrom;dsimp only;rw[Fv,a];show(match staticsOk (importedModules p.main.body) (boot_heap w.params) s.abs.heap&&namesBound p s.abs.heap&&gensDone s.abs&&laidKept (boot_heap w.params) s.abs.heap with|true=>_|false=>_)=_;rw[i]
 unfold openEnds;rw[g];show(topFrom treeTable p w N _).map _=_;rw[t];exact congrArg pi (Prod.ext n m)
universe u
def kt{α:Sort u}(_:α):Bool:=qz
def q1(p q:Program)(lo:L1 Str)(N:Nat)(c:WRecords)(a:L1 Addr)(w:World)(os:OsState):=(ON p N w os).map λs=>Fw p q lo (λs=>xlAt q [] s&&recOk c s) (λs=>a.map s.heap.get?) w.params s.abs
def tg:kt q1=qz:=by k_qdec
end SK
set_option maxHeartbeats 0
namespace L2
open PySem
noncomputable def defArgs(s:Stmt):Arguments:=match s with
 |.FunctionDef _ a _ _ _ _ _ _ _ _=>a
 |_=>{posonlyargs:=[],args:=[],vararg:=qw,kwonlyargs:=[],kw_defaults:=[],kwarg:=qw,defaults:=[]}
def defBody(s:Stmt):L1 Stmt:=match s with
 |.FunctionDef _ _ b _ _ _ _ _ _ _=>b
 |_=>[]
noncomputable def defScope(s:Stmt):Scope:=match s with
 |.FunctionDef _ _ _ _ _ _ sc _ _ _=>sc
 |_=>{kind:=.function,names:=[],isGenerator:=q7,isCoroutine:=q7}
end L2
namespace SK.k75
open PySem
noncomputable def top(i:Nat):Stmt:=ci.main.body.getD i (.Pass ⟨0,0,0,0⟩)
def met(i j:Nat):Stmt:=(match top i with|.ClassDef _ _ _ b _ _ _ _ _ _ _=>b|_=>[]).getD j (.Pass ⟨0,0,0,0⟩)
abbrev fm(st:Stmt)(x q m:Str)(t c:Nat):Obj:={cls:=.type "function",data:=.func {name:=x,qualname:=q,params:=L2.defArgs st,body:=.stmts (L2.defBody st),scope:=L2.defScope st,globals:=3,closure:=[],defaults:=.none,kwdefaults:=.none,pyModule:=.str m t,code:=.ref c} }
abbrev en(P:Params)(k:Str)(t:Nat)(v:Value):DictEntry:=⟨PyData.keyHash P k,.str k t,v⟩
abbrev fo(st:Stmt)(x m:Str)(t c:Nat):Obj:={cls:=.type "function",data:=.func {name:=x,qualname:=x,params:=L2.defArgs st,body:=.stmts (L2.defBody st),scope:=L2.defScope st,globals:=3,closure:=[],defaults:=.none,kwdefaults:=.none,pyModule:=.str m t,code:=.ref c} }
abbrev co(vs:Array Value):Obj:={cls:=.type "code",data:=.fields vs}
noncomputable abbrev cC(x:Str)(a l n r e:Nat)(u v w:Value):Obj:=co #[.str x a,.str x (a+1),.str iS (a+2),.int l 0,.int n 0,.int 0 0,.int 0 0,.int 3 0,.ref r,.bool qz,.int 181 0,.ref (r+1),.none,u,v,w,.int e 0,.int l 0,.str iS (e+1)]
noncomputable abbrev cA(x:Str)(a l n r e:Nat):Obj:=cC x a l n r e .none .none (.ref (r+2))
noncomputable abbrev cB(x:Str)(a l n r e:Nat):Obj:=cC x a l n r e (.ref (r+2)) (.ref (r+3)) (.ref (r+4))
noncomputable abbrev cK(x:Str)(f c ns s a b:Nat):Obj:={cls:=.type "type",data:=.cls {name:=x,bases:=[.ref c],mro:=[.ref f,.ref c,.type "ValueError",.type "Exception",.type "BaseException",.type "object"],ns:=ns,qualname:=x},slots:= #[pi (.ref s),qw,pi (.str x a),pi (.str x b),pi (.builtin "ValueError.__new__"),pi (.bool qz)]}
noncomputable abbrev dK(P:Params)(m:Str)(q a l r:Nat):Obj:={cls:=.type "dict",data:=.dict #[en P "__module__" a (.str m q),en P "__firstlineno__" (a+4) (.int l (a+3)),en P "__static_attributes__" (a+5) (.ref r),en P "__doc__" (a+6) .none] 2}
def kK:Params->oe:=λP=>[
(3,{cls:=.type "dict",data:=.dict #[en P "__name__" 165 (.str hZ 676),en P "__doc__" 166 .none,en P "__package__" 167 .none,en P "__loader__" 168 (.builtin "__main__.__loader__#opaque"),en P "__spec__" 169 .none,en P "__annotations__" 170 (.ref 6),en P "__builtins__" 171 (.ref 4),en P "__file__" 173 (.str iS 172),en P "__cached__" 174 .none,en P "_wall" 193 (.ref 21),en P "SwitchError" 213 (.ref 31),en P "NoSwitch" 229 (.ref 44),en P "NoName" 245 (.ref 56),en P "NoMove" 261 (.ref 68),en P "Unlike" 277 (.ref 80),en P "NoSums" 293 (.ref 92),en P "NoText" 309 (.ref 104),en P "NoTerm" 325 (.ref 116),en P "NoLabel" 341 (.ref 128),en P "NoBack" 357 (.ref 140),en P "MOST_NAMES" 361 (.int 4 360),en P "is_whole" 368 (.ref 149),en P "is_whole_below" 376 (.ref 156),en P "are_whole_below" 382 (.ref 161),en P "is_many" 389 (.ref 168),en P "is_row" 398 (.ref 175),en P "how_many_settings" 405 (.ref 182),en P "is_switch" 414 (.ref 189),en P "check_switch" 421 (.ref 196),en P "check_alike" 429 (.ref 203),en P "turned" 435 (.ref 208),en P "both" 441 (.ref 213),en P "either" 447 (.ref 218),en P "unlike" 453 (.ref 223),en P "FIGURES" 471 (.ref 224),en P "check_text" 478 (.ref 231),en P "switch_text" 484 (.ref 236),en P "read_switch" 490 (.ref 241),en P "LONGEST_LABEL" 494 (.int 4 493),en P "BETWEEN" 496 (.str " = " 495),en P "is_label" 502 (.ref 246),en P "check_label" 509 (.ref 253),en P "joined" 518 (.ref 260),en P "Rack" 659 (.ref 368),en P "rack_text" 665 (.ref 377),en P "read_rack" 675 (.ref 384),en P "_law_cell" 685 (.ref 391),en P "_law_pick" 695 (.ref 398),en P "_law_switch" 701 (.ref 403),en P "_law_setting" 707 (.ref 408),en P "_law_odd" 713 (.ref 413),en P "_law_class" 722 (.ref 420),en P "_law_told" 730 (.ref 427),en P "_law_deed" 744 (.ref 434),en P "_law_behind" 750 (.ref 439),en P "_law_did" 760 (.ref 446),en P "_law_all_of" 766 (.ref 451),en P "_law_rack_text" 772 (.ref 456),en P "law" 788 (.ref 463)] 59}),
(20,cB "_wall" 187 1 1 15 191),
(21,fo (top 0) "_wall" "__main__" 164 20),
(30,{cls:=.type "dict",data:=.dict #[en P "__module__" 203 (.str mv 194),en P "__firstlineno__" 207 (.int 5 206),en P "__static_attributes__" 208 (.ref 29),en P "__weakref__" 210 (.ref 32),en P "__doc__" 211 .none] 3}),
(31,{cls:=.type "type",data:=.cls {name:="SwitchError",bases:=[.type "ValueError"],mro:=[.ref 31,.type "ValueError",.type "Exception",.type "BaseException",.type "object"],ns:=30,qualname:="SwitchError",subclasses:=[.ref 44,.ref 56,.ref 68,.ref 80,.ref 92,.ref 104,.ref 116,.ref 128,.ref 140]},slots:= #[pi (.ref 22),qw,pi (.str "SwitchError" 196),pi (.str "SwitchError" 204),pi (.builtin "ValueError.__new__"),pi (.bool qz)]}),
(32,{cls:=.type "getset_descriptor",data:=.fields #[.str "__weakref__" 209,.ref 31,.builtin "ExceptionGroup.__weakref__",.none]}),
(43,dK P mv 194 221 7 42),
(44,cK "NoSwitch" 44 31 43 35 214 222),
(55,dK P mv 194 237 9 54),
(56,cK "NoName" 56 31 55 47 230 238),
(67,dK P mv 194 253 11 66),
(68,cK "NoMove" 68 31 67 59 246 254),
(79,dK P mv 194 269 13 78),
(80,cK "Unlike" 80 31 79 71 262 270),
(91,dK P mv 194 285 15 90),
(92,cK "NoSums" 92 31 91 83 278 286),
(103,dK P mv 194 301 17 102),
(104,cK "NoText" 104 31 103 95 294 302),
(115,dK P mv 194 317 19 114),
(116,cK "NoTerm" 116 31 115 107 310 318),
(127,dK P mv 194 333 21 126),
(128,cK "NoLabel" 128 31 127 119 326 334),
(139,dK P mv 194 349 23 138),
(140,cK "NoBack" 140 31 139 131 342 350),
(148,cB "is_whole" 362 27 1 143 366),
(149,fo (top 14) "is_whole" oD 358 148),
(155,cB "is_whole_below" 369 29 2 150 374),
(156,fo (top 15) "is_whole_below" oD 358 155),
(160,cA "are_whole_below" 377 31 2 157 380),
(161,fo (top 16) "are_whole_below" oD 358 160),
(167,cB "is_many" 383 33 1 162 387),
(168,fo (top 17) "is_many" oD 358 167),
(174,cB "is_row" 390 35 3 169 396),
(175,fo (top 18) "is_row" oD 358 174),
(181,cB "how_many_settings" 399 37 1 176 403),
(182,fo (top 19) "how_many_settings" oD 358 181),
(188,cB "is_switch" 408 40 1 183 412),
(189,fo (top 21) "is_switch" nS 406 188),
(195,cB "check_switch" 415 44 1 190 419),
(196,fo (top 22) "check_switch" nS 406 195),
(202,cB "check_alike" 422 47 2 197 427),
(203,fo (top 23) "check_alike" nS 406 202),
(207,cA "turned" 430 52 1 204 433),
(208,fo (top 24) "turned" nS 406 207),
(212,cA "both" 436 55 2 209 439),
(213,fo (top 25) "both" nS 406 212),
(217,cA "either" 442 58 2 214 445),
(218,fo (top 26) "either" nS 406 217),
(222,cA "unlike" 448 61 2 219 451),
(223,fo (top 27) "unlike" nS 406 222),
(224,{cls:=.type "dict",data:=.dict #[en P "0" 456 (.int 0 457),en P "1" 458 (.int 1 459),en P "2" 460 (.int 2 461),en P "3" 462 (.int 3 463),en P "4" 464 (.int 4 465)] 5}),
(230,cB "check_text" 472 66 1 225 476),
(231,fo (top 30) "check_text" "switchkinds.texts" 454 230),
(235,cA "switch_text" 479 69 1 232 482),
(236,fo (top 31) "switch_text" "switchkinds.texts" 454 235),
(240,cA "read_switch" 485 72 1 237 488),
(241,fo (top 32) "read_switch" "switchkinds.texts" 454 240),
(245,cA "is_label" 497 81 1 242 500),
(246,fo (top 36) "is_label" kE 491 245),
(252,cB "check_label" 503 85 1 247 507),
(253,fo (top 37) "check_label" kE 491 252),
(259,cB "joined" 510 88 3 254 516),
(260,fo (top 38) "joined" kE 491 259),
(273,co #[.str "__init__" 531,.str "Rack.__init__" 532,.str iS 533,.int 98 0,.int 1 0,.int 0 0,.int 0 0,.int 3 0,.ref 268,.bool qz,.int 181 0,.ref 269,.none,.ref 270,.ref 271,.ref 272,.int 535 0,.int 98 0,.str iS 536]),
(274,fm (met 39 0) "__init__" "Rack.__init__" kE 491 273),
(280,co #[.str "set_to" 538,.str "Rack.set_to" 539,.str iS 540,.int 103 0,.int 3 0,.int 0 0,.int 0 0,.int 3 0,.ref 275,.bool qz,.int 181 0,.ref 276,.none,.ref 277,.ref 278,.ref 279,.int 544 0,.int 103 0,.str iS 545]),
(281,fm (met 39 1) "set_to" "Rack.set_to" kE 491 280),
(287,co #[.str "do" 547,.str "Rack.do" 548,.str iS 549,.int 109 0,.int 4 0,.int 0 0,.int 0 0,.int 3 0,.ref 282,.bool qz,.int 181 0,.ref 283,.none,.ref 284,.ref 285,.ref 286,.int 554 0,.int 109 0,.str iS 555]),
(288,fm (met 39 2) "do" "Rack.do" kE 491 287),
(294,co #[.str "put" 557,.str "Rack.put" 558,.str iS 559,.int 114 0,.int 3 0,.int 0 0,.int 0 0,.int 3 0,.ref 289,.bool qz,.int 181 0,.ref 290,.none,.ref 291,.ref 292,.ref 293,.int 564 0,.int 114 0,.str iS 565]),
(295,fm (met 39 3) "put" "Rack.put" kE 491 294),
(301,co #[.str "switch_of" 567,.str "Rack.switch_of" 568,.str iS 569,.int 121 0,.int 2 0,.int 0 0,.int 0 0,.int 3 0,.ref 296,.bool qz,.int 181 0,.ref 297,.none,.ref 298,.ref 299,.ref 300,.int 572 0,.int 121 0,.str iS 573]),
(302,fm (met 39 4) "switch_of" "Rack.switch_of" kE 491 301),
(308,co #[.str "take" 575,.str "Rack.take" 576,.str iS 577,.int 127 0,.int 2 0,.int 0 0,.int 0 0,.int 3 0,.ref 303,.bool qz,.int 181 0,.ref 304,.none,.ref 305,.ref 306,.ref 307,.int 581 0,.int 127 0,.str iS 582]),
(309,fm (met 39 5) "take" "Rack.take" kE 491 308),
(315,co #[.str "join" 584,.str "Rack.join" 585,.str iS 586,.int 132 0,.int 5 0,.int 0 0,.int 0 0,.int 3 0,.ref 310,.bool qz,.int 181 0,.ref 311,.none,.ref 312,.ref 313,.ref 314,.int 593 0,.int 132 0,.str iS 594]),
(316,fm (met 39 6) "join" "Rack.join" kE 491 315),
(322,co #[.str "turn" 596,.str "Rack.turn" 597,.str iS 598,.int 138 0,.int 2 0,.int 0 0,.int 0 0,.int 3 0,.ref 317,.bool qz,.int 181 0,.ref 318,.none,.ref 319,.ref 320,.ref 321,.int 602 0,.int 138 0,.str iS 603]),
(323,fm (met 39 7) "turn" "Rack.turn" kE 491 322),
(329,co #[.str "labels" 605,.str "Rack.labels" 606,.str iS 607,.int 143 0,.int 1 0,.int 0 0,.int 0 0,.int 3 0,.ref 324,.bool qz,.int 181 0,.ref 325,.none,.ref 326,.ref 327,.ref 328,.int 609 0,.int 143 0,.str iS 610]),
(330,fm (met 39 8) "labels" "Rack.labels" kE 491 329),
(336,co #[.str "like" 612,.str "Rack.like" 613,.str iS 614,.int 146 0,.int 2 0,.int 0 0,.int 0 0,.int 3 0,.ref 331,.bool qz,.int 181 0,.ref 332,.none,.ref 333,.ref 334,.ref 335,.int 617 0,.int 146 0,.str iS 618]),
(337,fm (met 39 9) "like" "Rack.like" kE 491 336),
(343,co #[.str "back" 620,.str "Rack.back" 621,.str iS 622,.int 149 0,.int 1 0,.int 0 0,.int 0 0,.int 3 0,.ref 338,.bool qz,.int 181 0,.ref 339,.none,.ref 340,.ref 341,.ref 342,.int 625 0,.int 149 0,.str iS 626]),
(344,fm (met 39 10) "back" "Rack.back" kE 491 343),
(350,co #[.str "forth" 628,.str "Rack.forth" 629,.str iS 630,.int 157 0,.int 1 0,.int 0 0,.int 0 0,.int 3 0,.ref 345,.bool qz,.int 181 0,.ref 346,.none,.ref 347,.ref 348,.ref 349,.int 632 0,.int 157 0,.str iS 633]),
(351,fm (met 39 11) "forth" "Rack.forth" kE 491 350),
(357,co #[.str "counts" 635,.str "Rack.counts" 636,.str iS 637,.int 160 0,.int 1 0,.int 0 0,.int 0 0,.int 3 0,.ref 352,.bool qz,.int 181 0,.ref 353,.none,.ref 354,.ref 355,.ref 356,.int 639 0,.int 160 0,.str iS 640]),
(358,fm (met 39 12) "counts" "Rack.counts" kE 491 357),
(364,co #[.str "twin" 642,.str "Rack.twin" 643,.str iS 644,.int 163 0,.int 1 0,.int 0 0,.int 0 0,.int 3 0,.ref 359,.bool qz,.int 181 0,.ref 360,.none,.ref 361,.ref 362,.ref 363,.int 646 0,.int 163 0,.str iS 647]),
(365,fm (met 39 13) "twin" "Rack.twin" kE 491 364),
(367,{cls:=.type "dict",data:=.dict #[en P "__module__" 526 (.str kE 491),en P "__firstlineno__" 530 (.int 96 529),en P "__init__" 537 (.ref 274),en P "set_to" 546 (.ref 281),en P "do" 556 (.ref 288),en P "put" 566 (.ref 295),en P "switch_of" 574 (.ref 302),en P "take" 583 (.ref 309),en P "join" 595 (.ref 316),en P "turn" 604 (.ref 323),en P "labels" 611 (.ref 330),en P "like" 619 (.ref 337),en P "back" 627 (.ref 344),en P "forth" 634 (.ref 351),en P "counts" 641 (.ref 358),en P "twin" 648 (.ref 365),en P "__static_attributes__" 652 (.ref 366),en P "__dict__" 654 (.ref 369),en P "__weakref__" 656 (.ref 370),en P "__doc__" 657 .none] 4}),
(368,{cls:=.type "type",data:=.cls {name:="Rack",bases:=[.type "object"],mro:=[.ref 368,.type "object"],ns:=367,qualname:="Rack" },slots:= #[qw,qw,pi (.str "Rack" 519),pi (.str "Rack" 527),pi (.builtin "object.__new__"),pi (.bool qz)]}),
(369,{cls:=.type "getset_descriptor",data:=.fields #[.str "__dict__" 653,.ref 368,.builtin "function.__dict__",.builtin "function.__dict__#set"]}),
(370,{cls:=.type "getset_descriptor",data:=.fields #[.str "__weakref__" 655,.ref 368,.builtin "ExceptionGroup.__weakref__",.none]}),
(376,cA "rack_text" 660 165 1 373 663),
(377,fo (top 40) "rack_text" kE 491 376),
(383,cB "read_rack" 666 167 1 378 673),
(384,fo (top 41) "read_rack" kE 491 383),
(390,cB "_law_cell" 678 179 2 385 683),
(391,fo (top 43) "_law_cell" hZ 676 390),
(397,cB "_law_pick" 686 185 3 392 693),
(398,fo (top 44) "_law_pick" hZ 676 397),
(402,cA "_law_switch" 696 188 3 399 699),
(403,fo (top 45) "_law_switch" hZ 676 402),
(407,cA "_law_setting" 702 204 2 404 705),
(408,fo (top 46) "_law_setting" hZ 676 407),
(412,cA "_law_odd" 708 206 2 409 711),
(413,fo (top 47) "_law_odd" hZ 676 412),
(419,cB "_law_class" 714 208 1 414 720),
(420,fo (top 48) "_law_class" hZ 676 419),
(426,cB "_law_told" 723 216 1 421 728),
(427,fo (top 49) "_law_told" hZ 676 426),
(433,cB "_law_deed" 731 221 3 428 742),
(434,fo (top 50) "_law_deed" hZ 676 433),
(438,cA "_law_behind" 745 233 2 435 748),
(439,fo (top 51) "_law_behind" hZ 676 438),
(445,cB "_law_did" 751 254 2 440 758),
(446,fo (top 52) "_law_did" hZ 676 445),
(450,cA "_law_all_of" 761 260 1 447 764),
(451,fo (top 53) "_law_all_of" hZ 676 450),
(455,cA "_law_rack_text" 767 262 1 452 770),
(456,fo (top 54) "_law_rack_text" hZ 676 455),
(462,cB "law" 773 268 1 457 786),
(463,fo (top 55) "law" hZ 676 462)]
noncomputable def kas:L1 Addr:=[3,20,21,30,31,32,43,44,55,56,67,68,79,80,91,92,103,104,115,116,127,128,139,140,148,149,155,156,160,161,167,168,174,175,181,182,188,189,195,196,202,203,207,208,212,213,217,218,222,223,224,230,231,235,236,240,241,245,246,252,253,259,260,273,274,280,281,287,288,294,295,301,302,308,309,315,316,322,323,329,330,336,337,343,344,350,351,357,358,364,365,367,368,369,370,376,377,383,384,390,391,397,398,402,403,407,408,412,413,419,420,426,427,433,434,438,439,445,446,450,451,455,456,462,463]
def kq:Program:={ci with main:={ci.main with body:=[top 0,top 2,top 3,top 4,top 5,top 6,top 7,top 8,top 9,top 10,top 11,top 13,top 14,top 15,top 16,top 17,top 18,top 19,top 21,top 22,top 23,top 24,top 25,top 26,top 27,top 29,top 30,top 31,top 32,top 34,top 35,top 36,top 37,top 38,top 39,top 40,top 41,top 43,top 44,top 45,top 46,top 47,top 48,top 49,top 50,top 51,top 52,top 53,top 54,top 55]} }
def sd:di.wellSaid=qz:=by kernel_rfl
def lk0 w os:SK.q1 di.row.prog kq ["FIGURES"] 7966 (gz (fw di.row)) kas (fx w "special-get-raises" q7) os=pi (qz,jx kq ["FIGURES"],(kK (fx w "special-get-raises" q7).params).map λp=>pi p.2):=by
 have _:=SK.tg;rw[PySem.W.Fast.te11324695928718235439]
 kernel_rfl
def lk1 w os:SK.q1 di.row.prog kq ["FIGURES"] 7966 (gz (fw di.row)) kas (fx w "special-get-raises" qz) os=pi (qz,jx kq ["FIGURES"],(kK (fx w "special-get-raises" qz).params).map λp=>pi p.2):=by
 have _:=SK.tg;rw[PySem.W.Fast.te11324695928718235439]
 kernel_rfl
def lk w os:SK.q1 di.row.prog kq ["FIGURES"] 7966 (gz (fw di.row)) kas w os=pi (qz,jx kq ["FIGURES"],(kK w.params).map λp=>pi p.2):=by have e:=PySem.World.withFollow_self w "special-get-raises";cases a:w.params.followText "special-get-raises"<;>rw[a]at e;have h:=lk0 w os;rwa [e]at h;have h:=lk1 w os;rwa [e]at h
def left:PySem.W.LeftO di.row.prog kq ["FIGURES"] (λs=>PySem.W.xlAt kq [] s&&PySem.W.recOk (gz (fw di.row)) s) (og.obs (m6 kK kas (λ_=>by kernel_rfl))) (og.val (m6 kK kas (λ_=>by kernel_rfl))) 7966:=SK.left_tree rfl rfl (λ_=>by kernel_rfl) lk
end SK.k75
namespace L2
open PySem PySem.Spec PyProof.Rows
abbrev Key:=Sum Int Str
noncomputable def sZ:Key->Value->Bool
 |.inl k,v=>Value.isInt k v
 |.inr x,v=>Value.isStrOf x v
def Pp(w:World):Key->Int
 |.inl k=>hashInt k
 |.inr x=>hashStr w x
def bY: ∀{k} {v},sZ k v=qz->(∃i t,k=qr i/\v=qf i t)\/(∃x t,k=qt x/\v=qg x t)
 |.inl i,v,h=>by
  obtain⟨t,e⟩:=Value.isInt_shape (k:=i) (v:=v) h;exact .inl ⟨i,t,rfl,e⟩
 |.inr x,v,h=>by
  obtain⟨t,e⟩:=Value.isStrOf_shape (x:=x) (v:=v) h;exact .inr ⟨x,t,rfl,e⟩
def yN i t:sZ (.inl i) (.int i t)=qz:=by simp[sZ,Value.isInt]
def yO x t:sZ (.inr x) (.str x t)=qz:=by simp[sZ,Value.isStrOf]
def Jl a b:decide ((qr a:Key)=qr b)=(a==b):=by by_cases e:a=b;subst e;simp;have h: ¬(qr a:Key)=qr b:=λq=>e (qr.inj q);rw[decide_eq_false h];exact(beq_eq_false_iff_ne.mpr e).symm
def Jm a b:decide ((qt a:Key)=qt b)=decide (a=b):=by by_cases e:a=b;subst e;simp;have h: ¬(qt a:Key)=qt b:=λq=>e (pf q);rw[decide_eq_false h,decide_eq_false e]
def Jn a b:decide ((qr a:Key)=qt b)=q7:=decide_eq_false (λq=>nomatch q)
def Jo a b:decide ((qt a:Key)=qr b)=q7:=decide_eq_false (λq=>nomatch q)
def bJ(prog:Program)(w:World):PySem.KeyKind prog w Key where
 is:=sZ;hash:=Pp w;inj:=λv a b ha hb=>by
  rcases bY ha with ⟨i,t,rfl,rfl⟩|⟨x,t,rfl,rfl⟩;rcases bY hb with ⟨j,u,rfl,e⟩|⟨y,u,rfl,e⟩;injection e with e1 _;rw[e1]
  exact nomatch e;rcases bY hb with ⟨j,u,rfl,e⟩|⟨y,u,rfl,e⟩;exact nomatch e;injection e with e1 _;rw[e1]
 byValue:=λk v h=>by
  rcases bY h with ⟨i,t,rfl,rfl⟩|⟨x,t,rfl,rfl⟩<;>rfl
 pyHash:=λhv h=>by
  rcases bY hv with ⟨i,t,rfl,rfl⟩|⟨x,t,rfl,rfl⟩;exact wpAny_pyHash_int h;exact wpAny_pyHash_str h
 eqBool:=λhu hv h=>by
  rcases bY hu with ⟨i,t,rfl,rfl⟩|⟨x,t,rfl,rfl⟩;rcases bY hv with ⟨j,u,rfl,rfl⟩|⟨y,u,rfl,rfl⟩;rw[Jl]at h;exact wpAny_eqBool_int h;rw[Jn]at h;exact SeqAt.EqAt.int_str i t y u _ _ _ _ h;rcases bY hv with ⟨j,u,rfl,rfl⟩|⟨y,u,rfl,rfl⟩;rw[Jo]at h;exact SeqAt.EqAt.str_int x t j u _ _ _ _ h;rw[Jm]at h;exact wpAny_eqBool_str h
 «strs»:=λk x t v h=>by
  rcases bY h with ⟨i,u,rfl,e⟩|⟨y,u,rfl,e⟩;exact nomatch e;injection e with e1 _
  subst e1;cases v<;>rfl
def tD prog w i t:(bJ prog w).is (.inl i) (.int i t)=qz:=yN i t
def lF prog w x t:(bJ prog w).is (.inr x) (.str x t)=qz:=yO x t
inductive V where
 |non|bl (b:Bool)|int (i:Int)|str (x:Str)|byt (b:Array UInt8)|flt (b:UInt64)|ref (a:Addr)|ty (n:String)
 deriving DecidableEq
def bG:V->Value->Prop
 |.non,u=>u=pw
 |.bl b,u=>u=p3 b
 |.int i,u=>∃t,u=qf i t
 |.str x,u=>∃t,u=qg x t
 |.byt b,u=>∃t,u=Value.bytes b t
 |.flt b,u=>∃t,u=Value.float b t
 |.ref a,u=>u=qh a
 |.ty n,u=>u=p4 n
abbrev cD:L1 V->L1 Value->Prop:=Paired bG
theorem cD.length(r:cD xs us):xs.length=us.length:=ng r
theorem cD.get: ∀{xs} {us} {i:Nat} {x},cD xs us->xs[i]? =pi x->∃u,us[i]? =pi u/\bG x u
 |_,_,_,_,.nil,e=>by simp at e
 |_,_,0,_,.cons r _,e=>by simp at e;subst e;exact⟨_,rfl,r⟩
 |_,_,i+1,x,.cons _ t,e=>by
  obtain⟨u,a,b⟩:=cD.get (i:=i) (x:=x) t (by simpa using e);exact⟨u,by simpa using a,b⟩
theorem cD.set{x}{u}(r:bG x u): ∀{xs} {us} i,cD xs us->cD (xs.set i x) (us.set i u)
 |_,_,_,.nil=>.nil
 |_,_,0,.cons _ t=>.cons r t
 |_,_,i+1,.cons q t=>.cons q (cD.set r i t)
theorem cD.append: ∀{xs ys} {us ws},cD xs us->cD ys ws->cD (xs++ys) (us++ws)
 |_,_,_,_,.nil,s=>s
 |_,_,_,_,.cons r t,s=>.cons r (cD.append t s)
theorem cD.take: ∀{xs} {us} n,cD xs us->cD (xs.take n) (us.take n)
 |_,_,0,_=>.nil
 |_,_,_+1,.nil=>.nil
 |_,_,n+1,.cons r t=>.cons r (cD.take n t)
theorem cD.drop: ∀{xs} {us} n,cD xs us->cD (xs.drop n) (us.drop n)
 |_,_,0,r=>r
 |_,_,_+1,.nil=>.nil
 |_,_,n+1,.cons _ t=>cD.drop n t
def mZ:L7 V->L7 Value->Prop
 |some v,pi u=>bG v u
 |none,qw=>True
 |_,_=>False
def KV{κ:Type}:L1 (κ×V)->L1 (κ×Value)->Prop:=Paired λ(p:κ×V) (q:κ×Value)=>p.1=q.1/\bG p.2 q.2
noncomputable def kV:Key->V
 |.inl i=>.int i
 |.inr x=>.str x
inductive HO where
 |lst (xs:List V)
 |tup (xs:List V)
 |dK (kvs:List (Key×V))|dT (kvs:List (List Key×V))
 |set (S:Int->Bool) (n:Nat)
 |ins (C dx:Addr) (fs:List (Str×V))
 |own (x:Addr)
 |xd (fs:List (Str×V))
 |met (f x:Addr)
 |rng (lo hi:Int)
 |frz (o:Obj) (u:HO)
 |tbl (ps:Array Value)
 |ext (φ:Heap->Prop)
abbrev Hp:=Addr->L7 HO
noncomputable def upd(H:Hp)(a:Addr)(o:HO):Hp:=λb=>if b=a then pi o else H b
def aH:upd H a o a=pi o:=by unfold upd;rw[if_pos rfl]
def aC(h:b≠a):upd H a o b=H b:=by unfold upd;rw[if_neg h]
def yP:upd (upd H a o) a u=upd H a u:=by funext b;unfold upd;split<;>rfl
def Ng{H:Hp}(h:H a=pi o)(h':H b=pi u)(d:o≠u):a≠b:=by intro e;subst e;rw[h]at h';exact d (ku h')
def aO{H:Hp}(h:H a=pi o)(h':H b=qw):a≠b:=by intro e;subst e;rw[h]at h';cases h'
def Jp(h:Heap)(a:Addr):Prop:= ∃o,h.get? a=pi o/\o.dict=qw
section
variable (P:Program) (w:World)
def ObjOk(H:Hp)(h:Heap)(a:Addr):HO->Prop
 |.lst xs=>xs.length<=sizeLine/\∃(its:L1 Value) (n:Nat),cD xs its/\h.get? a=pi {cls:=.type "list",data:=.seq its.toArray n}
 |.tup xs=>xs.length<=sizeLine/\∃its:L1 Value,cD xs its/\IsTup h a its.toArray/\Jp h a
 |.dK kvs=>kvs.length<=sizeLine/\(a==sysModules)=q7/\∃vs,KV kvs vs/\h.DictOf (bJ P w) a vs
 |.dT kvs=>kvs.length<=sizeLine/\(a==sysModules)=q7/\∃xs:L1 (L1 Key×Addr×Value),
   Paired (λ(p:L1 Key×V) (q:L1 Key×Addr×Value)=>p.1=q.1/\H q.2.1=pi (.tup (p.1.map kV))/\bG p.2 q.2.2) kvs xs/\
   ∃o es ep,h.get? a=pi o/\o.ExactDict/\o.data= .dict es ep/\es.toList=xs.map (entryOfKey (tupleKind (bJ P w)))/\(xs.map (·.1)).Nodup
 |.set S n=>h.SetOf (intKind P w) a S n
 |.ins C dx fs=>H dx=pi (.own a)/\fs.length<=1000/\dx≠a/\h.get? a=pi (ky C dx)/\
   ∃mA,h.Ns1 dx mA/\(∀f,mZ (fs.lookup f) (mA f))/\oj mA (fs.map (·.1))
 |.own _=>∃o,h.get? a=pi o
 |.xd fs=>∃mA,h.Ns1 a mA/\∀f,mZ (fs.lookup f) (mA f)
 |.rng lo hi=>∃t u v,h.get? a=pi {cls:=.type "range",data:=.fields #[.int lo t,.int hi u,.int 1 v]}
 |.frz o u=>h.get? a=pi o/\ObjOk H h a u
 |.tbl ps=>h.get? a=pi {cls:=.none,data:=.fields ps}
 |.met f x=>h.get? a=pi (jd (.ref f) (.ref x))
 |.ext φ=>φ h/\(∃o,h.get? a=pi o)/\∀h1 h2:Heap,φ h1->(∀o,h1.get? a=pi o->h2.get? a=pi o)->φ h2
def HOk(H:Hp)(h:Heap):Prop:= ∀a o,H a=pi o->ObjOk P w H h a o
end
section
variable{a:Addr}
theorem ObjOk.lt(x:ObjOk P w H h a o):a<h.objs.size:=by rcases o with b|b|kvs|kvs|⟨S,n⟩|⟨C,j,fs⟩|y|fs|⟨f,y⟩|⟨l,i⟩|⟨c,u⟩|d|g;obtain⟨_,_,_,_,e⟩:=x;exact ah e;obtain⟨_,_,_,p,_⟩:=x;exact p.lt;obtain⟨_,_,_,_,o,_,_,e,_⟩:=x;exact ah e;obtain⟨_,_,_,_,o,_,_,e,_⟩:=x;exact ah e;obtain⟨o,_,_,_,e,_⟩:=x;exact ah e;obtain⟨_,_,_,e,_⟩:=x;exact ah e;obtain⟨_,e⟩:=x;exact ah e;obtain⟨_,⟨_,_,_,e,_⟩,_⟩:=x;exact ah e;exact ah (show h.get? a=pi _ from x);obtain⟨_,_,_,e⟩:=x;exact ah e;obtain⟨e,_⟩:=x;exact ah e;exact ah (show h.get? a=pi _ from x);obtain⟨_,⟨_,e⟩,_⟩:=x;exact ah e
theorem Paired.mapP{α β}{F G:α->β->Prop}: ∀{l₁} {l₂},Paired F l₁ l₂->(∀a b,F a b->G a b)->Paired G l₁ l₂
 |_,_,.nil,_=>.nil
 |_,_,.cons r t,f=>.cons (f _ _ r) (Paired.mapP t f)
def ObjOk.stay(x:ObjOk P w H h a o)(k: ∀b u,(b=a\/H b=pi (.own a))->h.get? b=pi u->h'.get? b=pi u)(ho: ∀b,H b=pi (.own a)->H' b=pi (.own a))(ht: ∀b xs,H b=pi (.tup xs)->H' b=pi (.tup xs)):ObjOk P w H' h' a o:=by
 induction o with
 |lst xs=>obtain⟨z,l,n,r,e⟩:=x;exact⟨z,l,n,r,k _ _ (.inl rfl) e⟩
 |tup xs=>obtain⟨z,l,r,⟨g,e,c⟩,m,E,d⟩:=x;exact⟨z,l,r,⟨g,k _ _ (.inl rfl) e,c⟩,m,k _ _ (.inl rfl) E,d⟩
 |dK kvs=>obtain⟨z,y,I,r,g,i,j,e,c⟩:=x;exact⟨z,y,I,r,g,i,j,k _ _ (.inl rfl) e,c⟩
 |dT kvs=>
  obtain⟨z,y,xs,r,g,i,j,e,c⟩:=x;exact⟨z,y,xs,Paired.mapP r λp q z=>⟨z.1,ht _ _ z.2.1,z.2.2⟩,g,i,j,k _ _ (.inl rfl) e,c⟩
 |set S n=>obtain⟨g,i,j,t,e,c⟩:=x;exact⟨g,i,j,t,k _ _ (.inl rfl) e,c⟩
 |ins C N fs=>
  obtain⟨d,z,J,e,s,⟨m,i,j,K,c⟩,r⟩:=x;exact⟨ho _ d,z,J,k _ _ (.inl rfl) e,s,⟨m,i,j,k _ _ (.inr d) K,c⟩,r⟩
 |own y=>obtain⟨g,e⟩:=x;exact⟨g,k _ _ (.inl rfl) e⟩
 |xd fs=>obtain⟨s,⟨m,i,j,e,c⟩,r⟩:=x;exact⟨s,⟨m,i,j,k _ _ (.inl rfl) e,c⟩,r⟩
 |rng O M=>obtain⟨t,u,v,e⟩:=x;exact⟨t,u,v,k _ _ (.inl rfl) e⟩
 |frz g u G=>obtain⟨e,q⟩:=x;exact⟨k _ _ (.inl rfl) e,G q⟩
 |tbl A=>
  have e:h.get? a=pi {cls:=.none,data:=.fields A}:=x
  show h'.get? a=pi {cls:=.none,data:=.fields A};exact k a _ (.inl rfl) e
 |met f y=>
  have e:h.get? a=pi (jd (.ref f) (.ref y)):=x
  show h'.get? a=pi (jd (.ref f) (.ref y));exact k a _ (.inl rfl) e
 |ext L=>obtain⟨p,⟨o,e⟩,B⟩:=x;exact⟨B _ _ p λo q=>k _ _ (.inl rfl) q,⟨o,k _ _ (.inl rfl) e⟩,B⟩
theorem HOk.lt(x:HOk P w H h)(e:H a=pi o):a<h.objs.size:=(x a o e).lt
def HOk.fresh(x:HOk P w H h)(e:h.objs.size<=a):H a=qw:=by rcases q:H a with _|u;rfl;exact absurd (bg (x.lt q) e) (nh _)
def HOk.kept(x:HOk P w H h)(k: ∀b u,h.get? b=pi u->h'.get? b=pi u):HOk P w H h':=λa o e=>
 (x a o e).stay (λb u _ q=>k b u q) (λ_ q=>q) λ_ _ q=>q
def HOk.laid(x:HOk P w H h)(k: ∀b u,h.get? b=pi u->h'.get? b=pi u)(hp:h.objs.size<=a)(new:ObjOk P w (upd H a o) h' a o):HOk P w (upd H a o) h':=λb u e=>by
 have f:=x.fresh hp;by_cases d:b=a;subst d;rw[aH]at e;cases e;exact new;rw[aC d]at e;exact(x b u e).stay (λc v _ q=>k c v q) (λc q=>by rw[aC (aO q f)];exact q) λc g q=>by rw[aC (aO q f)];exact q
end
def Rd(H:Hp)(a:Addr)(u:HO):Prop:=H a=pi u\/∃o,H a=pi (.frz o u)
def Rd.ok(r:Rd H a u)(x:HOk P w H h):ObjOk P w H h a u:=by rcases r with r|⟨o,r⟩;exact x a u r;obtain⟨_,q⟩:=x a _ r;exact q
def Mut:L7 HO->Prop
 |some (.lst _)=>True
 |some (.dK _)=>True
 |some (.dT _)=>True
 |some (.set _ _)=>True
 |some (.ins _ _ _)=>True
 |some (.ext _)=>True
 |_=>False
def HOk.write(ok:HOk P w H h)(mu:Mut (H x))(he:e=x\/H e=pi (.own x))(k: ∀b u,b≠e->h.get? b=pi u->h'.get? b=pi u)(heo: ∃u,h'.get? e=pi u)(new:ObjOk P w (upd H x o') h' x o'):HOk P w (upd H x o') h':=λb u q=>by
 have d: ∀c y,H c=pi (.own y)->c≠x:=λc y r z=>by subst z;rw[r]at mu;exact mu
 have f: ∀c g,H c=pi (.tup g)->c≠x:=λc g r z=>by subst z;rw[r]at mu;exact mu
 by_cases i:b=x;subst i;rw[aH]at q;cases q;exact new;rw[aC i]at q;by_cases a:b=e;have l:H b=pi (.own x):=by
  rcases he with z|z;exact absurd (a.trans z) i;rw[a];exact z
 rw[q]at l;cases l;obtain⟨v,m⟩:=heo;exact⟨v,by rw[a];exact m⟩;refine(ok b u q).stay (λc v j r=>k c v ?_ r) (λc r=>by rw[aC (d c b r)];exact r) λc g r=>by rw[aC (f c g r)];exact r
 rcases j with rfl|j;exact a;rintro rfl;rcases he with z|z;exact d c b j z;rw[j]at z;cases z;exact i rfl
structure Un(fs ex:List Addr)(H H':Hp)(h h':Heap):Prop where
 keep: ∀b o,h.get? b=pi o->H b=qw->b∉fs->b∉ex->h'.get? b=pi o
 slot: ∀b o,h.get? b=pi o->H b=qw->b∈fs->b∉ex->∃sl,h'.get? b=pi {o with slots:=sl}
 free: ∀b o,h.get? b=pi o->H b=qw->b∉ex->H' b=qw
 there: ∀b o,h.get? b=pi o->b∉ex->∃o',h'.get? b=pi o'
 tups: ∀b xs,H b=pi (.tup xs)->H' b=pi (.tup xs)
 frzs: ∀b o u,H b=pi (.frz o u)->H' b=pi (.frz o u)
 tbls: ∀b ps,H b=pi (.tbl ps)->∃more,H' b=pi (.tbl (ps++more))
section
variable{h:Heap}{a:Addr}
def Un.any(u:Un fs ex H H1 h h1)(q:h.get? b=pi ob)(n:H b=qw)(hx:b∉ex): ∃sl,h1.get? b=pi {ob with slots:=sl}:=by by_cases a:b∈fs;exact u.slot b ob q n a hx;exact⟨ob.slots,u.keep b ob q n a hx⟩
def Un.kept(k: ∀b u,h.get? b=pi u->h'.get? b=pi u):Un fs ex H H h h':=
 ⟨λb a q _ _ _=>k b a q,λb a q _ _ _=>⟨a.slots,k b a q⟩,λ_ _ _ n _=>n,λb a q _=>⟨a,k b a q⟩,λ_ _ q=>q,λ_ _ _ q=>q,λ_ c q=>⟨#[],by rw[q];simp⟩⟩
def Un.refl:Un fs ex H H h h:=Un.kept λ_ _ q=>q
def Un.laid(k: ∀b u,h.get? b=pi u->h'.get? b=pi u)(hp:h.objs.size<=a)(hn:H a=qw):Un fs ex H (upd H a o) h h' where
 keep:=λb u q _ _ _=>k b u q;slot:=λb u q _ _ _=>⟨u.slots,k b u q⟩;free:=λb u q n _=>by rw[aC (bh (bg (ah q) hp))];exact n
 there:=λb u q _=>⟨u,k b u q⟩;tups:=λb c q=>by rw[aC (aO q hn)];exact q
 frzs:=λb u c q=>by rw[aC (aO q hn)];exact q
 tbls:=λb d q=>⟨#[],by rw[aC (aO q hn),q];simp⟩
def Un.write(mu:Mut (H x))(he:e=x\/H e=pi (.own x))(k: ∀b u,b≠e->h.get? b=pi u->h'.get? b=pi u)(heo: ∃u,h'.get? e=pi u):Un fs ex H (upd H x o) h h':=by
 have f: ∀b,H b=qw->b≠x:=λb n z=>by subst z;rw[n]at mu;exact mu
 have d: ∀b,H b=qw->b≠e:=λb n z=>by
  subst z;rcases he with r|r;exact f b n r;rw[n]at r;cases r
 have c: ∀b u,H b=pi u->¬Mut (pi u)->b≠x:=λb u q nm z=>by subst z;rw[q]at mu;exact nm mu
 refine⟨λb u q n _ _=>k b u (d b n) q,λb u q n _ _=>⟨u.slots,k b u (d b n) q⟩,λb u q n _=>by rw[aC (f b n)];exact n,λb u q _=>?_,
  λb g q=>by rw[aC (c b _ q λz=>z)];exact q,λb u g q=>by rw[aC (c b _ q λz=>z)];exact q,λb i q=>⟨#[],by rw[aC (c b _ q λz=>z),q];simp⟩⟩
 by_cases a:b=e;subst a;exact heo;exact⟨u,k b u a q⟩
end
noncomputable def trk(h:Heap)(H:Hp):L1 Addr:=(pq h.objs.size).filter λa=>(H a).isSome
def Jq(h:Heap)(H:Hp):Heap:=PySem.W.hideAll h (trk h H)
def yQ h H:(Jq h H).objs.size=h.objs.size:=PySem.W.hideAll_size _ _
def B9(e:h.get? b=pi o)(n:H b=qw):(Jq h H).get? b=pi o:=
 PySem.W.hideAll_get _ e λa=>by
  have q:(H b).isSome=qz:=(kz.mp a).2;rw[n]at q;simp at q
def tF(e:(Jq h H).get? b=pi o):h.get? b=pi o/\H b=qw:=by have a:h.get? b=pi o:=PySem.W.of_hideAll (trk h H) e;refine⟨a,?_⟩;rcases q:H b with _|x;rfl;have c:b∈trk h H:=kz.mpr ⟨zPd (ah a),by simp[q]⟩;have z:(Jq h H).get? b=qw:=PySem.W.hideAll_none (trk h H) c;rw[z]at e;cases e
noncomputable def Fx(g h:Heap)(L:Addr):cf:=(pq h.objs.size).filterMap λa=>if a=L\/(g.get? a).isSome=qz then qw else(h.get? a).map λo=>(a,o)
def dO(g h:Heap)(L d:Addr):cf:=(Fx g h L).filter λp=>decide (p.1≠d)
structure Mod(K:oe)(mg:Str->Option Value)(base:Heap):Prop where
 kin:K.In base
 glob:base.Ns mainGlobals mg
 blt: ∃mb,base.Ns builtinsNs mb/\∀x:Str,x≠"__name__"->mb x=bootBuiltins x
 nolimit:base.NoLimit
structure Cx where
 prog:Program
 w:World
 K:oe
 mg:Str->Option Value
 base:Heap
 A:Around
 N:List Str
 s₀:Shared
 H₀:Hp
 env:Env
 outer:List Env
 stack:List Env
 ex:List Addr
 fn:Str->Bool
 calm:Bool
 pn:cf
 xe:Value->Shared->Prop
abbrev Cx.wp(X:Cx){α:Type}:=@wpAny α (model X.prog X.w) X.A
noncomputable def frs(l:L1 Env):L1 Addr:=l.filterMap (·.frame)
abbrev Cx.fs(X:Cx):L1 Addr:=frs X.outer
def Vis(sc:Scope)(x:Str):Prop:=sc.names.lookup x=pi .local\/sc.names.lookup x=pi .cell\/sc.names.lookup x=pi .free
def Loc(sc:Scope)(x:Str):Prop:=sc.names.lookup x=pi .local\/sc.names.lookup x=pi .cell
def Pq(env:Env)(h:Heap)(m:Str->L7 Value)(x:Str)(u:Value):Prop:=
 (env.kindOf x=pi .local/\m x=pi u)\/((env.kindOf x=pi .cell\/env.kindOf x=pi .free)/\∃c,env.cells.lookup x=pi c/\h.IsCell c (pi u))
structure Cx.Ok(X:Cx):Prop where
 mod:Mod X.K X.mg X.base
 kind:X.env.scope.kind= .function
 glob:X.env.globals=mainGlobals
 blt:X.env.builtins=builtinsNs
 above:X.s₀.z<=X.env.locals
 inj: ∀x y c,X.env.cells.lookup x=pi c->X.env.cells.lookup y=pi c->x=y
 has: ∀x,(X.env.kindOf x=pi .cell\/X.env.kindOf x=pi .free)->∃c,X.env.cells.lookup x=pi c
 cab: ∀x c,X.fn x=qz->X.env.cells.lookup x=pi c->X.s₀.z<=c
 hd:X.calm=qz->X.A.handled=qw
 frames:X.A.frames=pi X.stack
 stk:X.stack=X.outer\/(X.stack=X.env::X.outer/\X.env.frame=pi X.env.locals)
 exf: ∀b∈X.ex,b≠X.env.locals/\∀x c,X.env.cells.lookup x=pi c->c≠b
 bs: ∀b o,X.base.get? b=pi o->X.s₀.heap.get? b=pi o/\X.H₀ b=qw
 bsz:X.base.objs.size<=X.s₀.z
 noex: ∀b o,X.base.get? b=pi o->b∉X.ex
 exfs: ∀b∈X.ex,b∉X.fs
 funs:X.s₀.heap.FunFrames X.base X.outer
 frf: ∀b∈X.fs,X.H₀ b=qw
structure Inv(X:Cx)(cc:cf)(σ:List (Option V))(H:Hp)(s:Shared):Prop where
 ok:X.Ok
 os:s.os=X.s₀.os
 bare:AllBare s.gens
 base:Un X.fs X.ex X.H₀ H X.s₀.heap s.heap
 loc: ∃m,s.heap.Ns X.env.locals m/\∀(i:Nat) (x:Str) (v:V),X.N[i]? =pi x->σ[i]? =pi (pi v)->Vis X.env.scope x->∃u,bG v u/\Pq X.env s.heap m x u
 cell: ∀x c,X.env.cells.lookup x=pi c->∃v,s.heap.IsCell c v
 free:H X.env.locals=qw
 freeC: ∀x c,X.env.cells.lookup x=pi c->H c=qw
 pin: ∀p∈X.pn++cc,s.heap.get? p.1=pi p.2/\H p.1=qw/\p.1≠X.env.locals/\p.1∉X.fs/\∀v,p.2.data≠ .cell v
 hok:HOk X.prog X.w H s.heap
 len:σ.length=X.N.length
section
variable{X:Cx}{cc:cf}{σ:L1 (L7 V)}{H:Hp}{s:Shared}
def Cx.Ok.nofr(ok:X.Ok)(e:X.base.get? b=pi o):b∉X.fs:=λa=>by
 have:=(ok.funs.mem a).1;rw[e]at this;cases this
theorem Inv.bs(I:Inv X cc σ H s): ∀b o,X.base.get? b=pi o->s.heap.get? b=pi o/\H b=qw:=λb o e=>
 ⟨I.base.keep b o (I.ok.bs b o e).1 (I.ok.bs b o e).2 (I.ok.nofr e) (I.ok.noex b o e),I.base.free b o (I.ok.bs b o e).1 (I.ok.bs b o e).2 (I.ok.noex b o e)⟩
def Inv.bk(I:Inv X cc σ H s): ∀b o,X.base.get? b=pi o->s.heap.get? b=pi o:=λb o e=>(I.bs b o e).1
theorem Inv.mod(I:Inv X cc σ H s):Mod X.K X.mg X.base:=I.ok.mod
def Inv.kIn(I:Inv X cc σ H s):X.K.In s.heap:=I.ok.mod.kin.keeps I.bk
theorem Inv.lt(I:Inv X cc σ H s):X.env.locals<s.z:=let ⟨_,hn,_⟩:=I.loc;hn.lt
def Inv.sz(I:Inv X cc σ H s):X.s₀.z<=s.z:=om I.ok.above (oo I.lt)
def Inv.nofs(I:Inv X cc σ H s){a:Addr}(h:s.z<=a):a∉X.fs:=λb=>by
 obtain⟨_,o,c,_⟩:=I.ok.funs.mem b;exact absurd (bg (ah c) (om I.sz h)) (nh _)
def Inv.cne(I:Inv X cc σ H s): ∀x c,X.env.cells.lookup x=pi c->c≠X.env.locals:=λx c e z=>by
 obtain⟨v,o,f,d⟩:=I.cell x c e;obtain⟨m,⟨i,h,g,a,b,_⟩,_⟩:=I.loc;rw[z,a]at f;cases f;rw[b]at d;cases d
theorem Inv.funs(I:Inv X cc σ H s):s.heap.FunFrames X.base X.outer:=by
 have all: ∀(l:L1 Env),(∀b∈frs l,b∈X.fs)->X.s₀.heap.FunFrames X.base l->s.heap.FunFrames X.base l:=by
  intro l;induction l with
  |nil=>intro _ _;trivial
  |cons i r n=>
   intro f g;obtain⟨hk,⟨L,o,d,p,h,m⟩,j⟩:=g;have c:L∈X.fs:=f L (by unfold frs;rw[ib,d];exact ir);obtain⟨q,e⟩:=I.base.slot L o h (I.ok.frf L c) c λz=>I.ok.exfs L z c;exact⟨hk,⟨L,_,d,p,e,m⟩,n (λb a=>f b (by unfold frs;rw[ib,d];exact g7 _ a)) j⟩
 exact all X.outer (λ_ a=>a) I.ok.funs
theorem Inv.stack(I:Inv X cc σ H s):s.heap.FunFrames X.base X.stack:=by rcases I.ok.stk with e|⟨e,hf⟩;rw[e];exact I.funs;rw[e];obtain⟨m,a,_⟩:=I.loc;refine .cons (by rw[I.ok.kind];decide) hf a ?_ I.funs;exact Heap.get?_none_of_le (om I.ok.bsz I.ok.above)
def Inv.stkSub(I:Inv X cc σ H s): ∀b∈frs X.stack,b∈X.env.locals::X.fs:=λb a=>by
 rcases I.ok.stk with e|⟨e,hf⟩;rw[e]at a;exact g7 _ a;rw[e]at a;unfold frs at a;rw[ib,hf]at a;exact a
def Inv.stkFree(I:Inv X cc σ H s): ∀b∈frs X.stack,H b=qw:=λb a=>by
 rcases av.mp (I.stkSub b a)with e|a;rw[e];exact I.free;obtain⟨_,o,c,_⟩:=I.ok.funs.mem a;exact I.base.free b o c (I.ok.frf b a) λz=>I.ok.exfs b z a
def Inv.step{ch:L1 Addr}(I:Inv X cc σ H s)(hch: ∀b∈ch,(b∈X.ex\/X.s₀.z<=b)/\b≠X.env.locals/\(∀x c,X.env.cells.lookup x=pi c->c≠b)/\∀p∈X.pn++cc,p.1≠b)(keep: ∀b o,b≠X.env.locals->b∉X.fs->b∉ch->s.heap.get? b=pi o->H b=qw->h'.get? b=pi o)(slot: ∀b o,b≠X.env.locals->b∈X.fs->b∉ch->s.heap.get? b=pi o->H b=qw->∃sl,h'.get? b=pi {o with slots:=sl})(free: ∀b o,b∉ch->s.heap.get? b=pi o->H b=qw->H' b=qw)(there: ∀b o,b∉ch->s.heap.get? b=pi o->∃o',h'.get? b=pi o')(tups: ∀b xs,H b=pi (.tup xs)->H' b=pi (.tup xs))(frzs: ∀b o u,H b=pi (.frz o u)->H' b=pi (.frz o u))(tbls: ∀b ps,H b=pi (.tbl ps)->∃more,H' b=pi (.tbl (ps++more)))(ns: ∀m,s.heap.Ns X.env.locals m->h'.Ns X.env.locals m)(hok:HOk X.prog X.w H' h')(hg:AllBare g'):
  Inv X cc σ H' {s with heap:=h',gens:=g',drawn:=d',toks:=t'}:=by
 have B: ∀b o,X.s₀.heap.get? b=pi o->b≠X.env.locals:=λb o e=>bh (bg (ah e) I.ok.above);have j: ∀b o,X.s₀.heap.get? b=pi o->b∉X.ex->b∉ch:=λb o e a t=>by
  rcases(hch b t).1 with z|z;exact a z;exact absurd (bg (ah e) z) (nh _)
 have f: ∀x c,X.env.cells.lookup x=pi c->∀v,s.heap.IsCell c v->h'.IsCell c v:=λx c e v ⟨o,y,C⟩=>by
  have g:c∉ch:=λz=>(hch c z).2.2.1 x c e rfl;by_cases J:c∈X.fs;obtain⟨sl,q⟩:=slot c o (I.cne x c e) J g y (I.freeC x c e);exact⟨_,q,C⟩;exact⟨o,keep c o (I.cne x c e) J g y (I.freeC x c e),C⟩
 refine⟨I.ok,I.os,hg,⟨λb o e n t a=>?_,λb o e n t a=>?_,λb o e n a=>?_,λb o e a=>?_,λb xs e=>tups b xs (I.base.tups b xs e),λb o xs e=>frzs b o xs (I.base.frzs b o xs e),λb ps e=>?_⟩,?_,λx c e=>?_,?_,λx c e=>?_,λp K=>?_,hok,I.len⟩;exact keep b o (B b o e) t (j b o e a) (I.base.keep b o e n t a) (I.base.free b o e n a);obtain⟨sl,h⟩:=I.base.slot b o e n t a;obtain⟨E,A⟩:=slot b _ (B b o e) t (j b o e a) h (I.base.free b o e n a);exact⟨E,A⟩;obtain⟨o',h⟩:=I.base.there b o e a;exact free b o' (j b o e a) h (I.base.free b o e n a);obtain⟨o',h⟩:=I.base.there b o e a;exact there b o' (j b o e a) h;obtain⟨S,h⟩:=I.base.tbls b ps e;obtain⟨Q,A⟩:=tbls b _ h;exact⟨S++Q,by rw[A,Array.append_assoc]⟩;obtain⟨m,N,M⟩:=I.loc;refine⟨m,ns m N,λi x v h A O=>?_⟩;obtain⟨u,r,l⟩:=M i x v h A O;refine⟨u,r,?_⟩;rcases l with l|⟨k,c,e,z⟩;exact .inl l;exact .inr ⟨k,c,e,f x c e _ z⟩;obtain⟨v,z⟩:=I.cell x c e;exact⟨v,f x c e v z⟩;obtain⟨m,⟨o,_,_,y,_⟩,_⟩:=I.loc;exact free _ o (λz=>(hch _ z).2.1 rfl) y I.free;obtain⟨v,o,y,C⟩:=I.cell x c e;exact free c o (λz=>(hch c z).2.2.1 x c e rfl) y (I.freeC x c e);obtain⟨e,n,L,G,d⟩:=I.pin p K;have g:p.1∉ch:=λz=>(hch p.1 z).2.2.2 p K rfl;exact⟨keep p.1 p.2 L G g e n,free p.1 p.2 g e n,L,G,d⟩
def Inv.un(I:Inv X cc σ H s)(u:Un X.fs [] H H' s.heap h')(hok:HOk X.prog X.w H' h'):Inv X cc σ H' {s with heap:=h',toks:=t'}:=by
 obtain⟨m,⟨o,l,t,g,r⟩,_⟩:=id I.loc;obtain⟨q,h⟩:=u.any g I.free (by simp);exact I.step (g':=s.gens) (d':=s.drawn) (ch:=[]) (λ_ z=>nomatch z) (λb o _ c _ e n=>u.keep b o e n c (by simp)) (λb o _ c _ e n=>u.slot b o e n c (by simp)) (λb o _ e n=>u.free b o e n (by simp)) (λb o _ e=>u.there b o e (by simp)) u.tups u.frzs u.tbls (λv j=>by
  obtain⟨p,f,d,a,i⟩:=j;rw[g]at a;cases a;exact⟨_,f,d,h,i⟩) hok I.bare
def Inv.call(I:Inv X cc σ H s)(u:Un (frs X.stack) ch H H' s.heap h')(hok:HOk X.prog X.w H' h')(hg:AllBare g')(hch: ∀b∈ch,(b∈X.ex\/X.s₀.z<=b)/\b≠X.env.locals/\(∀x c,X.env.cells.lookup x=pi c->c≠b)/\∀p∈X.pn++cc,p.1≠b):
  Inv X cc σ H' {s with heap:=h',gens:=g',drawn:=d',toks:=t'}:=by
 obtain⟨m,⟨o,t,A,i,r⟩,_⟩:=id I.loc;obtain⟨y,f⟩:=u.any i I.free λz=>(hch _ z).2.1 rfl;exact I.step (ch:=ch) hch (λb o f j a e n=>u.keep b o e n (λz=>(av.mp (I.stkSub b z)).elim f j) a) (λb o _ _ a e n=>u.any e n a) (λb o a e n=>u.free b o e n a) (λb o a e=>u.there b o e a) u.tups u.frzs u.tbls (λB q=>by
  obtain⟨v,h,g,d,l⟩:=q;rw[i]at d;cases d;exact⟨_,h,g,f,l⟩) hok hg
def Inv.turned(I:Inv X cc σ H s)(k: ∀b o,b≠it->s.heap.get? b=pi o->h'.get? b=pi o)(hn:H it=qw)(hL:it≠X.env.locals)(h1:it∈X.ex\/X.s₀.z<=it)(h2: ∀x c,X.env.cells.lookup x=pi c->c≠it)(h3: ∀p∈X.pn++cc,p.1≠it):Inv X cc σ H {s with heap:=h',toks:=t'}:=by
 have d: ∀b u,H b=pi u->b≠it:=λb u e z=>by rw[z,hn]at e;cases e
 refine I.step (g':=s.gens) (d':=s.drawn) (ch:=[it]) (λb g=>?_) (λb o _ _ a e _=>k b o (λz=>a (by simp[z])) e) (λb o _ _ a e _=>⟨o.slots,k b o (λz=>a (by simp[z])) e⟩) (λ_ _ _ _ n=>n)
  (λb o a e=>⟨o,k b o (λz=>a (by simp[z])) e⟩) (λ_ _ e=>e) (λ_ _ _ e=>e) (λb l e=>⟨#[],by rw[e];simp⟩) (λm j=>?_) (λb u e=>?_) I.bare
 have e:b=it:=by simpa using g
 subst e;exact⟨h1,hL,h2,h3⟩;obtain⟨o,f,i,h,r⟩:=j;exact⟨o,f,i,k _ o (qu hL) h,r⟩;refine(I.hok b u e).stay (λc v a q=>k c v ?_ q) (λ_ q=>q) λ_ _ q=>q;rcases a with z|z;rw[z];exact d b u e;exact d c _ z
def Inv.tok(I:Inv X cc σ H s)t:Inv X cc σ H {s with toks:=t}:=I.un (h':=s.heap) (t':=t) Un.refl I.hok
theorem Inv.kept(I:Inv X cc σ H s)(k: ∀b u,s.heap.get? b=pi u->h'.get? b=pi u):Inv X cc σ H {s with heap:=h',toks:=t'}:=I.un (Un.kept k) (I.hok.kept k)
theorem Inv.laid{a:Addr}(I:Inv X cc σ H s)(k: ∀b u,s.heap.get? b=pi u->h'.get? b=pi u)(hp:s.z<=a)(new:ObjOk X.prog X.w (upd H a o) h' a o):
  Inv X cc σ (upd H a o) {s with heap:=h',toks:=t'}:=I.un (Un.laid k hp (I.hok.fresh hp)) (I.hok.laid k hp new)
theorem Inv.write(I:Inv X cc σ H s)(mu:Mut (H x))(he:e=x\/H e=pi (.own x))(k: ∀b u,b≠e->s.heap.get? b=pi u->h'.get? b=pi u)(heo: ∃u,h'.get? e=pi u)(new:ObjOk X.prog X.w (upd H x o) h' x o):Inv X cc σ (upd H x o) {s with heap:=h',toks:=t'}:=I.un (Un.write mu he k heo) (I.hok.write mu he k heo new)
def Inv.pins_of(I:Inv X cc σ H s)(h: ∀p∈pins',s.heap.get? p.1=pi p.2/\H p.1=qw/\p.1≠X.env.locals/\p.1∉X.fs/\∀v,p.2.data≠ .cell v):Inv X pins' σ H s:=
 ⟨I.ok,I.os,I.bare,I.base,I.loc,I.cell,I.free,I.freeC,λp a=>(k6.mp a).elim (λz=>I.pin p (g8 _ z)) (h p),I.hok,I.len⟩
def oG{N:L1 Str}(hN:N.Nodup){i j:Nat}(a:N[i]? =pi x)(b:N[j]? =pi x):i=j:=by obtain⟨e,d⟩:=ay.mp a;obtain⟨f,c⟩:=ay.mp b;exact(List.getElem_inj hN).mp (d.trans c.symm)
def p7{M:Model}{A:Around}{E:ce}{i:Nat}{x:Str}{v:V}{u:Value}{Q:Unit->Shared->Prop}(I:Inv X cc σ H s)(hN:X.N.Nodup)(hi:X.N[i]? =pi x)(hx:Loc X.env.scope x)(r:bG v u)
  (h: ∀s',Inv X cc (σ.set i (pi v)) H s'->(∃a,oq a s.heap s'.heap/\(a=X.env.locals\/X.env.cells.lookup x=pi a))->Q () s') (hf:X.fn x=qz\/X.env.scope.names.lookup x=pi .local:=by first|exact .inl rfl|exact .inr rfl|assumption):wpAny M A (storeName X.env x u) Q E s:=by
 obtain⟨m,hn,hl⟩:=id I.loc;have T:(X.env.scope.kind== .class||(X.env.scope.kind== .module&&X.env.locals != X.env.globals))=q7:=by rw[I.ok.kind];rfl
 have G:i<σ.length:=by rw[I.len];exact(ay.mp hi).1
 have cne:=I.cne;have l: ∀{a:Addr} {O:Heap},(∃o,s.heap.get? a=pi o/\H a=qw)->oq a s.heap O->HOk X.prog X.w H O:=λ{a O} ha f b ob e=>by
  obtain⟨_,_,B⟩:=ha;refine(I.hok b ob e).stay (λc Z t q=>(f.2 c ?_).trans q) (λ_ q=>q) λ_ _ q=>q;rintro rfl;rcases t with rfl|t;rw[B]at e;cases e;rw[B]at t;cases t
 rcases hx with hk|hk;refine wpAny_storeName_local hk hn (λO ab f=>?_) T;obtain⟨oL,_,_,ad,_⟩:=id hn;refine h _ ⟨I.ok,I.os,I.bare,⟨λb o e n J hx=>?_,λb o e n J hx=>?_,I.base.free,λb o e hx=>?_,I.base.tups,I.base.frzs,I.base.tbls⟩,⟨_,ab,λj y v' g C e3=>?_⟩,λy c e=>?_,I.free,I.freeC,λp hp=>?_,l ⟨oL,ad,I.free⟩ f,by simpa using I.len⟩ ⟨_,f,.inl rfl⟩;exact(f.2 b (bh (bg (ah e) I.ok.above))).trans (I.base.keep b o e n J hx);obtain⟨sl,g⟩:=I.base.slot b o e n J hx;exact⟨sl,(f.2 b (bh (bg (ah e) I.ok.above))).trans g⟩;obtain⟨o',g⟩:=I.base.there b o e hx;exact⟨o',(f.2 b (bh (bg (ah e) I.ok.above))).trans g⟩;by_cases L:j=i;subst L;rw[hi]at g;cases g;rw[bj G]at C;cases C;exact⟨u,r,.inl ⟨hk,by simp⟩⟩;rw[bc (qu L)]at C;obtain⟨u',r',q⟩:=hl j y v' g C e3;refine⟨u',r',?_⟩;rcases q with ⟨k,e⟩|⟨k,c,e,z⟩;refine .inl ⟨k,?_⟩;have:y≠x:=λe=>L (oG hN g (e▸hi));simp[this,e];exact .inr ⟨k,c,e,z.sameBut f (cne y c e)⟩;obtain⟨Z,z⟩:=I.cell y c e;exact⟨Z,z.sameBut f (cne y c e)⟩;obtain⟨e,n,ne,nf,d⟩:=I.pin p hp;exact⟨(f.2 p.1 ne).trans e,n,ne,nf,d⟩;have K:X.fn x=qz:=by
  rcases hf with z|z;exact z;rw[z]at hk;cases hk
 obtain⟨c,t⟩:=I.ok.has x (.inl hk);obtain⟨Z,z⟩:=I.cell x c t;refine wpAny_storeName_cell I.ok.kind hk t z (λO S f=>?_);obtain⟨oc,U,W⟩:=id z;refine h {s with heap:=O} ⟨I.ok,I.os,I.bare,⟨λb o e n J hx=>?_,λb o e n J hx=>?_,I.base.free,λb o e hx=>?_,I.base.tups,I.base.frzs,I.base.tbls⟩,⟨m,hn.sameBut f (qu (cne x c t)),λj y v' g C e3=>?_⟩,λy c' e=>?_,I.free,I.freeC,λp hp=>?_,l ⟨oc,U,I.freeC x c t⟩ f,by simpa using I.len⟩ ⟨c,f,.inr t⟩;exact(f.2 b (bh (bg (ah e) (I.ok.cab x c K t)))).trans (I.base.keep b o e n J hx);obtain⟨sl,g⟩:=I.base.slot b o e n J hx;exact⟨sl,(f.2 b (bh (bg (ah e) (I.ok.cab x c K t)))).trans g⟩;obtain⟨o',g⟩:=I.base.there b o e hx;exact⟨o',(f.2 b (bh (bg (ah e) (I.ok.cab x c K t)))).trans g⟩;by_cases L:j=i;subst L;rw[hi]at g;cases g;rw[bj G]at C;cases C;exact⟨u,r,.inr ⟨.inl hk,c,t,S⟩⟩;rw[bc (qu L)]at C;obtain⟨u',r',q⟩:=hl j y v' g C e3;refine⟨u',r',?_⟩;rcases q with q|⟨k,c',e,z'⟩;exact .inl q;refine .inr ⟨k,c',e,z'.sameBut f ?_⟩;rintro rfl;exact L (oG hN g (I.ok.inj _ _ _ e t▸hi));by_cases Y:c'=c;subst Y;exact⟨_,S⟩;obtain⟨w2,z2⟩:=I.cell y c' e;exact⟨w2,z2.sameBut f Y⟩;obtain⟨e,n,ne,nf,d⟩:=I.pin p hp;refine⟨(f.2 p.1 ?_).trans e,n,ne,nf,d⟩;intro q;rw[q,U]at e;have q':oc=p.2:=ku e;exact d Z (by rw[<-q'];exact W)
def hJ{M:Model}{A:Around}{E:ce}{i:Nat}{x:Str}{v:V}{u:Value}{Q:Unit->Shared->Prop}(I:Inv X cc σ H s)(hN:X.N.Nodup)(hi:X.N[i]? =pi x)(hx:Loc X.env.scope x)(r:bG v u)
  (h: ∀s',Inv X cc (σ.set i (pi v)) H s'->Q () s') (hf:X.fn x=qz\/X.env.scope.names.lookup x=pi .local:=by first|exact .inl rfl|exact .inr rfl|assumption):wpAny M A (storeName X.env x u) Q E s:=
 p7 I hN hi hx r (λs' a _=>h s' a) hf
def Inv.call'(I:Inv X cc σ H s)(ho:s'.os=s.os)(u:Un (frs X.stack) ch H H' s.heap s'.heap)(hok:HOk X.prog X.w H' s'.heap)(hg:AllBare s'.gens)(hch: ∀b∈ch,(b∈X.ex\/X.s₀.z<=b)/\b≠X.env.locals/\(∀x c,X.env.cells.lookup x=pi c->c≠b)/\∀p∈X.pn++cc,p.1≠b):Inv X cc σ H' s':=by obtain⟨d,g',d',t',a⟩:=s';have e:a=s.os:=ho;subst e;exact I.call (g':=g') (t':=t') (d':=d') u hok hg hch
end
abbrev XK:=Value->L7 Addr->Hp->Prop
abbrev St:=L1 (L7 V)
abbrev VK:=V->Hp->Prop
abbrev TE:=St->Hp->VK->Prop
abbrev TT:=St->Hp->(Bool->Hp->Prop)->Prop
abbrev TA:=St->Hp->(L1 V->Hp->Prop)->Prop
structure Ends where
 nx:St->Hp->Prop
 rt:VK
 bk:St->Hp->Prop:=λ_ _=>False
 ct:St->Hp->Prop:=λ_ _=>False
abbrev TS:=Ends->St->Hp->Prop
def EP(X:Cx)(cc:cf)(σ:St)(Q:VK)(u:Value)(s':Shared):Prop:= ∃v H',Inv X cc σ H' s'/\bG v u/\Q v H'
def TP(X:Cx)(cc:cf)(σ:St)(Q:Bool->Hp->Prop)(b:Bool)(s':Shared):Prop:= ∃H',Inv X cc σ H' s'/\Q b H'
def AP(X:Cx)(cc:cf)(σ:St)(Q:L1 V->Hp->Prop)(us:L1 Value)(s':Shared):Prop:= ∃vs H',Inv X cc σ H' s'/\cD vs us/\Q vs H'
def SP(X:Cx)(cc:cf)(D:Ends)(f:Flow)(s':Shared):Prop:=
 match f with
 |.next=>∃σ' H',Inv X cc σ' H' s'/\D.nx σ' H'
 |.brk=>∃σ' H',Inv X cc σ' H' s'/\D.bk σ' H'
 |.cont=>∃σ' H',Inv X cc σ' H' s'/\D.ct σ' H'
 |.ret u=>∃v σ' H',Inv X cc σ' H' s'/\bG v u/\D.rt v H'
def PE(X:Cx)(e:Expr)(t:TE):Prop:=
 ∀(cc:cf) (s:Shared) (σ:St) (H:Hp) (Q:VK),Inv X cc σ H s->t σ H Q->X.wp (eval e X.env) (EP X cc σ Q) X.xe s
def PT(X:Cx)(e:Expr)(t:TT):Prop:=
 ∀(cc:cf) (s:Shared) (σ:St) (H:Hp) (Q:Bool->Hp->Prop),Inv X cc σ H s->t σ H Q->X.wp (isTrue e X.env (eval e X.env)) (TP X cc σ Q) X.xe s
def PW(X:Cx)(e:Expr)(t:TT):Prop:=
 ∀(whole:Sem Value) (cc:cf) (s:Shared) (σ:St) (H:Hp) (Q:Bool->Hp->Prop),Inv X cc σ H s->t σ H Q->X.wp (isTrue e X.env whole) (TP X cc σ Q) X.xe s
def PA(X:Cx)(es:L1 Expr)(t:TA):Prop:=
 ∀(pos:Pos) (cc:cf) (s:Shared) (σ:St) (H:Hp) (Q:L1 V->Hp->Prop),Inv X cc σ H s->t σ H Q->X.wp (spliced (backTo pos (starEach es X.env))) (AP X cc σ Q) X.xe s
def PS(X:Cx)(st:Stmt)(t:TS):Prop:=
 ∀(cc:cf) (s:Shared) (σ:St) (H:Hp) (D:Ends),Inv X cc σ H s->t D σ H->X.wp (exec st X.env) (SP X cc D) X.xe s
def PSs(X:Cx)(st:L1 Stmt)(t:TS):Prop:=
 ∀(cc:cf) (s:Shared) (σ:St) (H:Hp) (D:Ends),Inv X cc σ H s->t D σ H->X.wp (execs st X.env) (SP X cc D) X.xe s
def thn{t:Sem α}{Q Q'}{E:ce}(h:wpAny M A t Q E s)(hQ: ∀a s,Q a s->Q' a s):wpAny M A t Q' E s:=wpAny_mono h hQ λ_ _ x=>x
section
variable{X:Cx}{a b:Expr}{ta tb:TE}{pos:Pos}{dO:L1 Expr}
def IY(i:Nat):TE:=λσ H Q=>∃v,σ[i]? =pi (pi v)/\Q v H
def tC(v:V):TE:=λ_ H Q=>Q v H
def yR{i:Nat}{x:Str}{pos:Pos}(hN:X.N[i]? =pi x)(hv:Vis X.env.scope x)(hd:(x==gV)=q7:=by decide)(hcd:(x==hK)=q7:=by decide):PE X (.Name x pos) (IY i):=by intro g s o H Q I h;obtain⟨v,e,h⟩:=h;obtain⟨m,j,f⟩:=I.loc;obtain⟨u,r,l⟩:=f i x v hN e hv;have b:EP X g o Q u s:=⟨v,H,I,r,h⟩;rcases l with ⟨hk,n⟩|⟨hk,c,d,a⟩;exact wpAny_Name (wpAny_loadName_local I.ok.kind hk j n b) hd;rcases hk with hk|hk;exact wpAny_Name (wpAny_loadName_cell I.ok.kind hk d a b) hd;exact wpAny_Name (wpAny_loadName_free I.ok.kind hk d a b hcd) hd
def Jr{i j pos}:PE X (.Constant (.int i) j pos) (tC (.int i)):=λ_ _ _ H _ I h=>wpAny_Constant_int ⟨.int i,H,I.tok _,⟨_,rfl⟩,h⟩
def Nh{b j pos}:PE X (.Constant (.bool b) j pos) (tC (.bl b)):=λ_ _ _ H _ I h=>Constant_bool ⟨.bl b,H,I,rfl,h⟩
def Js{j pos}:PE X (.Constant .none j pos) (tC .non):=λ_ _ _ H _ I h=>Constant_none ⟨.non,H,I,rfl,h⟩
def D9{x j pos}:PE X (.Constant (.str x) j pos) (tC (.str x)):=λ_ _ _ H _ I h=>Calls.Constant_str ⟨.str x,H,I.tok _,⟨_,rfl⟩,h⟩
def Gl(X:Cx)(x:Str):Prop:=X.env.kindOf x=pi .globalImplicit
def eT{E:ce}{cc:cf}{s:Shared}{σ:St}{H:Hp}{x:Str}{u:Value}{pos:Pos}{Q:ce}(I:Inv X cc σ H s)(hg:Gl X x)(hm:X.mg x=pi u)(h:Q u s)
  (hd:(x==gV)=q7:=by decide):X.wp (eval (.Name x pos) X.env) Q E s:=
 dw I.ok.kind hg (Calls.loadGlobal_global (by rw[I.ok.glob];exact I.mod.glob.keeps I.bk) hm h) hd
def gR{E:ce}{cc:cf}{s:Shared}{σ:St}{H:Hp}{x:Str}{u:Value}{pos:Pos}{Q:ce}(I:Inv X cc σ H s)(hg:Gl X x)(hm:X.mg x=qw)(hv:bootBuiltins x=pi u)(h:Q u s)
  (hn:x≠"__name__":=by decide) (hd:(x==gV)=q7:=by decide):X.wp (eval (.Name x pos) X.env) Q E s:=by
 obtain⟨c,a,b⟩:=I.mod.blt;exact dw I.ok.kind hg (Calls.loadGlobal_builtin (by rw[I.ok.glob];exact I.mod.glob.keeps I.bk) hm (by rw[I.ok.blt];exact a.keeps I.bk) ((b x hn).trans hv) h) hd
def Fy{x:Str}{v:V}{u:Value}{pos:Pos}(hg:Gl X x)(hm:X.mg x=pi u)(r:bG v u)(hd:(x==gV)=q7:=by decide):PE X (.Name x pos) (tC v):=
 λ_ _ _ H _ I h=>eT I hg hm ⟨v,H,I,r,h⟩ hd
def PC(X:Cx)(op:CmpOp)(a b:Expr)(t:TE):Prop:=
 ∀(cc:cf) (s:Shared) (σ:St) (H:Hp) (Q:VK),Inv X cc σ H s->t σ H Q->
  X.wp (eval a X.env) (λv s₁=>X.wp (eval b X.env) (λu s₂=>X.wp (compareOp op v u) (EP X cc σ Q) X.xe s₂) X.xe s₁) X.xe s
def tB(t:TE):TT:=λσ H Q=>t σ H λx H1=>∃c,x= .bl c/\Q c H1
def Jt{op:CmpOp}{t:TE}(h:PC X op a b t)(h1:behindInMarks op b=q7:=by first|exact nobehind _ rfl rfl|rfl):PE X (.Compare a [op] [b] pos) t:=λc s e H Q I d=>wpAny_Compare1 (h c s e H Q I d) h1
def Ju{e:Expr}{t:TE}(h:PE X e t)(he: ∀whole,isTrue e X.env whole=(do let v<-whole;standAt e.pos;holding [v] (truthy v)):=by intro _;rfl):PT X e (tB t):=by intro i s j H Q I f;refine isTrue_plain (thn (h i s j H _ I f) λv l a=>?_) (he _);obtain⟨x,g,b,c,q1⟩:=a;obtain⟨d,rfl,q⟩:=q1;cases c;exact wpAny_truthy_bool ⟨g,b,q⟩
def OO(t u:TT):TT:=λσ H Q=>t σ H λc H1=>if c=qz then u σ H1 Q else Q q7 H1
def tOr(t u:TT):TT:=λσ H Q=>t σ H λc H1=>if c=qz then Q qz H1 else u σ H1 Q
def OP(t:TT):TT:=λσ H Q=>t σ H λc H1=>Q (!c) H1
def pw_and1(ha:PT X a tA):PW X (.BoolOp .And [a] pos) tA:=by intro f b s d H Q I h;refine isTrue_and (thn (ha b s d H Q I h) λc g e=>?_);rcases c with _|_;exact e;exact isTrue_and_nil e
def pw_or1(ha:PT X a tA):PW X (.BoolOp .Or [a] pos) tA:=by intro f b s d H Q I h;refine isTrue_or (thn (ha b s d H Q I h) λc g e=>?_);rcases c with _|_;exact isTrue_or_nil e;exact e
def pw_and(ha:PT X a tA)(hb:PW X (.BoolOp .And (b::dO) pos) tB'):PW X (.BoolOp .And (a::b::dO) pos) (OO tA tB'):=by intro j g s i H Q I h;refine isTrue_and (thn (ha g s i H _ I h) λc l d=>?_);obtain⟨f,e,q1⟩:=d;rcases c with _|_;exact⟨f,e,q1⟩;exact hb j g l i f Q e q1
def pw_or(ha:PT X a tA)(hb:PW X (.BoolOp .Or (b::dO) pos) tB'):PW X (.BoolOp .Or (a::b::dO) pos) (tOr tA tB'):=by intro j g s i H Q I h;refine isTrue_or (thn (ha g s i H _ I h) λc l d=>?_);obtain⟨f,e,q1⟩:=d;rcases c with _|_;exact hb j g l i f Q e q1;exact⟨f,e,q1⟩
def Jv(ha:PT X a tA):PT X (.UnaryOp .Not a pos) (OP tA):=by intro d s e H Q I h;exact isTrue_not (ha d s e H (λc b=>Q (!c) b) I h)
def Jw(ta tb:TE):TE:=λσ H Q=>ta σ H λx H1=>∃c,x= .bl c/\if c=qz then tb σ H1 Q else Q (.bl q7) H1
def OR(ta tb:TE):TE:=λσ H Q=>ta σ H λx H1=>∃c,x= .bl c/\if c=qz then Q (.bl qz) H1 else tb σ H1 Q
def Ni(ta:TE):TE:=λσ H Q=>ta σ H λx H1=>∃c,x= .bl c/\Q (.bl (!c)) H1
def Jx(h:PE X a t):PE X (.BoolOp op [a] pos) t:=λb s d H Q I c=>BoolOp_one (h b s d H Q I c)
def Jy(ha:PE X a ta)(hb:PE X (.BoolOp .And (b::dO) pos) tb):PE X (.BoolOp .And (a::b::dO) pos) (Jw ta tb):=by intro g s i H Q I h;refine BoolOp_and (thn (ha g s i H _ I h) λv l d=>?_);obtain⟨x,f,e,j,q1⟩:=d;obtain⟨c,rfl,q1⟩:=q1;cases j;refine wpAny_truthy_bool ?_;rcases c with _|_;exact⟨.bl q7,f,e,rfl,q1⟩;exact hb g l i f Q e q1
def Nj(ha:PE X a ta)(hb:PE X (.BoolOp .Or (b::dO) pos) tb):PE X (.BoolOp .Or (a::b::dO) pos) (OR ta tb):=by intro g s i H Q I h;refine BoolOp_or (thn (ha g s i H _ I h) λv l d=>?_);obtain⟨x,f,e,j,q1⟩:=d;obtain⟨c,rfl,q1⟩:=q1;cases j;refine wpAny_truthy_bool ?_;rcases c with _|_;exact hb g l i f Q e q1;exact⟨.bl qz,f,e,rfl,q1⟩
def Jz(ha:PE X a ta):PE X (.UnaryOp .Not a pos) (Ni ta):=by intro g s i H Q I h;refine UnaryOp_ (thn (ha g s i H _ I h) λv j b=>?_);obtain⟨x,f,d,e,q1⟩:=b;obtain⟨c,rfl,q1⟩:=q1;cases e;exact not_of (wpAny_truthy_bool ⟨.bl (!c),f,d,rfl,q1⟩)
def tIf(t:TT)(ta tb:TE):TE:=λσ H Q=>t σ H λc H1=>if c=qz then ta σ H1 Q else tb σ H1 Q
def Ca(hc:PT X c tA)(ha:PE X a ta)(hb:PE X b tb):PE X (.IfExp c a b pos) (tIf tA ta tb):=by intro f s g H Q I h;refine wpAny_IfExp (thn (hc f s g H _ I h) λd l e=>?_);obtain⟨j,i,q1⟩:=e;rcases d with _|_;exact hb f l g j Q i q1;exact ha f l g j Q i q1
end
def SqL(K:oe)(H:Hp)(a:Addr)(xs:L1 V):Prop:=
 Rd H a (.lst xs)\/
  ∃(o:Obj) (its:Array Value) (n:Nat),K.lookup a=pi o/\o.cls= .type "list"/\o.dict=qw/\o.data= .seq its n/\its.size<=sizeLine/\cD xs its.toList
def SqT(K:oe)(H:Hp)(a:Addr)(xs:L1 V):Prop:=
 Rd H a (.tup xs)\/
  ∃(o:Obj) (its:Array Value) (n:Nat),K.lookup a=pi o/\o.cls= .type "tuple"/\o.dict=qw/\o.data= .seq its n/\its.size<=sizeLine/\cD xs its.toList
noncomputable def Pr:Value->L7 V
 |.none=>pi .non
 |.bool b=>pi (.bl b)
 |.int i _=>pi (.int i)
 |.str x _=>pi (.str x)
 |.bytes b _=>pi (.byt b)
 |.float b _=>pi (.flt b)
 |.ref a=>pi (.ref a)
 |.type n=>pi (.ty n)
 |_=>qw
def bG.abs(r:bG x u):Pr u=pi x:=by rcases x with _|_|_|_|_|_|_|_;cases r;rfl;cases r;rfl;obtain⟨t,rfl⟩:=r;rfl;obtain⟨t,rfl⟩:=r;rfl;obtain⟨t,rfl⟩:=r;rfl;obtain⟨t,rfl⟩:=r;rfl;cases r;rfl;cases r;rfl
def bG.inj(r:bG x u)(q:bG y u):x=y:=ku (r.abs.symm.trans q.abs)
theorem cD.inj: ∀{xs ys} {us},cD xs us->cD ys us->xs=ys
 |_,_,_,.nil,.nil=>rfl
 |_,_,_,.cons r t,.cons r' t'=>by rw[r.inj r',cD.inj t t']
section
variable{σ:St}
def SqL.of{K}(h:H a=pi (.lst xs)):SqL K H a xs:=.inl (.inl h)
def SqT.of{K}(h:H a=pi (.tup xs)):SqT K H a xs:=.inl (.inl h)
def Inv.list(I:Inv X cc σ H s)(h:SqL X.K H a xs): ∃its,cD xs its/\PlainL s.heap a its.toArray/\xs.length<=sizeLine:=by rcases h with h|⟨o,its,n,hk,hc,hd,hs,hz,r⟩;obtain⟨z,its,n,r,e⟩:=h.ok I.hok;exact⟨its,r,⟨_,n,e,rfl,rfl,rfl⟩,z⟩;refine⟨its.toList,r,⟨o,n,I.kIn a o hk,hc,hd,by simpa using hs⟩,?_⟩;have e:=r.length;simp only[ic]at e;lia
def Inv.tuple(I:Inv X cc σ H s)(h:SqT X.K H a xs): ∃its,cD xs its/\IsTup s.heap a its.toArray/\xs.length<=sizeLine:=by rcases h with h|⟨o,its,n,hk,hc,_,hs,hz,r⟩;obtain⟨z,its,r,p,_⟩:=h.ok I.hok;exact⟨its,r,p,z⟩;refine⟨its.toList,r,⟨o,I.kIn a o hk,hc,n,by simpa using hs⟩,?_⟩;have e:=r.length;simp only[ic]at e;lia
def Inv.list_inj(I:Inv X cc σ H s)(h:SqL X.K H a xs)(h':SqL X.K H a ys):xs=ys:=by
 obtain⟨c,r,⟨o,n,e,_,_,d⟩,_⟩:=I.list h;obtain⟨b,i,⟨l,j,f,_,_,g⟩,_⟩:=I.list h';rw[e]at f;cases f;rw[d]at g;injection g with d1 _
 have:c=b:=by simpa using congrArg Array.toList d1
 subst this;exact r.inj i
def Inv.tuple_inj(I:Inv X cc σ H s)(h:SqT X.K H a xs)(h':SqT X.K H a ys):xs=ys:=by
 obtain⟨c,r,⟨o,e,_,n,d⟩,_⟩:=I.tuple h;obtain⟨b,i,⟨l,f,_,j,g⟩,_⟩:=I.tuple h';rw[e]at f;cases f;rw[d]at g;injection g with d1 _
 have:c=b:=by simpa using congrArg Array.toList d1
 subst this;exact r.inj i
end
noncomputable abbrev Cx.wish(X:Cx)(E:ce):Cx:={X with xe:=E}
section
variable{X:Cx}{st:Stmt}{dO:L1 Stmt}{t u:TS}{e:Expr}{te:TE}{pos:Pos}
def Cb:TS:=λD σ H=>D.nx σ H
def OS(t u:TS):TS:=λD σ H=>t {D with nx:=u D} σ H
def lG:PSs X [] Cb:=λ_ _ a H _ I h=>wpAny_execs_nil ⟨a,H,I,h⟩
def i9(h1:PS X st t)(h2:PSs X dO u):PSs X (st::dO) (OS t u):=by
 intro b s e H D I h;refine wpAny_execs_cons (thn (h1 b s e H {D with nx:=u D} I h) λf g q=>?_);cases f with
 |next=>
  obtain⟨a,c,d,q⟩:=q;exact h2 b g a c D d q
 |ret v=>exact q
 |brk=>exact q
 |cont=>exact q
def oH(h1:PS X st t):PSs X [st] t:=by
 intro a s b H D I h;refine wpAny_execs_cons (thn (h1 a s b H D I h) λf c q=>?_);cases f with
 |next=>exact wpAny_execs_nil q
 |ret v=>exact q
 |brk=>exact q
 |cont=>exact q
def yS:PS X (.Pass pos) Cb:=λ_ _ a H _ I h=>wpAny_Pass ⟨a,H,I,h⟩
def Inv.quiet{σ:St}(I:Inv X cc σ H s):interactive X.env=q7:=by simp[interactive,I.ok.kind]
def Fz(te:TE):TS:=λD σ H=>te σ H λ_ H1=>D.nx σ H1
def oI(he:PE X e te)(hs:swapsWith e qw pos.line X.env=pure q7:=by rfl):PS X (.Expr e pos) (Fz te):=by intro f s b H D I h;exact wpAny_Expr_any (thn (he f s b H _ I h) λv i a=>by obtain⟨x,d,c,g,q1⟩:=a;exact⟨b,d,c,q1⟩) I.quiet hs
def Pt(te:TE):TS:=λD σ H=>te σ H D.rt
def u6(he:PE X e te):PS X (.Return (pi e) pos) (Pt te):=by intro g s b H D I h;exact wpAny_Return_some (thn (he g s b H _ I h) λv i a=>by obtain⟨x,f,c,d,q1⟩:=a;exact⟨x,b,f,c,d,q1⟩)
def Nk(c:TT)(t u:TS):TS:=λD σ H=>c σ H λb H1=>if b=qz then t D σ H1 else u D σ H1
def JA(hc:PT X c tc)(ha:PSs X a t)(hb:PSs X b u):PS X (.If c a b pos) (Nk tc t u):=by intro f s g H D I h;refine wpAny_If (thn (hc f s g H _ I h) λd l e=>?_);obtain⟨j,i,q1⟩:=e;rcases d with _|_;exact hb f l g j D i q1;exact ha f l g j D i q1
end
abbrev TG:=V->St->Hp->(St->Hp->Prop)->Prop
abbrev TGs:=L1 V->St->Hp->(St->Hp->Prop)->Prop
def PG(X:Cx)(target:Expr)(t:TG):Prop:=
 ∀(cc:cf) (s:Shared) (σ:St) (H:Hp) (v:V) (u:Value) (Q:St->Hp->Prop),Inv X cc σ H s->bG v u->t v σ H Q->
  X.wp (assign target X.env u) (λ_ s'=>∃σ' H',Inv X cc σ' H' s'/\Q σ' H') X.xe s
def PGs(X:Cx)(ts:L1 Expr)(t:TGs):Prop:=
 ∀(cc:cf) (s:Shared) (σ:St) (H:Hp) (vs:L1 V) (us:L1 Value) (Q:St->Hp->Prop),Inv X cc σ H s->cD vs us->t vs σ H Q->
  X.wp (assignInOrder ((assignEach ts X.env).map (·.2)) us) (λ_ s'=>∃σ' H',Inv X cc σ' H' s'/\Q σ' H') X.xe s
abbrev Nl:=V->V->V->Hp->(Hp->Prop)->Prop
def Nm(X:Cx)(t:Nl):Prop:=
 ∀(cc:cf) (s:Shared) (σ:St) (H:Hp) (o i v:V) (ov iv u:Value) (Q:Hp->Prop),Inv X cc σ H s->bG o ov->bG i iv->bG v u->t o i v H Q->
  X.wp (setItem ov iv u) (λ_ s'=>∃H',Inv X cc σ H' s'/\Q H') X.xe s
section
variable{X:Cx}{pos:Pos}
def lH(i:Nat):TG:=λv σ H Q=>Q (σ.set i (pi v)) H
def lI{i:Nat}{x:Str}(hN:X.N.Nodup)(hi:X.N[i]? =pi x)(hx:Loc X.env.scope x)(hf:X.fn x=qz\/X.env.scope.names.lookup x=pi .local:=by first|exact .inl rfl|exact .inr rfl|assumption):PG X (.Name x pos) (lH i):=by intro b s c H v u Q I r h;exact wpAny_assign_Name (hJ I hN hi hx r (λd a=>⟨_,H,a,h⟩) hf)
def Nn:TGs:=λvs σ H Q=>vs=[]/\Q σ H
def FA(t:TG)(u:TGs):TGs:=λvs σ H Q=>∃v r,vs=v::r/\t v σ H λσ' H'=>u r σ' H' Q
def yT:PGs X [] Nn:=by intro b s a H c d Q I r h;obtain⟨e,h⟩:=h;subst e;cases r;exact assignInOrder_nil ⟨a,H,I,h⟩
def u7{e:Expr}{es:L1 Expr}{t:TG}{u:TGs}(h1:PG X e t)(h2:PGs X es u)
  (hs:(assignEach (e::es) X.env).map (·.2)=assign e X.env::(assignEach es X.env).map (·.2):=by rfl):PGs X (e::es) (FA t u):=by
 intro c s j H n o Q I r h;obtain⟨v,m,f,h⟩:=h;subst f;cases r with
 |cons r g=>
  rw[hs];refine assignInOrder_cons (thn (h1 c s j H _ _ _ I r h) λ_ l b=>?_);obtain⟨a,i,d,q1⟩:=b;exact h2 c l a i _ _ Q d g q1
def JB(K:oe)(n:Nat)(t:TGs):TG:=λv σ H Q=>∃a xs,v= .ref a/\SqT K H a xs/\xs.length=n/\t xs σ H Q
def Ea{es:L1 Expr}{k:Nat}{t:TGs}{n:Nat}(hc:X.calm=qz)(h:PGs X es t)
  (hn:(assignEach es X.env).length=n:=by rfl) (hst:(assignEach es X.env).findIdx? (·.1)=qw:=by rfl):PG X (.Tuple es k pos) (JB X.K n t):=by
 intro d s g H v u Q I r c;obtain⟨a,q,y,x,j,c⟩:=c;subst y;cases r;obtain⟨i,f,l,z⟩:=I.tuple x;refine assign_Tuple_tuple (I.ok.hd hc) l (by simp[hn, <-j,f.length]) hst λw m=>?_;have p:Inv X d g H {s with heap:=w}:=I.kept (t':=s.toks) λb o e=>m b o (bh (ah e)) e;exact h d _ g H q _ Q p (by simpa using f) c
def Pu(to ti:TE)(t:Nl):TG:=λv σ H Q=>to σ H λo H1=>ti σ H1 λi H2=>t o i v H2 λH3=>Q σ H3
def JC{o i:Expr}{to ti:TE}{t:Nl}(ho:PE X o to)(hi:PE X i ti)(hs:Nm X t)
  (ha: ∀v,assign (.Subscript o i pos) X.env v=(do
   let ov<-holding [v] (eval o X.env);let iv<-holding [v,ov] (eval i X.env);standAt pos;holding [v,ov,iv] (setItem ov iv v);release [v,ov,iv] []):=by intro _;rfl):PG X (.Subscript o i pos) (Pu to ti t):=by
 intro c s b H v u Q I r h;rw[ha];refine aa (wpAny_holding (thn (ho c s b H _ I h) λov z a=>?_));obtain⟨x,q,l,m,q1⟩:=a;refine aa (wpAny_holding (thn (hi c z b q _ l q1) λiv j a=>?_));obtain⟨y,g,p,e,f⟩:=a;refine aa (wpAny_standAt (aa (wpAny_holding (thn (hs c j b g x y v ov iv u _ p m e r f) λ_ A a=>?_))));obtain⟨w,d,n⟩:=a;exact wpAny_release ⟨b,w,d,n⟩
def FD(te:TE)(g:TG):TS:=λD σ H=>te σ H λx H1=>g x σ H1 D.nx
def yU{tg e:Expr}{te:TE}{g:TG}(he:PE X e te)(hg:PG X tg g)(hs:swapsWithSole [tg] e pos.line X.env=pure q7:=by rfl)(hw:swappedStores [tg] e X.env=pure qw:=by rfl)
  (h1:(assignEach [tg] X.env).map (·.2)=[assign tg X.env]:=by rfl):PS X (.Assign [tg] e pos) (FD te g):=by
 intro b s c H D I h;refine wpAny_Assign_stores (thn (he b s c H _ I h) λv j a=>?_) hs hw;obtain⟨x,i,d,f,q1⟩:=a;rw[h1];exact thn (hg b j c i x v _ d f q1) λ_ l q=>q
def nE{i:Nat}{x:Str}{e:Expr}{te:TE}{pos':Pos}(hN:X.N.Nodup)(hi:X.N[i]? =pi x)(hx:Loc X.env.scope x)(he:PE X e te)(hs:swapsWith e (pi (.Name x pos')) pos.line X.env=pure q7:=by rfl)(hf:X.fn x=qz\/X.env.scope.names.lookup x=pi .local:=by first|exact .inl rfl|exact .inr rfl|assumption):
  PS X (.Assign [.Name x pos'] e pos) (FD te (lH i)):=by
 intro g s j H D I h;refine wpAny_Assign_Name (thn (he g s j H _ I h) λv m a=>?_) hs;obtain⟨y,f,b,c,q1⟩:=a;exact hJ b hN hi hx c (λl d=>⟨_,f,d,q1⟩) hf
def Pv(i j:Nat)(ta:TA):TS:=λD σ H=>ta σ H λvs H1=>∃v w,vs=[v,w]/\D.nx ((σ.set i (pi v)).set j (pi w)) H1
def Eb{i j:Nat}{x y:Str}{a b:Expr}{ta:TA}{px py pt:Pos}{kt k2 pt2}(hc:X.calm=qz)(hN:X.N.Nodup)(hi:X.N[i]? =pi x)(hj:X.N[j]? =pi y)(hij:i≠j)
  (hx:X.env.scope.names.lookup x=pi .local) (hy:X.env.scope.names.lookup y=pi .local) (ha:PA X [a,b] ta)
  (hw:swappedStores [.Tuple [.Name x px,.Name y py] kt pt] (.Tuple [a,b] k2 pt2) X.env=pure (pi [x,y]))
  (hs:swapsWithSole [.Tuple [.Name x px,.Name y py] kt pt] (.Tuple [a,b] k2 pt2) pos.line X.env=pure q7:=by rfl):
  PS X (.Assign [.Tuple [.Name x px,.Name y py] kt pt] (.Tuple [a,b] k2 pt2) pos) (Pv i j ta):=by
 intro u s t H D I h;rw[exec_Assign_arm];refine aa (wpAny_standAt ?_);rw[hs];refine aa (ac ?_);rw[if_neg (by decide)]
 refine aa (Tuple_ (thn (ha _ u s t H _ I h) λO f l=>?_))
 obtain⟨T,r,L,C,q1⟩:=l;obtain⟨v,w,E,q1⟩:=q1;subst E
 obtain⟨d,c,rfl,J,g⟩: ∃d c,O=[d,c]/\bG v d/\bG w c:=by
  cases C with
  |cons p q=>
   cases q with
   |cons B z=>
    cases z;exact⟨_,_,rfl,p,B⟩
 refine wpAny_newObj_type ?_ (by show 2<=sizeLine;decide)
 have M:Inv X u t r {f with heap:=f.heap.push {cls:=.type "tuple",data:=.seq [d,c].toArray} }:=L.kept (t':=f.toks) λb o e=>ae _ e
 rw[hw];refine aa (ac ?_);show X.wp (do rule "assign.swapped-stores";let items<-unpackItems (.ref f.z) 2 qw;assignInOrder [λv=>bindName X.env y v,λv=>bindName X.env x v] items.reverse;pure Flow.next) _ _ _
 refine aa (wpAny_rule (aa (unpackItems_tuple (items:= #[d,c]) (I.ok.hd hc) (IsTup.new f.heap _) λh' m=>?_)))
 have G:=M.kept (h':=h') (t':=f.toks) λb o e=>m b o (bh (ah e)) e
 show wpAny _ _ (assignInOrder [λv=>bindName X.env y v,λv=>bindName X.env x v] [c,d] >>= λ_=>pure Flow.next) _ _ _
 refine aa (assignInOrder_cons (wpAny_bindName (hJ G hN hj (.inl hy) g (λQ K=>?_) (.inr hy))))
 refine assignInOrder_cons (wpAny_bindName (hJ K hN hi (.inl hx) J (λS n=>assignInOrder_nil (ac ?_)) (.inr hx)))
 rw[List.set_comm _ _ (qu hij)]at n;exact⟨_,r,n,q1⟩
end
structure It where
 go:Nat->Hp->Prop
 yld:Nat->Hp->V->Hp->Prop
 stop:Nat->Hp->Prop
def oJ(X:Cx)(cc:cf)(H:Hp)(b:Addr):Prop:=
 H b=qw/\b≠X.env.locals/\b∉X.fs/\(b∈X.ex\/X.s₀.z<=b)/\(∀x c,X.env.cells.lookup x=pi c->c≠b)/\∀p∈X.pn++cc,p.1≠b
def Inv.fpOk{σ:St}{b:Addr}(I:Inv X cc σ H s)(hb:s.z<=b)(hn:H' b=qw):oJ X cc H' b:=by refine⟨hn,ou (bg I.lt hb),I.nofs hb,.inr (om I.sz hb),λx c e z=>?_,λp a z=>?_⟩;obtain⟨v,q⟩:=I.cell x c e;exact absurd (bg q.lt (by rw[z];exact hb)) (nh _);exact absurd (bg (ah (I.pin p a).1) (by rw[z];exact hb)) (nh _)
structure Turn(P:Program)(w:World)(K:oe)(tg:Expr)(J:It)(fp:List Addr)(it:Addr)(tn:Nat->Heap->Prop):Prop where
 mem:it∈fp
 obj: ∀i h,tn i h->∀b∈fp, ∃o,h.get? b=pi o/\∀v,o.data≠ .cell v
 keep: ∀i h h',tn i h->(∀b∈fp, ∀o,h.get? b=pi o->h'.get? b=pi o)->tn i h'
 item: ∀(X:Cx),X.prog=P->X.w=w->X.K=K->X.calm=qz->∀(i:Nat) (cc:cf) (s:Shared) (σ:St) (H:Hp) (E:ce),Inv X cc σ H s->(∀b∈fp,oJ X cc H b)->tn i s.heap->J.go i H->
  wpAny (model P w) X.A (pyNext (.ref it)) (λr s1=>∃u,r=pi u/\
   wpAny (model P w) X.A (letOwnedTupleGo tg (.ref it) u) (λ_ s2=>∃x H',Inv X cc σ H' s2/\bG x u/\J.yld i H x H'/\tn (i+1) s2.heap/\∀b∈fp,H' b=qw) E s1) E s
 done: ∀(X:Cx),X.prog=P->X.w=w->X.K=K->X.calm=qz->∀(i:Nat) (cc:cf) (s:Shared) (σ:St) (H:Hp) (E:ce),Inv X cc σ H s->(∀b∈fp,oJ X cc H b)->tn i s.heap->J.stop i H->
  wpAny (model P w) X.A (pyNext (.ref it)) (λr s1=>r=qw/\Inv X cc σ H s1) E s
 self: ∀(A:Around) (i:Nat) (s:Shared) (Q:ce) (E:ce),tn i s.heap->Q (.ref it) s->wpAny (model P w) A (pyIter (.ref it)) Q E s
abbrev TI:=St->Hp->(It->Hp->Prop)->Prop
def PIE(X:Cx)(cc:cf)(σ:St)(tg:Expr)(R:It->Hp->Prop)(itv:Value)(s2:Shared):Prop:=
 ∃(it:Addr) (fp:L1 Addr) (tn:Nat->Heap->Prop) (J:It) (H':Hp),itv= .ref it/\Inv X cc σ H' s2/\Turn X.prog X.w X.K tg J fp it tn/\tn 0 s2.heap/\(∀b∈fp,oJ X cc H' b)/\R J H'
def PI(X:Cx)(tg iter:Expr)(wi:TI):Prop:=
 ∀(cc:cf) (s:Shared) (σ:St) (H:Hp) (R:It->Hp->Prop),Inv X cc σ H s->wi σ H R->
  X.wp (eval iter X.env) (λv s1=>X.wp (pyIter v) (PIE X cc σ tg R) X.xe s1) X.xe s
def yV{E:ce}(ho:s.heap.get? it=pi o)(hc:o.cls= .type n)(hd:o.data= .fields vs)(hn:["enumerate","zip","dict_itemiterator","dict_reverseitemiterator","odict_iterator","itertools.zip_longest","itertools.pairwise"].contains n=q7)(hQ:Q () s):wpAny M A (letOwnedTupleGo tg (.ref it) u) Q E s:=by
 unfold letOwnedTupleGo;cases tg<;>first
  |exact ac hQ
  |(cases u<;>first
    |exact ac hQ
    | (refine aa (wpAny_load ho ?_)
       rw[hc,hd];show wpAny M A (if(["enumerate","zip","dict_itemiterator","dict_reverseitemiterator","odict_iterator","itertools.zip_longest","itertools.pairwise"].contains n&&vs[0]? ==pi (rawInt _))=qz then _ else _) Q E s;rw[if_neg (by intro h;rw[hn,Bool.false_and]at h;cases h)];exact ac hQ))
def Itl(K:oe)(a:Addr):It:=
 ⟨λi H=>∃xs x,SqL K H a xs/\xs[i]? =pi x,λi H x H'=>H'=H/\∀xs,SqL K H a xs->xs[i]? =pi x,λi H=>∃xs,SqL K H a xs/\xs.length<=i⟩
def Itt(K:oe)(a:Addr):It:=
 ⟨λi H=>∃xs x,SqT K H a xs/\xs[i]? =pi x,λi H x H'=>H'=H/\∀xs,SqT K H a xs->xs[i]? =pi x,λi H=>∃xs,SqT K H a xs/\xs.length<=i⟩
def Itr(lo:Int)(n:Nat):It:=⟨λi _=>i<n,λi H x H'=>H'=H/\x= .int (lo+i),λi _=>n<=i⟩
def p8{K}a it:Turn P w K tg (Itl K a) [it] it (λi h=>h.IsListIter it a i) where
 mem:=by simp
 obj:=λi h f b g=>by
  have e:b=it:=by simpa using g
  subst e;obtain⟨o,e,c,d⟩:=f;exact⟨o,e,λv z=>by rw[d]at z;cases z⟩
 keep:=λi h l f k=>f.at λo e=>k it (by simp) o e;item:=by
  intro X N C J Q i S s O H E I n f y;subst N C J;obtain⟨xs,x,m,r⟩:=y;obtain⟨A,B,p,Z⟩:=I.list m;obtain⟨u,hu,Y⟩:=B.get r;obtain⟨M,q,f2,t,G,L⟩:=n it (by simp);refine wpAny_pyNext_list_item f p.isList (x:=u) (by simpa using hu) λl j U=>?_;have I1:Inv X S O H {s with heap:=l}:=I.turned (t':=s.toks) (λb o g e=>(U.2 b g).trans e) M q t G L;obtain⟨o,e,c,d⟩:=id j;exact⟨u,rfl,yV (s:={s with heap:=l}) e c d rfl ⟨x,H,I1,Y,⟨rfl,λys hy=>by rw[I.list_inj hy m];exact r⟩,j,λb g=>(n b g).1⟩⟩
 done:=by
  intro X N C J Q i S s O H E I n f y;subst N C J;obtain⟨xs,m,r⟩:=y;obtain⟨A,B,p,Z⟩:=I.list m;obtain⟨M,q,f2,t,G,L⟩:=n it (by simp);have hl:=B.length;exact wpAny_pyNext_list_end (I.ok.hd Q) f p.isList (by simp;lia) λl T=>⟨rfl,I.turned (t':=s.toks) (λb o g e=>T b o g e) M q t G L⟩
 self:=λ_ _ _ _ _ f h=>wpAny_pyIter_listiter f h
def xF{K}a it:Turn P w K tg (Itt K a) [it] it (λi h=>h.IsTupleIter it a i) where
 mem:=by simp
 obj:=λi h f b g=>by
  have e:b=it:=by simpa using g
  subst e;obtain⟨o,e,c,d⟩:=f;exact⟨o,e,λv z=>by rw[d]at z;cases z⟩
 keep:=λi h m f k=>f.at λo e=>k it (by simp) o e;item:=by
  intro X N C J Q i S s O H E I q f A;subst N C J;obtain⟨xs,x,n,t⟩:=A;obtain⟨j,B,p,Z⟩:=I.tuple n;obtain⟨u,hu,Y⟩:=B.get t;obtain⟨M,r,f2,y,G,L⟩:=q it (by simp);refine wpAny_pyNext_tuple_item f (show s.heap.IsTuple a j.toArray from p) (x:=u) (by simpa using hu) λm l U=>?_;have I1:Inv X S O H {s with heap:=m}:=I.turned (t':=s.toks) (λb o g e=>(U.2 b g).trans e) M r y G L;obtain⟨o,e,c,d⟩:=id l;exact⟨u,rfl,yV (s:={s with heap:=m}) e c d rfl ⟨x,H,I1,Y,⟨rfl,λys hy=>by rw[I.tuple_inj hy n];exact t⟩,l,λb g=>(q b g).1⟩⟩
 done:=by
  intro X N C J Q i S s O H E I q f A;subst N C J;obtain⟨xs,n,t⟩:=A;obtain⟨j,B,p,Z⟩:=I.tuple n;obtain⟨M,r,f2,y,G,L⟩:=q it (by simp);have hl:=B.length;exact wpAny_pyNext_tuple_end (I.ok.hd Q) f (show s.heap.IsTuple a j.toArray from p) (by simp;lia) λm T=>⟨rfl,I.turned (t':=s.toks) (λb o g e=>T b o g e) M r y G L⟩
 self:=λ_ _ _ _ _ f h=>wpAny_pyIter_tupleiter f h
def xG{K}it lo n:Turn P w K tg (Itr lo n) [it] it (λi h=>IsRangeIter h it (lo+(i:Nat)*1) ((n:Int)-(i:Nat)) 1) where
 mem:=by simp
 obj:=λi h a b c=>by
  have e:b=it:=by simpa using c
  subst e;exact⟨_,a,λv z=>by
   have M:Data.fields _=Data.cell v:=z;cases M⟩
 keep:=λi h f a k=>k it (by simp) _ a;item:=by
  intro X A q u p i G s C H E I g a m;subst A q u;obtain⟨y,j,N,l,r,x⟩:=g it (by simp);have W:=Walks.range (prog:=X.prog) (w:=X.w) (I.ok.hd p) it lo 1 n;refine W.item i s _ _ m a λv f B Q d L=>?_;obtain⟨t,rfl⟩:=Q;have O:Inv X G C H {s with heap:=f,toks:=B}:=I.turned (λb o c e=>L b o (by simpa using c) e) y j l r x;refine⟨_,rfl,yV (s:={s with heap:=f,toks:=B}) (n:="range_iterator") d rfl rfl rfl ⟨.int (lo+i),H,O,⟨t,?_⟩,⟨rfl,rfl⟩,d,λb c=>(g b c).1⟩⟩;rw[Int.mul_one]
 done:=by
  intro X A q u p i G s C H E I g a m;subst A q u;obtain⟨y,j,N,l,r,x⟩:=g it (by simp);exact wpAny_pyNext_range_end (I.ok.hd p) a (by have:n<=i:=m;lia) λf J=>⟨rfl,I.turned (t':=s.toks) (λb o c e=>J b o c e) y j l r x⟩
 self:=λ_ _ _ _ _ a h=>wpAny_pyIter_rangeiter a h
section
variable{X:Cx}{tg:Expr}
def Cc{σ:St}{E:ce}{lo hi}(I:Inv X cc σ H s)(h1: -(2^62)<=lo)(h2:lo<2^62)(h3: -(2^62)<=hi)(h4:hi<2^62)(q:R (Itr lo (hi-lo).toNat) H):X.wp (pyIter (.ref s.z)) (PIE X cc σ tg R) E {s with heap:=s.heap.push {cls:=.type "range",data:=.fields #[.int lo t,.int hi u,.int 1 v]},toks:=tk}:=by
 refine wpAny_pyIter_range (IsRange.new ..) (small_one h1 h2 h3 h4) ?_;have a:Inv X cc σ H {s with heap:=s.heap.push {cls:=.type "range",data:=.fields #[.int lo t,.int hi u,.int 1 v]},toks:=tk}:=I.kept λb o e=>ae _ e;refine⟨(s.heap.push {cls:=.type "range",data:=.fields #[.int lo t,.int hi u,.int 1 v]}).objs.size,[(s.heap.push {cls:=.type "range",data:=.fields #[.int lo t,.int hi u,.int 1 v]}).objs.size],_,_,H,rfl,
  a.kept (t':=tk) λb o e=>ae _ e,xG _ lo (hi-lo).toNat,?_,λb c=>?_,q⟩
 have d:lo+((0:Nat):Int)*1=lo:=by simp
 have f:(((hi-lo).toNat:Nat):Int)-((0:Nat):Int)=Builtin.Range.rangeSize lo hi 1:=by rw[rangeSize_one];split<;>lia
 show IsRangeIter _ _ (lo+((0:Nat):Int)*1) ((((hi-lo).toNat:Nat):Int)-((0:Nat):Int)) 1;rw[d,f];exact af _ rfl;have e:b=(s.heap.push {cls:=.type "range",data:=.fields #[.int lo t,.int hi u,.int 1 v]}).objs.size:=by simpa using c
 subst e;exact a.fpOk (aj _) (a.hok.fresh (aj _))
def No(ta:TA):TI:=λσ H R=>ta σ H λvs H1=>∃j:Int,vs=[.int j]/\ -(2^62)<=j/\j<2^62/\R (Itr 0 j.toNat) H1
def p9{a:Expr}{ta:TA}{p pos:Pos}(hg:Gl X "range")(hm:X.mg "range"=qw)(ha:PA X [a] ta)(hs:starEach [a] X.env=[(q7,eval a X.env)]:=by rfl):PI X tg (.Call (.Name "range" p) [a] [] pos) (No ta):=by
 intro c s i H R I h;refine Call_ (gR I hg hm boot_range (dt (thn (ha pos c s i H _ I h) λo n ⟨m,l,d,f,q1⟩=>?_) hs rfl));obtain⟨j,e,q1,b,q⟩:=q1;subst e;cases f with
 |cons r g=>
  cases g;obtain⟨t,rfl⟩:=r;exact call_range_1 (Cc d (by lia) (by lia) q1 b (by simpa using q))
def OT(wi:TI)(g:TG)(tb:TS):TS:=λD σ H=>wi σ H λJ H1=>∃W:Nat->Nat->St->Hp->Prop,(∃m,W 0 m σ H1)/\∀i m σ H,W i m σ H->
 (J.stop i H/\D.nx σ H)\/(J.go i H/\∃N:St->Hp->Prop,(∀σ' H',N σ' H'->∃m',m'<m/\W (i+1) m' σ' H')/\∀x H',J.yld i H x H'->g x σ H' λσ2 H2=>tb {D with nx:=N,ct:=N,bk:=D.nx} σ2 H2)
noncomputable def iI(fp:L1 Addr)(h:Heap):cf:=fp.filterMap λb=>(h.get? b).map λo=>(b,o)
def fV(hb:b∈fp)(e:h.get? b=pi o):(b,o)∈iI fp h:=iu.mpr ⟨b,hb,by rw[e];rfl⟩
def qA(hp:p∈iI fp h):p.1∈fp/\h.get? p.1=pi p.2:=by obtain⟨b,a,e⟩:=iu.mp hp;rcases q:h.get? b with _|o;rw[q]at e;cases e;rw[q]at e;have c:(b,o)=p:=ku e;subst c;exact⟨a,q⟩
def Inv.pinned{σ:St}(I:Inv X cc σ H s)(hf: ∀b∈fp,oJ X cc H b)(ho: ∀b∈fp, ∃o,s.heap.get? b=pi o/\∀v,o.data≠ .cell v):Inv X (cc++iI fp s.heap) σ H s:=
 I.pins_of λp i=>(k6.mp i).elim (λz=>I.pin p (bt _ z)) λz=>by
  obtain⟨a,e⟩:=qA z;obtain⟨h,f,g,_⟩:=hf p.1 a;obtain⟨o,c,d⟩:=ho p.1 a;rw[e]at c;cases c;exact⟨e,h,f,g,d⟩
def Inv.unpinned{σ:St}(I:Inv X (cc++pl) σ H s):Inv X cc σ H s:=I.pins_of λp a=>I.pin p (bt _ (g8 _ a))
def JD{iter:Expr}{body:L1 Stmt}{wi:TI}{g:TG}{tb:TS}{pos:Pos}(hp:PassesOwn (model X.prog X.w) X.A X.env X.xe)(hc:X.calm=qz)(hi:PI X tg iter wi)(hg:PG X tg g)(hb:PSs X body tb)
  (hs: ∀x,foldedSetIterable iter X.env x=pure x:=by intro _;rfl):PS X (.For tg iter body [] pos) (OT wi g tb):=by
 intro B s σ H D I h;refine wpAny_For (thn (hi B s σ H _ I h) λv s1 h1=>thn h1 λab s2 h2=>?_) hs
 obtain⟨it,L,tn,J,H2,e,I2,T,st2,f2,W,⟨m0,w0⟩,E⟩:=h2;subst e
 have p: ∀{H':Hp},(∀b∈L,H' b=qw)->∀b∈L,oJ X B H' b:=λhn b hb=>⟨hn b hb,(f2 b hb).2⟩
 refine codeAny_forLoop_any (λn s'=>∃i σ' H',Inv X B σ' H' s'/\tn i s'.heap/\(∀b∈L,H' b=qw)/\W i n σ' H') ?_ m0 ⟨0,σ,H2,I2,st2,λb hb=>(f2 b hb).1,w0⟩
 rintro n s3 ⟨i,q,O,I3,K,G,w3⟩;rcases E i n q O w3 with ⟨C,qn⟩|⟨go,N,hN,step⟩
 .refine wpAny_passesOwn hp (thn (T.done X rfl rfl rfl hc i B s3 q O X.xe I3 (p G) K C) λr s4 c=>?_)
  obtain⟨U,I4⟩:=c;subst U;exact wpAny_execs_nil ⟨q,O,I4,qn⟩
 .refine wpAny_passesOwn hp (thn (T.item X rfl rfl rfl hc i B s3 q O X.xe I3 (p G) K go) λr s4 c=>?_)
  obtain⟨u,U,h4⟩:=c;subst U;refine wpAny_passesOwn hp (thn h4 λ_ s5 c=>?_)
  obtain⟨x,H5,I5,r5,y5,z,Z⟩:=c;have Y:=I5.pinned (p Z) (T.obj _ _ z);refine wpAny_passesOwn hp (thn (hg _ s5 q H5 x u _ Y r5 (step x H5 y5)) λ_ s6 c=>?_)
  obtain⟨S,H6,I6,q6⟩:=c;refine wpAny_passesOwn hp (thn (hb _ s6 S H6 _ I6 q6) λf Q y=>?_)
  have l: ∀{a:St} {t:Hp},Inv X (B++iI L s5.heap) a t Q->N a t->∃m,m<n/\∃i σ' H',Inv X B σ' H' Q/\tn i Q.heap/\(∀b∈L,H' b=qw)/\W i m σ' H':=λ{a t} j M=>by
   obtain⟨m',hm,w7⟩:=hN a t M;refine⟨m',hm,i+1,a,t,j.unpinned,T.keep _ _ _ z λb hb o e=>(j.pin (b,o) (bt _ (bt _ (fV hb e)))).1,λb hb=>?_,w7⟩
   obtain⟨o,e,d⟩:=T.obj _ _ z b hb;exact(j.pin (b,o) (bt _ (bt _ (fV hb e)))).2.1
  cases f with
  |next=>obtain⟨a,t,j,M⟩:=y;exact l j M
  |cont=>obtain⟨a,t,j,M⟩:=y;exact l j M
  |brk=>obtain⟨a,t,j,y⟩:=y;exact⟨a,t,j.unpinned,y⟩
  |ret v=>obtain⟨x7,a,t,j,r7,y⟩:=y;exact⟨x7,a,t,j.unpinned,r7,y⟩
end
abbrev R2:=V->V->Hp->VK->Prop
def OpR(X:Cx)(f:Value->Value->Sem Value)(r:R2):Prop:=
 ∀(cc:cf) (s:Shared) (σ:St) (H:Hp) (x y:V) (v u:Value) (Q:VK),Inv X cc σ H s->bG x v->bG y u->r x y H Q->
  X.wp (f v u) (EP X cc σ Q) X.xe s
def UnR(X:Cx)(f:Value->Sem Value)(r:V->Hp->VK->Prop):Prop:=
 ∀(cc:cf) (s:Shared) (σ:St) (H:Hp) (x:V) (v:Value) (Q:VK),Inv X cc σ H s->bG x v->r x H Q->
  X.wp (f v) (EP X cc σ Q) X.xe s
def lJ(X:Cx)(f:Value)(r:L1 V->Hp->VK->Prop):Prop:=
 ∀(cc:cf) (s:Shared) (σ:St) (H:Hp) (xs:L1 V) (us:L1 Value) (Q:VK),Inv X cc σ H s->cD xs us->r xs H Q->
  X.wp (call f us) (EP X cc σ Q) X.xe s
def tOp(r:R2)(ta tb:TE):TE:=λσ H Q=>ta σ H λx H1=>tb σ H1 λy H2=>r x y H2 Q
def tUn(r:V->Hp->VK->Prop)(ta:TE):TE:=λσ H Q=>ta σ H λx H1=>r x H1 Q
def rI(C:Int->Int->Prop)(g:Int->Int->V):R2:=λx y H Q=>∃i j,x= .int i/\y= .int j/\C i j/\Q (g i j) H
def rI0(g:Int->Int->V):R2:=λx y H Q=>∃i j,x= .int i/\y= .int j/\Q (g i j) H
def rU(g:Int->V):V->Hp->VK->Prop:=λx H Q=>∃i,x= .int i/\Q (g i) H
def Np(ho:UnR X (unaryOp op) r)(ha:PE X a ta):PE X (.UnaryOp op a pos) (tUn r ta):=by intro c s d H Q I h;exact UnaryOp_ (thn (ha c s d H _ I h) λv i b=>by obtain⟨x,g,e,f,q1⟩:=b;exact ho c i d g x v Q e f q1)
def opI{g:Int->Int->Int}(rule: ∀i j t u s (Q:ce) (E:ce),C i j->Q (.int (g i j) s.toks) {s with toks:=s.toks+1}->X.wp (f (.int i t) (.int j u)) Q E s):
  OpR X f (rI C λi j=>.int (g i j)):=by
 intro e s l H x y v u Q I d b h;obtain⟨i,j,rfl,rfl,c,q⟩:=h;obtain⟨t,rfl⟩:=d;obtain⟨a,rfl⟩:=b;exact rule i j t a s _ _ c ⟨.int (g i j),H,I.tok _,⟨_,rfl⟩,q⟩
def JE{g:Int->Int->Int}(rule: ∀i j t u s (Q:ce) (E:ce),Q (.int (g i j) s.toks) {s with toks:=s.toks+1}->X.wp (f (.int i t) (.int j u)) Q E s):
  OpR X f (rI0 λi j=>.int (g i j)):=by
 intro d s e H x y v u Q I c b h;obtain⟨i,j,rfl,rfl,q⟩:=h;obtain⟨t,rfl⟩:=c;obtain⟨a,rfl⟩:=b;exact rule i j t a s _ _ ⟨.int (g i j),H,I.tok _,⟨_,rfl⟩,q⟩
def MH{g:Int->Int->Bool}(rule: ∀i j t u s (Q:ce) (E:ce),Q (.bool (g i j)) s->X.wp (f (.int i t) (.int j u)) Q E s):
  OpR X f (rI0 λi j=>.bl (g i j)):=by
 intro d s e H x y v u Q I c b h;obtain⟨i,j,rfl,rfl,q⟩:=h;obtain⟨t,rfl⟩:=c;obtain⟨a,rfl⟩:=b;exact rule i j t a s _ _ ⟨.bl (g i j),H,I,rfl,q⟩
def Pw(i j:Int):Prop:=0<j/\j<1073741824
def Px(i j:Int):Prop:=0<=j/\j<=1000000/\i.natAbs<2^64
def Nq(i j:Int):Prop:=(-(2^64)<i/\i<2^64)\/(-(2^64)<j/\j<2^64)
def Nq.ok(h:Nq i j):IntMulOk i j:=by rcases h with ⟨a,b⟩|⟨a,b⟩;exact .of_left (intBits_le_64 a b);exact .of_right (intBits_le_64 a b)
def JF:OpR X (binaryOp .Add) (rI0 λi j=>.int (i+j)):=JE λ_ _ _ _ _ _ _ q=>add_int q
def JG:OpR X (binaryOp .Sub) (rI0 λi j=>.int (i-j)):=JE λ_ _ _ _ _ _ _ q=>sub_int q
def JH:OpR X (binaryOp .Mult) (rI Nq λi j=>.int (i*j)):=opI λ_ _ _ _ _ _ _ a q=>mul_int q a.ok
def FE:OpR X (binaryOp .FloorDiv) (rI Pw λi j=>.int (i/j)):=opI λi j _ _ _ _ _ a q=>by
 have b:(0:Int)<j:=a.1;have c:j<1073741824:=a.2;exact floordiv_int (by lia) (by rw[Int.fdiv_eq_ediv_of_nonneg i (by lia)];exact q) (.inl (PyProof.noPylong_small (by lia)))
def JI:OpR X (binaryOp .Mod) (rI (λ_ j=>0<j) λi j=>.int (i % j)):=opI λi j _ _ _ _ _ a q=>by
 have b:(0:Int)<j:=a;exact mod_int' (by lia) (by rw[Int.fmod_eq_emod_of_nonneg i (by lia)];exact q)
def JJ:OpR X (binaryOp .LShift) (rI Px λi j=>.int (i*2^j.toNat)):=opI λ_ _ _ _ _ _ _ a q=>lshift_int_small a.1 a.2.1 a.2.2 q
def JK:OpR X (binaryOp .BitAnd) (rI0 λi j=>.int (Builtin.bitAnd i j)):=JE λ_ _ _ _ _ _ _ q=>and_int q
def Nr:OpR X (binaryOp .BitOr) (rI0 λi j=>.int (Builtin.bitOr i j)):=JE λ_ _ _ _ _ _ _ q=>or_int q
def JL:OpR X (binaryOp .BitXor) (rI0 λi j=>.int (Builtin.bitXor i j)):=JE λ_ _ _ _ _ _ _ q=>xor_int q
def unI{g:Int->Int}(rule: ∀i t s (Q:ce) (E:ce),Q (.int (g i) s.toks) {s with toks:=s.toks+1}->X.wp (f (.int i t)) Q E s):
  UnR X f (rU λi=>.int (g i)):=by
 intro b s c H x v Q I a h;obtain⟨i,rfl,q⟩:=h;obtain⟨t,rfl⟩:=a;exact rule i t s _ _ ⟨.int (g i),H,I.tok _,⟨_,rfl⟩,q⟩
def JM:UnR X (unaryOp .USub) (rU λi=>.int (-i)):=unI λ_ _ _ _ _ q=>neg_int q
def Ec{σ:St}(I:Inv X cc σ H s)(q:Q (.bl k) H)(e:k=k'):EP X cc σ Q (.bool k') s:=by subst e;exact⟨.bl k,H,I,rfl,q⟩
def Nt:OpR X (compareOp .Lt) (rI0 λi j=>.bl (decide (i<j))):=MH λ_ _ _ _ _ _ _ q=>lt_int q
def Nu:OpR X (compareOp .LtE) (rI0 λi j=>.bl (decide (i<=j))):=MH λ_ _ _ _ _ _ _ q=>le_int q
def Nv:OpR X (compareOp .Gt) (rI0 λi j=>.bl (decide (j<i))):=MH λ_ _ _ _ _ _ _ q=>gt_int q
def Nw:OpR X (compareOp .GtE) (rI0 λi j=>.bl (decide (j<=i))):=MH λ_ _ _ _ _ _ _ q=>ge_int q
def JN:OpR X (compareOp .Is) (λx y H Q=>y= .non/\Q (.bl (decide (x= .non))) H):=by
 intro c s d H x y v u Q I a b h;obtain⟨rfl,q⟩:=h;cases b;refine is_none_gen (Ec I q ?_);cases x<;>first
  |(cases a;rfl)
  |(obtain⟨t,rfl⟩:=a;rfl)
def FF:OpR X (compareOp .IsNot) (λx y H Q=>y= .non/\Q (.bl (!decide (x= .non))) H):=by
 intro c s d H x y v u Q I a b h;obtain⟨rfl,q⟩:=h;cases b;refine isnot_none_gen (Ec I q ?_);cases x<;>first
  |(cases a;rfl)
  |(obtain⟨t,rfl⟩:=a;rfl)
def nF:(sizeLine:Nat)<2^63:=by rw[sizeLine_eq];decide
def xH:OpR X (binaryOp .Add) (λx y H Q=>∃i j,x= .str i/\y= .str j/\i.length+j.length<=sizeLine/\Q (.str (i++j)) H):=by intro e s g H x y v u Q I c b h;obtain⟨i,j,rfl,rfl,d,q⟩:=h;obtain⟨t,rfl⟩:=c;obtain⟨a,rfl⟩:=b;exact add_str (λa f=>⟨.str (i++j),H,I.tok _,⟨_,rfl⟩,q⟩) d
def lK(r:cD [x] us): ∃u,us=[u]/\bG x u:=by
 cases r with
 |cons b a=>cases a;exact⟨_,rfl,b⟩
def yW(r:cD [x,y] us): ∃u w',us=[u,w']/\bG x u/\bG y w':=by
 cases r with
 |cons b a=>
  cases a with
  |cons d c=>cases c;exact⟨_,_,rfl,b,d⟩
def JO(hc:X.calm=qz):lJ X (.builtin "max") (λxs H Q=>∃i j,xs=[.int i,.int j]/\Q (.int (if j > i then j else i)) H):=by intro c s f H xs l Q I r h;obtain⟨i,j,rfl,q⟩:=h;obtain⟨u,g,rfl,⟨t,rfl⟩,⟨b,rfl⟩⟩:=yW r;refine max_two_ints (I.ok.hd hc) λe d k=>⟨_,H,I.kept k,?_,q⟩;by_cases a:j > i;rw[if_pos a,if_pos a];exact⟨_,rfl⟩;rw[if_neg a,if_neg a];exact⟨_,rfl⟩
def JP(hc:X.calm=qz):lJ X (.builtin "min") (λxs H Q=>∃i j,xs=[.int i,.int j]/\Q (.int (if j<i then j else i)) H):=by intro c s f H xs l Q I r h;obtain⟨i,j,rfl,q⟩:=h;obtain⟨u,g,rfl,⟨t,rfl⟩,⟨b,rfl⟩⟩:=yW r;refine min_two_ints (I.ok.hd hc) λe d k=>⟨_,H,I.kept k,?_,q⟩;by_cases a:j<i;rw[if_pos a,if_pos a];exact⟨_,rfl⟩;rw[if_neg a,if_neg a];exact⟨_,rfl⟩
def qB:lJ X (.type "int") (λxs H Q=>(∃i,xs=[.int i]/\Q (.int i) H)\/∃k,xs=[.bl k]/\Q (.int (if k then 1 else 0)) H):=by intro b s c H xs d Q I r h;rcases h with ⟨i,rfl,q⟩|⟨k,rfl,q⟩;obtain⟨u,rfl,t,rfl⟩:=lK r;exact call_int_int ⟨.int i,H,I,⟨_,rfl⟩,q⟩;obtain⟨u,rfl,a⟩:=lK r;cases a;exact call_int_bool ⟨.int (if k then 1 else 0),H,I.tok _,⟨_,rfl⟩,q⟩
def qC:lJ X (.type "str") (λxs H Q=>∃i,xs=[.int i]/\i.natAbs.log2<1920/\Q (.str (toString i)) H):=by intro b s c H xs d Q I r h;obtain⟨i,rfl,a,q⟩:=h;obtain⟨u,rfl,t,rfl⟩:=lK r;exact PySem.P.str_of_int a ⟨.str _,H,I.tok _,⟨_,rfl⟩,q⟩
structure ObjM(h:Heap)(x dx C:Addr)(mA:Str->Option Value):Prop where
 obj:h.get? x=pi (ky C dx)
 ns:h.Ns1 dx mA
 ne:dx≠x
def yX{h:Heap}(n:h.Ns1 dx mA): ∃od,h.get? dx=pi od/\∀name,md name od=pi (mA name):=by
 obtain⟨o,c,l,g,d,hk,_,i⟩:=n;refine⟨o,g,λname=>?_⟩;have e:=i name;unfold nsFind findBy at e;rw[<-Array.find?_toList]at e;unfold md;rw[d];dsimp only;split;rename_i y q;rw[q]at e;exact congrArg pi e;rename_i q;rw[q]at e;have a:c.toList.any (·.refKey)=q7:=by
  rw[List.any_eq_false];intro y j;obtain⟨z,t,b⟩:=hk y (Array.mem_toList_iff.mp j);simp[DictEntry.refKey,b]
 have f: ¬c.toList.any (·.refKey)=qz:=by rw[a];exact bf
 rw[if_neg f];exact congrArg pi e
def ObjM.look(I:ObjM h x dx C mA): ∃od,PySem.W.InstAt h x (ky C dx) C (pi od)/\∀name,md name od=pi (mA name):=
 let ⟨od,ho,hl⟩:=yX I.ns;⟨od,⟨I.obj,rfl,rfl,ho⟩,hl⟩
section
variable{E:ce}{s:Shared}{K:oe}
def FG{Q:ce}(X:K.In s.heap)(I:ObjM s.heap x dx C mA)(hg:jy K C name=qz)(hh:je K C=qz)(ha:mf K (.ref C) name=pi qw)(hv:mA name=pi v)(hv':PySem.W.handedIn v=qz)(h:Q v {s with toks:=s.toks+1}):
  wpAny (model prog w) A (getAttr (.ref x) name expr) Q E s:=by
 obtain⟨b,J,a⟩:=I.look;exact PySem.W.get_value X J (ie hg).1 (PySem.W.findObj_own hh ha rfl (by rw[a,hv])) hv' h
def Cd(X:K.In s.heap)(I:ObjM s.heap x dx C mA)(hg:jy K C name=qz)(hf:mf K (.ref C) name=pi (pi (.ref f)))(ht:ox K (.ref f)=qz)(hv:mA name=qw)(h:Q (.ref f,[.ref x]) s):
  wpAny (model prog w) A (getMethod (.ref x) name pl) Q E s:=by
 obtain⟨a,J,b⟩:=I.look;exact PySem.W.method_fn X J (ie hg).1 (ie hg).2 hf (beq_iff_eq.mp ht) (by show(md name a).map (·.isSome)=pi q7;rw[b,hv];rfl) h
def FH(X:K.In s.heap)(I:ObjM s.heap x dx C mA)(hs:mf K (.ref C) "__setattr__"=pi (pi (.builtin "object.__setattr__")))(hp:jf K C=qz)(ht:PySem.W.takerIn K C name=pi qw)(hh:je K C=qz)(hw:oj mA ns)(hsz:ns.length<=sizeLine)(h: ∀h',ObjM h' x dx C (λy=>if y=name then pi v else mA y)->oq dx s.heap h'->Q () {s with heap:=h',toks:=s.toks+2}):
  wpAny (model prog w) A (setAttr (.ref x) name v) Q E s:=by
 obtain⟨p,J,o⟩:=I.look;refine PySem.W.set_plain X J hs (PySem.W.osa_open (s:={s with toks:=s.toks+1}) (r:=qw) X J hp ht λb=>?_);obtain⟨t,l,i⟩:=PySem.W.any_some hh;have n:s.heap.get? x=pi ⟨.ref C,pi dx,.plain, #[]⟩:=I.obj;refine aa (ac (aa (aa (wpAny_loadPart n (aa (PySem.W.Looks.here (s:={s with toks:=s.toks+1}) (PySem.W.looks_clsIn X l) ?_))))));rw[i];refine ac (a:=pi dx) (aa (ac (aa ?_)));refine wpAny_nsSet1 (s:={s with toks:=s.toks+1}) I.ns λh' c d=>?_;obtain⟨q,j,m,f,e,g⟩:=c.count (oj.cons name v hw);refine aa (wpAny_lookBehind f (by rw[e];exact pastItsLine_dict (om g (by rw[bq];lia))) ?_);exact ac (h _ ⟨(d.2 _ (qu I.ne)).trans I.obj,c,I.ne⟩ d)
def Ce(X:K.In s.heap)(hm:PySem.W.makesIn K C=qz)(hi:mf K (.ref C) "__init__"=pi (pi (.ref f)))(hf:PySem.W.typeIn K (.ref f)=pi (.type "function"))(h:codeAny (model prog w) (A.under (.builtin "type.__call__" ⟨.ref C::vs,kw⟩)) (.call (.ref f) ⟨.ref (s.z+1)::vs,kw⟩) (PySem.W.InitBack (s.z+1) R)
   {s with heap:=(s.heap.push jg).push (ky C s.z)}):
  codeAny (model prog w) A (.call (.ref C) ⟨vs,kw⟩) R s:=by
 obtain⟨b,g,d,t,c⟩:=s;exact PySem.W.make_core (PySem.W.makes_of X hm) (PySem.W.looks_findIn X hi) (λa=>PySem.W.bind_fn X a hf) (.inl rfl) h
end
noncomputable def sW(f:Str)(v:V):L1 (Str×V)->L1 (Str×V)
 |[]=>[(f,v)]
 |(g,x)::r=>if g=f then(g,v)::r else(g,x)::sW f v r
theorem lL f g v: ∀fs,(sW f v fs).lookup g=if g=f then pi v else fs.lookup g
 |[]=>by
  show ph g [(f,v)]=_;by_cases h:g=f;have a:(g==f)=qz:=beq_iff_eq.mpr h;simp only[ph,a,if_pos h];have a:(g==f)=q7:=beq_eq_false_iff_ne.mpr h;simp only[ph,a,if_neg h]
 |(k,x)::r=>by
  have b:=lL f g v r;rw[show sW f v ((k,x)::r)=(if k=f then(k,v)::r else(k,x)::sW f v r) from rfl];by_cases hk:k=f;rw[if_pos hk];by_cases h:g=k;have a:(g==k)=qz:=beq_iff_eq.mpr h;simp only[ph,a,if_pos (h.trans hk)];have a:(g==k)=q7:=beq_eq_false_iff_ne.mpr h;simp only[ph,a,if_neg (λe:g=f=>h (e.trans hk.symm))];rw[if_neg hk];by_cases h:g=k;have a:(g==k)=qz:=beq_iff_eq.mpr h;simp only[ph,a,if_neg (λe:g=f=>hk (h.symm.trans e))];have a:(g==k)=q7:=beq_eq_false_iff_ne.mpr h;simp only[ph,a];exact b
theorem lM f v: ∀fs,f∈(sW f v fs).map (·.1)/\∀g,g∈fs.map (·.1)->g∈(sW f v fs).map (·.1)
 |[]=>⟨by simp[sW],λg h=>by simp at h⟩
 |(k,x)::r=>by
  obtain⟨b,a⟩:=lM f v r;rw[show sW f v ((k,x)::r)=(if k=f then(k,v)::r else(k,x)::sW f v r) from rfl];by_cases hk:k=f;rw[if_pos hk];subst hk;exact⟨by simp,λg h=>by simpa using h⟩;rw[if_neg hk];refine⟨?_,λg h=>?_⟩;rw[ni];exact g7 _ b;rw[ni]at h ⊢;rcases av.mp h with e|e;exact av.mpr (.inl e);exact g7 _ (a g e)
theorem lN f v: ∀fs,(sW f v fs).length<=fs.length+1
 |[]=>by simp[sW]
 |(k,x)::r=>by
  have a:=lN f v r;rw[show sW f v ((k,x)::r)=(if k=f then(k,v)::r else(k,x)::sW f v r) from rfl];by_cases hk:k=f;rw[if_pos hk,bq,bq];lia;rw[if_neg hk,bq,bq];lia
def mZ.some_of(r:mZ (pi v) o): ∃u,o=pi u/\bG v u:=by rcases o with _|u;exact(show False from r).elim;exact⟨u,rfl,r⟩
def mZ.none_of(r:mZ qw o):o=qw:=by rcases o with _|u;rfl;exact(show False from r).elim
def yY(r:bG v u):PySem.W.handedIn u=qz:=by rcases v with _|b|i|x|b|b|a|n;cases (show u=pw from r);rfl;cases (show u=p3 b from r);rfl;obtain⟨t,e⟩:=(show ∃t,u=qf i t from r);cases e;rfl;obtain⟨t,e⟩:=(show ∃t,u=qg x t from r);cases e;rfl;obtain⟨t,e⟩:=(show ∃t,u=Value.bytes b t from r);cases e;rfl;obtain⟨t,e⟩:=(show ∃t,u=Value.float b t from r);cases e;rfl;cases (show u=qh a from r);rfl;cases (show u=p4 n from r);rfl
def tG(hok:HOk P w H h)(e:H a=pi (.ins C dx fs)): ∃mA,ObjM h a dx C mA/\(∀f,mZ (fs.lookup f) (mA f))/\oj mA (fs.map (·.1))/\fs.length<=1000/\H dx=pi (.own a):=by obtain⟨d,z,c,b,mA,n,r,q⟩:=(show ObjOk P w H h a (.ins C dx fs) from hok a _ e);exact⟨mA,⟨b,n,c⟩,r,q,z,d⟩
structure Cls(K:oe)(C:Addr):Prop where
 pg:jy K C qi=qz
 hd:je K C=qz
 po:jf K C=qz
 sa:mf K (.ref C) "__setattr__"=pi (pi (.builtin "object.__setattr__"))
def Cls.get{K}(c:Cls K C)f:jy K C f=qz:=c.pg
def iJ(K:oe)(C:Addr)(f:Str):Prop:=mf K (.ref C) f=pi qw
def iJ.taker{K}(n:iJ K C f):PySem.W.takerIn K C f=pi qw:=by unfold PySem.W.takerIn;rw[show mf K (.ref C) f=pi qw from n];rfl
structure Meth(K:oe)(C:Addr)(m:Str)(f:Addr):Prop where
 at_:mf K (.ref C) m=pi (pi (.ref f))
 fn:ox K (.ref f)=qz
 kp:mh K (.ref f)=qz
section
variable{σ:St}{E:ce}
def xI{Q:ce}(I:Inv X cc σ H s)(e:H a=pi (.ins C dx fs))(c:Cls X.K C)(n:iJ X.K C f)(l:fs.lookup f=pi v)(h: ∀u s',Inv X cc σ H s'->bG v u->Q u s'):wpAny (model X.prog X.w) A (getAttr (.ref a) f b) Q E s:=by obtain⟨i,O,r,_,_,_⟩:=tG I.hok e;obtain⟨u,g,d⟩:=mZ.some_of (v:=v) (o:=i f) (by rw[<-l];exact r f);exact FG I.kIn O (c.get f) c.hd n g (yY d) (h u _ (I.tok _) d)
def hU(I:Inv X cc σ H s)(e:H a=pi (.ins C dx fs))(c:Cls X.K C)(k:Meth X.K C m g)(l:fs.lookup m=qw)(h:Q (.ref g,[.ref a]) s):wpAny (model X.prog X.w) A (getMethod (.ref a) m pl) Q E s:=by obtain⟨d,O,r,_,_,_⟩:=tG I.hok e;have b:d m=qw:=mZ.none_of (by rw[<-l];exact r m);exact Cd I.kIn O (c.get m) k.at_ k.fn b h
def xJ(I:Inv X cc σ H s)(e:H a=pi (.ins C dx fs))(c:Cls X.K C)(n:iJ X.K C f)(hl:fs.length<1000)(ry:bG y u)(h: ∀s',Inv X cc σ (upd H a (.ins C dx (sW f y fs))) s'->Q () s'):wpAny (model X.prog X.w) A (setAttr (.ref a) f u) Q E s:=by
 obtain⟨l,O,r,i,_,j⟩:=tG I.hok e;have v:(fs.map (·.1)).length<=sizeLine:=by rw[aq,sizeLine_eq];lia
 refine FH I.kIn O c.sa c.po n.taker c.hd i v λp d t=>h _ ?_;have hd: ∃o,p.get? dx=pi o:=let ⟨o,_,_,e',_⟩:=d.ns;⟨o,e'⟩;refine I.write (x:=a) (e:=dx) (by rw[e];exact qa) (.inr j) (λb q m z=>(t.2 b m).trans z) hd ?_;refine⟨by rw[aC O.ne];exact j,?_,O.ne,d.obj,_,d.ns,λg=>?_,λg B=>?_⟩
 .have:=lN f y fs;lia
 .show mZ ((sW f y fs).lookup g) (if g=f then pi u else l g);rw[lL];by_cases q:g=f
  .rw[if_pos q,if_pos q];exact ry
  .rw[if_neg q,if_neg q];exact r g
 .by_cases q:g=f
  .rw[q];exact(lM f y fs).1
  .refine(lM f y fs).2 g (i g λz=>B ?_);show(if g=f then pi u else l g)=qw;rw[if_neg q];exact z
def Inv.made(I:Inv X cc σ H s):Inv X cc σ (upd (upd H s.z (.own (s.z+1))) (s.z+1) (.ins C s.z []))
  {s with heap:=(s.heap.push jg).push (ky C s.z)}:=by
 have d:(s.heap.push jg).get? s.z=pi jg:=af s.heap rfl;have i:((s.heap.push jg).push (ky C s.z)).get? (s.z+1)=pi (ky C s.z):=by
  have:=af (s.heap.push jg) (o:=ky C s.z) rfl;rwa [ai]at this
 have h:(s.heap.push jg).Ns s.z (λ_=>qw):=⟨jg, #[],_,d,rfl,(λe g=>absurd g (by simp)),λ_=>rfl⟩;have f:=I.laid (a:=s.z) (o:=.own (s.z+1)) (h':=s.heap.push jg) (t':=s.toks) (λb u q=>ae _ q) (aj _) ⟨_,d⟩;refine f.laid (a:=s.z+1) (o:=.ins C s.z []) (t':=s.toks) (λb u q=>ae _ q) (Nat.le_of_eq (ai _ _)) ?_;have c:s.z≠s.z+1:=bh (jz _);refine⟨by rw[aC c,aH],bu _,c,i,λ_=>qw,(Heap.Ns1.of_empty h).at λo q=>ae _ q,λ_=>qa,λy j=>absurd rfl j⟩
def FI{Q:ce}(hb:attributeBase e f env (eval e env)=eval e env)(h:wpAny (model prog w) A (eval e env) (λo s₁=>wpAny (model prog w) A (getAttr o f qz) Q E s₁) E s):wpAny (model prog w) A (eval (.Attribute e f pos) env) Q E s:=
 Attribute_any_ h (by rw[arm_eval_Attribute,hb])
end
def MJ(K:oe)(ta:TE)(f:Str):TE:=λσ H Q=>ta σ H λx H1=>∃a C dx fs v,x= .ref a/\H1 a=pi (.ins C dx fs)/\Cls K C/\iJ K C f/\fs.lookup f=pi v/\Q v H1
def Pz(K:oe)(ta tv:TE)(f:Str):TS:=λD σ H=>tv σ H λy H1=>ta σ H1 λx H2=>∃a C dx fs,x= .ref a/\H2 a=pi (.ins C dx fs)/\Cls K C/\iJ K C f/\fs.length<1000/\
 D.nx σ (upd H2 a (.ins C dx (sW f y fs)))
def gT(he:PE X e ta)(hb:attributeBase e f X.env (eval e X.env)=eval e X.env):PE X (.Attribute e f pos) (MJ X.K ta f):=by intro d s r H Q I h;refine FI hb (thn (he d s r H _ I h) λu z b=>?_);obtain⟨x,p,g,j,a,C,y,fs,v,ex,i,c,n,l,q⟩:=b;subst ex;obtain rfl:u=qh a:=j;exact xI g i c n l λw t m o=>⟨v,p,m,o,q⟩
def u8(ha:PE X o ta)(hv:PE X value tv)(hs:swapsWith value (pi (.Attribute o f pos')) pos.line X.env=pure q7):PS X (.Assign [.Attribute o f pos'] value pos) (Pz X.K ta tv f):=by intro d s b H D I h;refine plainObj_wpAny_Assign_Attribute (thn (hv d s b H _ I h) λu w ⟨y,v,m,g,q⟩=>thn (ha d w b v _ m q) λi A ⟨x,z,r,t,a,C,E,fs,ex,p,c,n,l,j⟩=>?_) hs;subst ex;obtain rfl:i=qh a:=t;exact xJ r p c n l g λB e=>⟨b,_,e,j⟩
structure Room(k:Nat)(A:Around):Prop where
 hd:A.handled=qw
 dp:A.depth+3*k+5<recursionLimit
 un:A.units+16*k+200<cLine
def Room.mono(r:Room k A)(h:j<=k):Room j A:=⟨r.hd,by have:=r.dp;lia,by have:=r.un;lia⟩
theorem Room.deeper(r:Room (k+1) A)env:Room k (A.deeper env):=
 ⟨r.hd,by have:=r.dp;show A.depth+1+3*k+5<_;lia,by have:=r.un;show A.units+3+16*k+200<_;lia⟩
def xK{A:Around}:(A.under (.builtin "type.__call__" ⟨.ref C::us,kw⟩)).depth=A.depth+1:=by first|rfl|simp[Around.under,Code.weight,Code.isCreation,Code.isGuard,Code.isCaller,Code.frames,Code.isFrame,guardIds]
def xL{A:Around}:(A.under (.builtin "type.__call__" ⟨.ref C::us,kw⟩)).units=A.units+1:=by first|rfl|simp[Around.under,Code.cUnits,Code.frames,Code.isFrame]
def Room.make(r:Room (k+1) A)C us kw:Room k (A.under (.builtin "type.__call__" ⟨.ref C::us,kw⟩)):=
 ⟨r.hd,by have:=r.dp;rw[xK];lia,by have:=r.un;rw[xL];lia⟩
theorem Room.depth(r:Room k A):A.depth<recursionLimit:=by have:=r.dp;lia
theorem Room.units(r:Room k A):A.units+64<cLine:=by have:=r.un;lia
def IZ:TA:=λ_ H Q=>Q [] H
def tH(ta:TE)(tr:TA):TA:=λσ H Q=>ta σ H λx H1=>tr σ H1 λxs H2=>Q (x::xs) H2
section
variable{X:Cx}{e:Expr}{es:L1 Expr}{te:TE}{t:TA}
def eP:PA X [] IZ:=λ_ _ _ _ H Q I h=>jh ⟨[],H,I,.nil,h⟩
def cJ(ha:PE X e te)(hr:PA X es t)(hs:starEach (e::es) X.env=(q7,eval e X.env)::starEach es X.env:=by rfl):PA X (e::es) (tH te t):=by intro a d s f H Q I h;rw[hs];show wpAny _ _ (spliced ((q7,eval e X.env)::backTo a (starEach es X.env))) _ _ s;refine iw (thn (ha d s f H _ I h) λu q c=>?_);obtain⟨x,p,l,m,q1⟩:=c;exact thn (hr a d q f p _ l q1) λv r b=>by obtain⟨n,j,o,g,i⟩:=b;exact⟨x::n,j,o,.cons m g,i⟩
def PB(t:TA):TE:=λσ H Q=>t σ H λxs H1=>xs.length<=sizeLine/\∀p,H1 p=qw->Q (.ref p) (upd H1 p (.tup xs))
def PD(t:TA):TE:=λσ H Q=>t σ H λxs H1=>xs.length<=sizeLine/\∀p,H1 p=qw->Q (.ref p) (upd H1 p (.lst xs))
def Ed(h:PA X es t):PE X (.Tuple es x1 pos) (PB t):=by intro f s l H Q I i;refine wpAny_Tuple_spliced (thn (h pos f s l H _ I i) λm a ⟨g,d,c,r,z,q⟩=>⟨by rw[<-r.length];exact z,?_⟩);have j:d a.z=qw:=c.hok.fresh (aj _);refine⟨.ref a.z,upd d a.z (.tup g),c.laid (t':=a.toks) (λb u e=>ae _ e) (aj _) ?_,rfl,q _ j⟩;exact⟨z,m,r,⟨_,af _ rfl,rfl,_,rfl⟩,⟨_,af _ rfl,rfl⟩⟩
def u9(h:PA X es t):PE X (.List es pos) (PD t):=by intro f s l H Q I i;refine wpAny_List_spliced (thn (h pos f s l H _ I i) λm a ⟨g,d,c,r,z,q⟩=>⟨by rw[<-r.length];exact z,?_⟩);have j:d a.z=qw:=c.hok.fresh (aj _);refine⟨.ref a.z,upd d a.z (.lst g),c.laid (t':=a.toks) (λb u e=>ae _ e) (aj _) ?_,rfl,q _ j⟩;exact⟨z,m,0,r,af _ rfl⟩
end
abbrev Sp:=L1 V->Hp->VK->XK->Prop
abbrev CXT:=L1 Env->Hp->Shared->XK->Value->Shared->Prop
structure Env0(P:Program)(w:World)(K:oe)(mg:Str->Option Value)(base:Heap)(A:Around)(outer:List Env)(s:Shared)(H:Hp):Prop where
 frames:A.frames=pi outer
 mod:Mod K mg base
 bs: ∀b o,base.get? b=pi o->s.heap.get? b=pi o/\H b=qw
 bsz:base.objs.size<=s.z
 funs:s.heap.FunFrames base outer
 frf: ∀b∈frs outer,H b=qw
 hok:HOk P w H s.heap
 bare:AllBare s.gens
def CE(outer:L1 Env)(P:Program)(w:World)(H:Hp)(s:Shared)(Q:VK)(u:Value)(s':Shared):Prop:=
 ∃v H',s'.os=s.os/\AllBare s'.gens/\Un (frs outer) [] H H' s.heap s'.heap/\HOk P w H' s'.heap/\bG v u/\Q v H'
def CR(CX:CXT)(outer:L1 Env)(P:Program)(w:World)(H:Hp)(s:Shared)(Q:VK)(E:XK)(r:Result)(s':Shared):Prop:=
 match r with
 |.ok (.ret u)=>CE outer P w H s Q u s'
 |.ok _=>False
 |.error e=>CX outer H s E e s'
structure FnOk(P:Program)(w:World)(K:oe)(mg:Str->Option Value)(base:Heap)(CX:CXT)(k:Nat)(f:Addr)(fd:FuncData)(ps:List Str)(sp:Sp):Prop where
 len: ∀vs H Q E,sp vs H Q E->vs.length=ps.length
 run: ∀(A:Around) (outer:List Env) (s:Shared) (H:Hp) (args:Args) (us:List Value) (vs:List V) (Q:VK) (E:XK),Room k A->Env0 P w K mg base A outer s H->BindsTo s fd args (ps.zip us)->cD vs us->sp vs H Q E->
  codeAny (model P w) A (.call (.ref f) args) (CR CX outer P w H s Q E) s
def Env0.make{K}(e:Env0 P w K mg base A outer s H)C us kw:
  Env0 P w K mg base (A.under (.builtin "type.__call__" ⟨.ref C::us,kw⟩)) outer s H:=⟨by first|exact e.frames|(simpa[Around.under,Code.envs,Code.isFrame,pushEnvs]using e.frames),e.mod,e.bs,e.bsz,e.funs,e.frf,e.hok,e.bare⟩
section
variable{σ:St}
def Inv.env0(I:Inv X cc σ H s):Env0 X.prog X.w X.K X.mg X.base X.A X.stack s H:=
 ⟨I.ok.frames,I.ok.mod,I.bs,om I.ok.bsz I.sz,I.stack,I.stkFree,I.hok,I.bare⟩
def Inv.after(I:Inv X cc σ H s)(h:CE X.stack X.prog X.w H s Q u s'):EP X cc σ Q u s':=by obtain⟨v,f,os,a,un,e,r,q⟩:=h;obtain⟨i,g,d,t,c⟩:=s';obtain rfl:c=s.os:=os;exact⟨v,f,I.call (h':=i) (g':=g) (d':=d) (t':=t) (ch:=[]) un e a (λb z=>absurd z (by simp)),r,q⟩
end
def Nx(C:Addr)(sp:Sp)(dvs:L1 V)(E:XK)(t:TA):TE:=λσ H Q=>t σ H λvs H1=>∀x dx,H1 x=qw->H1 dx=qw->dx≠x->
 sp (.ref x::(vs++dvs)) (upd (upd H1 dx (.own x)) x (.ins C dx [])) (λv H2=>v= .non/\Q (.ref x) H2) E
def eA(K:oe)(fd:FuncData)(ps:L1 Str)(ds:L1 Value):Prop:=
 ∀(s:Shared) (us:L1 Value),K.In s.heap->(us++ds).length=ps.length->BindsTo s fd ⟨us,[]⟩ (ps.zip (us++ds))
def eA.all{K}(h: ∀us,us.length=ps.length->bindArgs fd ⟨us,[]⟩=pure (ps.zip us)):eA K fd ps []:=λs us _ a=>by
 rw[k7]at a ⊢;exact .of_eq (h us a)
def Ee(CX:CXT)(X:Cx)(E:XK):Prop:= ∀(cc:cf) (σ:St) (H:Hp) (s:Shared) (e:Value) (s':Shared),Inv X cc σ H s->CX X.stack H s E e s'->X.xe e s'
section
variable{X:Cx}{CX:CXT}{k:Nat}{f C:Addr}{fd:FuncData}{ps:L1 Str}{sp:Sp}{dvs:L1 V}{ds:L1 Value}{E:XK}{x:Str}{p pos:Pos}
structure Mk(K:oe)(C f:Addr):Prop where
 makes:PySem.W.makesIn K C=qz
 init:mf K (.ref C) "__init__"=pi (pi (.ref f))
 fn:ox K (.ref f)=qz
 kp:mh K (.ref C)=qz
def Cf{cc}{σ:St}{H}{s}{Q}{us}{vs}(M:Mk X.K C f)(F:FnOk X.prog X.w X.K X.mg X.base CX k f fd ps sp)(hr:Room (k+1) X.A)(hb:eA X.K fd ps ds)(hd:cD dvs ds)(hx:Ee CX X E)(I:Inv X cc σ H s)(r:cD vs us)(h: ∀x dx,H x=qw->H dx=qw->dx≠x->sp (.ref x::(vs++dvs)) (upd (upd H dx (.own x)) x (.ins C dx [])) (λv H2=>v= .non/\Q (.ref x) H2) E):
  X.wp (call (.ref C) us) (EP X cc σ Q) X.xe s:=by
 have d:=h (s.z+1) s.z (I.hok.fresh (pj _)) (I.hok.fresh (aj _)) (bh (jz _));have b:=Inv.made (C:=C) I;have c:cD (V.ref (s.z+1)::(vs++dvs)) (qh (s.z+1)::(us++ds)):=.cons rfl (r.append hd);have j:(qh (s.z+1)::us++ds).length=ps.length:=by
  have e:=c.length;rw[F.len _ _ _ _ d]at e;exact e.symm
 refine wpAny_call (Ce (f:=f) I.kIn M.makes M.init (beq_iff_eq.mp M.fn) (codeAny_mono (F.run _ X.stack _ _ ⟨qh (s.z+1)::us,[]⟩ (qh (s.z+1)::(us++ds)) _ _ E (hr.make C us [])
  (b.env0.make C us []) (hb _ (qh (s.z+1)::us) b.kIn j) c d) λr m a=>?_))
 rcases r with e|g;exact hx cc σ _ _ e m b a;cases g with
 |ret u=>
  obtain⟨v,n,i,l,ev,o⟩:=b.after a;subst ev;exact⟨l,⟨V.ref (s.z+1),n,i,rfl,o⟩⟩
 |next=>exact ba a
 |brk=>exact ba a
 |cont=>exact ba a
def Cg(M:Mk X.K C f)(F:FnOk X.prog X.w X.K X.mg X.base CX k f fd ps sp)(hr:Room (k+1) X.A)(hg:Gl X x)(hm:X.mg x=pi (.ref C))(hb:eA X.K fd ps ds)(hd:cD dvs ds)(hx:Ee CX X E)
  (hdb:(x==gV)=q7:=by decide):PE X (.Call (.Name x p) [] [] pos) (Nx C sp dvs E IZ):=by
 intro a s b H Q I h;refine wpAny_Call_Name_kw (eT I hg hm ?_ hdb);exact ig I.kIn M.kp (Cf (us:=[]) M F hr hb hd hx I .nil h)
end
structure FnScope(N P:List Str)(sc:Scope):Prop where
 kind:sc.kind= .function
 co:sc.isCoroutine=q7
 gen:sc.isGenerator=q7
 nd:N.Nodup
 pre:N.take P.length=P
 par: ∀x∈P,sc.names.lookup x=pi .local\/sc.names.lookup x=pi .cell
 nofree: ∀y∈sc.names,y.2≠ .free
theorem qD{kindOf}{x}: ∀{binds} {m},(∀v,(x,v)∉binds)->bindL kindOf binds m x=m x
 |[],_,_=>rfl
 |(n,v)::r,m,h=>by
  unfold bindL;rw[qD λw a=>h w (g7 _ a)];split;have:x≠n:=by rintro rfl;exact h v ir
  simp[this];rfl
theorem qF{kindOf}{x}: ∀{binds} {m},(∀v,(x,v)∉binds)->bindC kindOf binds m x=m x
 |[],_,_=>rfl
 |(n,v)::r,m,h=>by
  unfold bindC;rw[qF λw a=>h w (g7 _ a)];split;rfl;have:x≠n:=by rintro rfl;exact h v ir
  simp[this]
theorem qG{kindOf}{x}{v}: ∀{P:L1 Str} {vs} {i:Nat} {m},P.Nodup->P[i]? =pi x->vs[i]? =pi v->kindOf x=pi .local->
  bindL kindOf (P.zip vs) m x=pi v
 |[],_,_,_,_,h,_,_=>by simp at h
 |_::_,[],_,_,_,_,h,_=>by simp at h
 |p::P,w::vs,0,m,nd,h1,h2,hk=>by
  simp at h1 h2;subst h1;subst h2;show bindL kindOf ((p,w)::P.zip vs) m p=_;unfold bindL;rw[qD λv a=>(la.mp nd).1 (lf a).1,if_pos hk];simp
 |p::P,w::vs,i+1,m,nd,h1,h2,hk=>by
  show bindL kindOf ((p,w)::P.zip vs) m x=_;unfold bindL;exact qG (i:=i) (la.mp nd).2 (by simpa using h1) (by simpa using h2) hk
theorem qH{kindOf}{x}{v}: ∀{P:L1 Str} {vs} {i:Nat} {m},P.Nodup->P[i]? =pi x->vs[i]? =pi v->kindOf x≠pi .local->
  bindC kindOf (P.zip vs) m x=pi v
 |[],_,_,_,_,h,_,_=>by simp at h
 |_::_,[],_,_,_,_,h,_=>by simp at h
 |p::P,w::vs,0,m,nd,h1,h2,hk=>by
  simp at h1 h2;subst h1;subst h2;show bindC kindOf ((p,w)::P.zip vs) m p=_;unfold bindC;rw[qF λv a=>(la.mp nd).1 (lf a).1,if_neg hk];simp
 |p::P,w::vs,i+1,m,nd,h1,h2,hk=>by
  show bindC kindOf ((p,w)::P.zip vs) m x=_;unfold bindC;exact qH (i:=i) (la.mp nd).2 (by simpa using h1) (by simpa using h2) hk
noncomputable def start(N:L1 Str)(vs:L1 V):St:=vs.map pi++ao (N.length-vs.length) qw
noncomputable def jU(CX:CXT)(P:Program)(w:World)(K:oe)(mg:Str->L7 Value)(base:Heap)(N:L1 Str)(qual:Str)(scope:Scope)(f:Addr)(cd:Value)(A:Around)(outer:L1 Env)(s:Shared)(H:Hp)(E:XK):Cx where
 prog:=P;w:=w;K:=K;mg:=mg;base:=base;A:=A.deeper (envOfC qual scope s.z f cd);N:=N;s₀:=s;H₀:=H;env:=envOfC qual scope s.z f cd;outer:=outer;stack:=envOfC qual scope s.z f cd::outer;ex:=[];calm:=qz;fn:=λ_=>qz;pn:=[];xe:=λe s'=>wpAny (model P w) (A.deeper (envOfC qual scope s.z f cd)) (leaving (envOfC qual scope s.z f cd) e) (λ_ s''=>CX outer H s E e s'') (λe' s''=>CX outer H s E e' s'') s'
def vA{sc:Scope}(h:sc.names.lookup x=pi .cell): ∃c,(cellsFrom n sc.names []).lookup x=pi c:=by have q:=fy sc.names n [] (.inl h);exact eh.mp q
def gU{K}(S:FnScope N ps scope)(hd:A.handled=qw)(e0:Env0 P w K mg base A outer s H)(hl:vs.length=ps.length)(r:cD vs us)(x:InCallC s s.z (bindL (envOfC qual scope s.z f cd).kindOf (ps.zip us) λ_=>qw) (cellsFrom (s.z+1) scope.names []) (bindC (envOfC qual scope s.z f cd).kindOf (ps.zip us) λ_=>qw) s1):
  Inv (jU CX P w K mg base N qual scope f cd A outer s H E) [] (start N vs) H s1:=by
 have C:ps.length<=N.length:=by have:=congrArg pp S.pre;rw[j3]at this;lia
 obtain⟨o,L,rfl,hk⟩:=x.done;have g: ∀b:Addr,b∉(jU CX P w K mg base N qual scope f cd A outer s H E).ex:=λb z=>absurd (show b∈([]:L1 Addr) from z) (by simp);refine⟨⟨e0.mod,S.kind,rfl,rfl,aj _,λy z c o d=>?_,λy j=>?_,λy c _ h=>?_,λ_=>hd,Around.frames_deeper e0.frames,.inr ⟨rfl,rfl⟩,λb z=>absurd z (g b),e0.bs,e0.bsz,λb _ _=>g b,λb z=>absurd z (g b),e0.funs,e0.frf⟩,
  rfl,e0.bare,Un.kept hk,⟨_,x.toInCall.ns,λi y v o d J=>?_⟩,λy c h=>⟨_,x.cell y c h⟩,e0.hok.fresh (aj _),λy c h=>?_,λp l=>absurd (show p∈([]:cf) from l) (by simp),e0.hok.kept hk,?_⟩
 exact name_of_addr x.apart (ii o) (ii d);have j:scope.names.lookup y=pi .cell\/scope.names.lookup y=pi .free:=j;rcases j with j|j;exact vA j;exact absurd rfl (S.nofree _ (ii j));exact oo (x.above y c (ii h));have t:i<vs.length:=by
  unfold start at d;by_cases t:i<vs.length;exact t;rw[bn (by simpa using t)]at d;rw[eu]at d;split at d<;>cases d
 have I:vs[i]? =pi v:=by
  unfold start at d;rw[bx (by simpa using t),ji]at d;rcases e:vs[i]? with _|a;rw[e]at d;cases d;rw[e]at d;cases d;rfl
 obtain⟨u,B,G⟩:=r.get I;have l:ps[i]? =pi y:=by
  rw[<-S.pre,List.getElem?_take_of_lt (by lia)];exact o
 have m:ps.Nodup:=by rw[<-S.pre];exact S.nd.sublist (List.take_sublist _ _)
 refine⟨u,G,?_⟩;rcases S.par y (List.mem_of_getElem? l)with k|k;exact .inl ⟨k,qG m l B k⟩;obtain⟨c,e⟩:=vA (n:=s.z+1) k;refine .inr ⟨.inl k,c,e,?_⟩;have q:=x.cell y c e;rw[qH m l B (by show scope.names.lookup y≠_;rw[k];decide)]at q;exact q;exact e0.hok.fresh (oo (x.above y c (ii h)));unfold start;show _=N.length;rw[bo,aq,gj];lia
def Ch{K}{dV kV doc pm cdv ct oc}(lk:K.lookup f=pi ⟨oc,od,.func (oy name qual params body scope dV kV doc pm an cdv ct),osl⟩)(hcd:mi K cdv qual=qz)(S:FnScope N ps scope)(len: ∀vs H Q E,sp vs H Q E->vs.length=ps.length)(hbody: ∀A outer s H vs Q E,Room k (A.deeper (envOfC qual scope s.z f cdv))->sp vs H Q E->
   ∃t,PSs (jU CX P w K mg base N qual scope f cdv A outer s H E) body t/\t {nx:=λ_ H'=>Q .non H',rt:=Q} (start N vs) H):
  FnOk P w K mg base CX (k+1) f (oy name qual params body scope dV kV doc pm an cdv ct) ps sp:=by
 refine⟨len,λA outer s H args X vs Q E j i B r g=>?_⟩;have C:=len _ _ _ _ g;have z:K.In s.heap:=i.mod.kin.keeps λb o e=>(i.bs b o e).1;have lim:s.heap.NoLimit:=i.mod.nolimit.keeps λb o e=>(i.bs b o e).1;have c: ∀y∈ps.zip X,scope.names.lookup y.1=pi .local\/(scope.names.lookup y.1=pi .cell/\((cellsFrom (s.z+1) scope.names []).lookup y.1).isSome=qz):=λ⟨n,v⟩ O=>by
  rcases S.par n (lf O).1 with q|q;exact .inl q;exact .inr ⟨q,fy _ _ _ (.inl q)⟩
 refine codeAny_call_function j.depth (z _ _ lk) rfl S.co S.gen rfl (ix z hcd) (B _ _ _ _ ?_);refine wpAny_newFunctionEnv_cells S.kind c λU L p x=>?_;subst L;refine⟨lim.keeps x.toInCall.keep,codeAny_func ?_⟩;obtain⟨t,G,M⟩:=hbody A outer s H vs Q E (j.deeper _) g;have I:Inv (jU CX P w K mg base N qual scope f cdv A outer s H E) [] (start N vs) H p:=gU S j.hd i C r x;refine wpAny_mono (G [] p (start N vs) H _ I M) (λT m d=>?_) λe m d=>d;have h: ∀{a:St} {H':Hp} {v:V} {u:Value},Inv (jU CX P w K mg base N qual scope f cdv A outer s H E) [] a H' m->bG v u->Q v H'->CE outer P w H s Q u m:=
  λ{a H' v u} J l q=>⟨v,H',J.os,J.bare,J.base,J.hok,l,q⟩
 cases T with
 |ret u=>
  obtain⟨v,a,H',J,l,q⟩:=d;exact h J l q
 |next=>
  obtain⟨a,H',J,q⟩:=d;exact h (v:=V.non) (u:=pw) J rfl q
 |brk=>
  obtain⟨_,_,_,q⟩:=d;exact ba q
 |cont=>
  obtain⟨_,_,_,q⟩:=d;exact ba q
section
variable{X:Cx}{x:Str}{p pos:Pos}{e:Expr}{es:L1 Expr}{t:TA}{id:String}{r:L1 V->Hp->VK->Prop}
def tCB(r:L1 V->Hp->VK->Prop)(t:TA):TE:=λσ H Q=>t σ H λvs H1=>r vs H1 Q
def vB(hc:lJ X (.builtin id) r)(hg:Gl X x)(hm:X.mg x=qw)(hv:bootBuiltins x=pi (.builtin id))(ha:PA X (e::es) t)(hn:x≠"__name__":=by decide)(hdb:(x==gV)=q7:=by decide)
  (he:starEach (e::es) X.env=(q7,eval e X.env)::starEach es X.env:=by rfl) (hpl:(backTo pos (starEach es X.env)).any (·.1)=q7:=by rfl):PE X (.Call (.Name x p) (e::es) [] pos) (tCB r t):=by
 intro b s c H Q I h;refine wpAny_Call_Name_kw (gR I hg hm hv ?_ hn hdb);exact dq (thn (ha pos b s c H _ I h) λl j a=>by obtain⟨i,g,d,f,q1⟩:=a;exact hc b j c g i l Q d f q1) he hpl
end
end L2
namespace HT
open PySem PyProof.Rows
section
open PySem.SeqAt
open PySem.AutoSeq1 (wpAny_loadPart')
open PySem.MeetsSeq PySem.MeetsSeq2 PySem.MeetsSeq3
end
noncomputable def sIx(n d:Nat):L7 Int->Nat
 |none=>d
 |some v=>if v<0 then(v+(n:Int)).toNat else min v.toNat n
end HT
namespace L2
open PySem PySem.Spec PyProof.Rows
abbrev TO:=St->Hp->(L7 Int->Hp->Prop)->Prop
section
variable{X:Cx}{lo hi:L7 Expr}
def SlR(X:Cx)(r:V->L7 Int->L7 Int->Hp->VK->Prop):Prop:=
 ∀(cc:cf) (s:Shared) (σ:St) (H:Hp) (x:V) (v vl vu:Value) (lo hi:L7 Int) (sl:Addr) (Q:VK),Inv X cc σ H s->bG x v->s.heap.IsSliceOf sl vl vu .none->IsPart vl lo->IsPart vu hi->r x lo hi H Q->
  ∃T id,typeLookup (.type T) "__getitem__"=pure (pi (.builtin id))/\s.TypeIs v T/\X.wp (getItem v (.ref sl)) (EP X cc σ Q) X.xe s
def FJ(xs:L1 V)(lo hi:L7 Int):L1 V:=(xs.drop (HT.sIx xs.length 0 lo)).take (HT.sIx xs.length xs.length hi-HT.sIx xs.length 0 lo)
def tJ xs lo hi:(FJ xs lo hi).length<=xs.length:=by unfold FJ;rw[j3,List.length_drop];lia
end
noncomputable def ixN(n:Nat)(i:Int):L7 Nat:=if 0<=i then(if i<n then pi i.toNat else qw)else if -(n:Int)<=i then pi (i+n).toNat else qw
def atI{α:Type}(xs:L1 α)(i:Int):L7 α:=(ixN xs.length i).bind λj=>xs[j]?
def yZ(h:ixN n i=pi j):seqIndex? i n=pi j/\j<n/\ -(n:Int)<=i/\i<n:=by unfold ixN at h;by_cases b:0<=i;rw[if_pos b]at h;by_cases a:i<n;rw[if_pos a]at h;have e:i.toNat=j:=ku h;exact⟨by rw[seqIndex_of b a,e],by lia,by lia,a⟩;rw[if_neg a]at h;cases h;rw[if_neg b]at h;by_cases a: -(n:Int)<=i;rw[if_pos a]at h;have e:(i+n).toNat=j:=ku h;exact⟨by rw[seqIndex_neg (by lia) a,e],by lia,a,by lia⟩;rw[if_neg a]at h;cases h
def tK{xs}{v:α}(h:atI xs i=pi v): ∃j,seqIndex? i xs.length=pi j/\xs[j]? =pi v/\j<xs.length/\ -(xs.length:Int)<=i/\i<xs.length:=by unfold atI at h;rcases e:ixN xs.length i with _|j;rw[e]at h;cases h;rw[e]at h;obtain⟨a,d,c,b⟩:=yZ e;exact⟨j,a,h,d,c,b⟩
def y0(b:Expr):Prop:= ∀o i,subscripted b q7 o i=operate [o,i] (getItem o i)
def IxR(X:Cx)(r:R2):Prop:=
 ∀(value slice:Expr) (cc:cf) (s:Shared) (σ:St) (H:Hp) (x y:V) (v u:Value) (Q:VK),Inv X cc σ H s->bG x v->bG y u->r x y H Q->
  subscripted slice q7 v u=operate [v,u] (getItem v u)->X.wp (subscriptTail value slice v u) (EP X cc σ Q) X.xe s
def MtR(X:Cx)(id:String)(r:V->L1 V->Hp->VK->Prop):Prop:=
 ∀(cc:cf) (s:Shared) (σ:St) (H:Hp) (x:V) (xs:L1 V) (v:Value) (us:L1 Value) (Q:VK),Inv X cc σ H s->bG x v->cD xs us->r x xs H Q->
  X.wp (call (.builtin id) (v::us)) (EP X cc σ Q) X.xe s
section
variable{X:Cx}{a b o e:Expr}{es:L1 Expr}{to:TE}{t:TA}{name:Str}{apos cpos:Pos}{T id:String}{r:V->L1 V->Hp->VK->Prop}
def OU(K:oe):R2:=λx y H Q=>∃p xs i v,x= .ref p/\y= .int i/\SqL K H p xs/\atI xs i=pi v/\Q v H
def OV(K:oe):R2:=λx y H Q=>∃p xs i v,x= .ref p/\y= .int i/\SqT K H p xs/\atI xs i=pi v/\Q v H
def OW:R2:=λx y H Q=>∃z i c,x= .str z/\y= .int i/\z.length<=sizeLine/\atI z.cps.toList i=pi c/\Q (.str ⟨#[c]⟩) H
def FK:IxR X (OU X.K):=by
 intro e d B s A H x y v u Q I G N h o;obtain⟨p,Y,i,z,rfl,rfl,L,J,q⟩:=h;cases G;obtain⟨t,rfl⟩:=N;obtain⟨g,r,c,W⟩:=I.list L;obtain⟨j,b,M,T,S,C⟩:=tK J;obtain⟨w,m,f⟩:=r.get M;have E:=r.length;have U:=nF;have a:EP X B A Q w s:=⟨z,H,I,f,q⟩;by_cases n:0<=i;have l:i.toNat=j:=by
  rw[seqIndex_of n C]at b;exact ku b
 exact item_listR c.isList n (by lia) (by rw[l];simpa using m) a o;have l:(i+(g.toArray.size:Int)).toNat=j:=by
  rw[seqIndex_neg (by lia) S]at b;rw[ax, <-E];exact ku b
 exact subscriptTail_builtinR (x:=w) c.isList.typeIs slot_list_getitem.lookup
  (wpAny_getItem_list_neg (Q:=λr O=>r=w/\EP X B A Q r O) c.isList (by lia) (by rw[ax]<;>lia) (by lia) (by rw[l];simpa using m) ⟨rfl,a⟩) o
def JQ:IxR X (OV X.K):=by
 intro b a g s f H x y v u Q I o G h E;obtain⟨p,T,i,z,rfl,rfl,B,A,q⟩:=h;cases o;obtain⟨t,rfl⟩:=G;obtain⟨J,r,e,S⟩:=I.tuple B;obtain⟨j,l,C,M,U,N⟩:=tK A;obtain⟨w,n,c⟩:=r.get C;have m:=r.length;have O:=nF;have d:EP X g f Q w s:=⟨z,H,I,c,q⟩;exact subscriptTail_builtinR (x:=w) e.typeIs slot_tuple_getitem.lookup
  (getItem_tuple (j:=j) (Q:=λr L=>r=w/\EP X g f Q r L) e (by lia) (by lia) (by rw[ax, <-m];exact l) (by simpa using n) ⟨rfl,d⟩) E
def gW:IxR X OW:=by
 intro b a C s J H x y v u Q I n e h m;obtain⟨z,i,c,rfl,rfl,G,p,q⟩:=h;obtain⟨t,rfl⟩:=n;obtain⟨A,rfl⟩:=e;obtain⟨j,d,r,B,w,f⟩:=tK p;have g:z.cps.toList.length=z.length:=by simp[Str.length]
 rw[g]at d w f;have E:=nF;exact tail_any (typeIs_str s z t) slot_str_getitem.lookup (getItem_str (c:=c) (by
  have o:decide (i< -(2^63:Int))=q7:=decide_eq_false (by lia);have l:decide (i≥2^63)=q7:=decide_eq_false (by lia);rw[o,l,Bool.or_false]) (by rw[d];simpa using r) ⟨.str ⟨#[c]⟩,H,I.tok _,⟨_,rfl⟩,q⟩) m
def rIx(K:oe):R2:=λx y H Q=>OU K x y H Q\/OV K x y H Q\/OW x y H Q
def xM(its:L1 Value)n j u:qb (·.setIfInBounds j u) {cls:=.type "list",data:=.seq its.toArray n}={cls:=.type "list",data:=.seq (its.set j u).toArray n}:=by simp[qb]
theorem Inv.lst{σ:St}(I:Inv X cc σ H s)(h:H p=pi (.lst xs)):
  ∃(its:L1 Value) (n:Nat),cD xs its/\s.heap.get? p=pi {cls:=.type "list",data:=.seq its.toArray n}/\xs.length<=sizeLine:=by
 obtain⟨z,its,n,r,e⟩:=I.hok p _ h;exact⟨its,n,r,e,z⟩
def Inv.lstUpd{σ:St}{its its':L1 Value}(I:Inv X cc σ H s)(h:H p=pi (.lst xs))(ho:s.heap.get? p=pi {cls:=.type "list",data:=.seq its.toArray n})(hf:f {cls:=.type "list",data:=.seq its.toArray n}={cls:=.type "list",data:=.seq its'.toArray n'})(r:cD ys its')(hz:ys.length<=sizeLine)t:
  Inv X cc σ (upd H p (.lst ys)) {s with heap:=s.heap.update p f,toks:=t}:=by
 have e:(s.heap.update p f).get? p=pi {cls:=.type "list",data:=.seq its'.toArray n'}:=by
  rw[gm f ho (by rw[hf]<;>rfl),hf]
 refine I.write (x:=p) (e:=p) (by rw[h];trivial) (.inl rfl) (λb u a q=>(fz _ _ (qu a)).trans q) ⟨_,e⟩ ?_;exact⟨hz,its',n',r,e⟩
def JR:V->V->V->Hp->(Hp->Prop)->Prop:=λo i v H Q=>∃p xs k j,o= .ref p/\i= .int k/\H p=pi (.lst xs)/\ixN xs.length k=pi j/\Q (upd H p (.lst (xs.set j v)))
def Ci:Nm X JR:=by
 intro y s x H o i v K iv u Q I E z A h;obtain⟨p,C,k,j,rfl,rfl,l,B,q⟩:=h;cases E;obtain⟨t,rfl⟩:=z;obtain⟨a,n,r,d,w⟩:=I.lst l;obtain⟨b,G,e,m⟩:=yZ B;have c:=r.length;have J:=nF;have f:Inv X y x (upd H p (.lst (C.set j v))) {s with heap:=s.heap.update p (qb (·.setIfInBounds j u))}:=
  I.lstUpd l d (xM a n j u) (r.set A j) (by rw[lg];exact w) s.toks
 by_cases g:0<=k;have hk:k.toNat=j:=by
  rw[seqIndex_of g m]at b;exact ku b
 exact PySem.W.ki_setAt d g (by lia) (by rw[ax, <-c];exact m) (by rw[hk];exact⟨_,f,q⟩);have hk:(k+(a.toArray.size:Int)).toNat=j:=by
  rw[seqIndex_neg (by lia) e]at b;rw[ax, <-c];exact ku b
 exact PySem.W.ki_setBack d (by lia) (by rw[ax, <-c];exact e) (by lia) (by rw[hk];exact⟨_,f,q⟩)
def qI lo hi n:(sliceBounds lo hi qw n).1=((HT.sIx n 0 lo:Nat):Int)/\(sliceBounds lo hi qw n).2.1=((HT.sIx n n hi:Nat):Int)/\(sliceBounds lo hi qw n).2.2=1:=by refine⟨?_,?_,rfl⟩;rcases lo with _|i;simp[sliceBounds,HT.sIx];simp only[sliceBounds,HT.sIx,Option.getD_none,show(1:Int) > 0 by decide,if_true];by_cases h:i<0;simp only[h,if_true]<;>lia;simp only[h,if_false]<;>lia;rcases hi with _|i;simp[sliceBounds,HT.sIx];simp only[sliceBounds,HT.sIx,Option.getD_none,show(1:Int) > 0 by decide,if_true];by_cases h:i<0;simp only[h,if_true]<;>lia;simp only[h,if_false]<;>lia
def oK(its:L1 Value)lo hi:slicePick its.toArray lo hi qw=((its.drop (HT.sIx its.length 0 lo)).take (HT.sIx its.length its.length hi-HT.sIx its.length 0 lo)).toArray:=by obtain⟨a,c,b⟩:=qI lo hi its.toArray.size;unfold slicePick;rw[a,c,b];simp only[sliceRange_one,pick_run,ax]<;>rfl
def PF(K:oe):V->L7 Int->L7 Int->Hp->VK->Prop:=λx lo hi H Q=>∃a xs,x= .ref a/\SqL K H a xs/\∀p,H p=qw->Q (.ref p) (upd H p (.lst (FJ xs lo hi)))
def FN:SlR X (PF X.K):=by intro z s B H x v u y e f A Q I p l j n h;obtain⟨a,c,rfl,m,q⟩:=h;cases p;obtain⟨i,r,g,t⟩:=I.list m;have d:=r.length;refine⟨"list",_,slot_list_getitem.lookup,g.isList.typeIs,?_⟩;refine wpAny_getItem_list_slice g.isList l j n .none (by simp) ?_ (by rw[ax]<;>lia);rw[oK, <-d];refine⟨.ref s.z,_,I.laid (t':=s.toks) (o:=.lst (FJ c e f)) (λb w q=>ae _ q) (aj _) ?_,rfl,q _ (I.hok.fresh (aj _))⟩;exact⟨om (tJ c e f) t,_,0,(r.drop (HT.sIx c.length 0 e)).take (HT.sIx c.length c.length f-HT.sIx c.length 0 e),af _ rfl⟩
def qJ:lJ X (.builtin "len") (λxs H Q=>∃p ys,xs=[.ref p]/\(SqL X.K H p ys\/SqT X.K H p ys)/\Q (.int ys.length) H):=by intro i s l H xs m Q I r h;obtain⟨p,ys,rfl,b,q⟩:=h;obtain⟨u,rfl,f⟩:=lK r;cases f;have j:=nF;rcases b with b|b;obtain⟨c,d,e,g⟩:=I.list b;have a:=d.length;exact Calls.call_len_list e.isList (by simp only[ax]<;>lia) ⟨.int ys.length,H,I.tok _,⟨s.toks+1,by rw[ax,a]⟩,q⟩;obtain⟨c,d,e,g⟩:=I.tuple b;have a:=d.length;exact len_tuple e (by simp only[ax]<;>lia) ⟨.int ys.length,H,I.tok _,⟨s.toks+1,by rw[ax,a]⟩,q⟩
def qK:lJ X (.builtin "len") (λxs H Q=>∃z,xs=[.str z]/\z.length<=sizeLine/\Q (.int z.length) H):=by intro a s d H xs e Q I r h;obtain⟨z,rfl,c,q⟩:=h;obtain⟨u,rfl,t,rfl⟩:=lK r;have b:=nF;exact len_str (by lia) ⟨.int z.length,H,I.tok _,⟨_,rfl⟩,q⟩
def qM:lJ X (.type "list") (λxs H Q=>∃p ys,xs=[.ref p]/\(SqL X.K H p ys\/SqT X.K H p ys)/\∀l,H l=qw->Q (.ref l) (upd H l (.lst ys))):=by
 intro A s C H xs E Q I r h;obtain⟨p,ys,rfl,m,q⟩:=h;obtain⟨u,rfl,B⟩:=lK r;cases B;have g: ∀(a:L1 Value),cD ys a->ys.length<=sizeLine->∀(c:Heap) (f:Nat),(∀b o',s.heap.get? b=pi o'->c.get? b=pi o')->
   c.get? s.z=pi {cls:=.type "list",dict:=qw,data:=.seq a.toArray f,slots:= #[]}->EP X A C Q (.ref s.z) {s with heap:=c}:=λa d t c f j e=>
  ⟨.ref s.z,_,I.laid (t':=s.toks) j (aj _) (show ObjOk X.prog X.w _ c _ (.lst ys) from⟨t,a,f,d,e⟩),rfl,q _ (I.hok.fresh (aj _))⟩
 rcases m with m|m;obtain⟨a,d,v,t⟩:=I.list m;have i:=d.length;obtain⟨o,y,x,n,z⟩:=v.isList;exact call_list_seq p (.inl rfl) y x z (λc f j e=>g a d t c f j e) (by simp only[ax]<;>lia);obtain⟨a,d,v,t⟩:=I.tuple m;have i:=d.length;obtain⟨o,y,x,n,z⟩:=v;exact call_list_seq p (.inr rfl) y x z (λc f j e=>g a d t c f j e) (by simp only[ax]<;>lia)
def jA:lJ X (.type "tuple") (λxs H Q=>∃p ys,xs=[.ref p]/\((SqL X.K H p ys/\∀l,H l=qw->Q (.ref l) (upd H l (.tup ys)))\/(SqT X.K H p ys/\Q (.ref p) H))):=by
 intro i s t H xs z Q I r h;obtain⟨p,ys,rfl,h⟩:=h;obtain⟨u,rfl,v⟩:=lK r;cases v;rcases h with ⟨g,q⟩|⟨g,q⟩;obtain⟨a,d,f,n⟩:=I.list g;have j:=d.length;refine call_tuple_list f.isList (λc y=>?_) (by simp only[ax]<;>lia);have m:Inv X i t H {s with heap:=c}:=I.kept (t':=s.toks) y;have x:Inv X i t (upd H c.objs.size (.tup ys)) {s with heap:=c.push {cls:=.type "tuple",data:=.seq a.toArray} }:=
  m.laid (t':=s.toks) (λb o e=>ae _ e) (aj _) (show ObjOk X.prog X.w _ _ _ (.tup ys) from⟨n,a,d,IsTup.new _ _,⟨_,af _ rfl,rfl⟩⟩)
 exact⟨.ref c.objs.size,_,x,rfl,q _ (m.hok.fresh (aj _))⟩;obtain⟨a,d,f,n⟩:=I.tuple g;exact call_tuple_same f ⟨.ref p,H,I,rfl,q⟩
def tyV(K:oe)(T:String)(x:V)(H:Hp):Prop:=match x with
 |.str _=>T="str"
 |.int _=>T="int"
 |.ref p=>(T="list"/\∃xs,SqL K H p xs)\/(T="tuple"/\∃o,K.lookup p=pi o/\o.cls= .type "tuple"/\o.dict=qw)\/
   (T="dict"/\((∃kvs,H p=pi (.dK kvs))\/∃kvs,H p=pi (.dT kvs)))\/(T="set"/\∃S n,H p=pi (.set S n))
 |_=>False
def Ef{cc}{σ:St}{H}{s}{T}{x}{v}(I:Inv X cc σ H s)(r:bG x v)(ty:tyV X.K T x H):
  s.TypeIs v T/\∀a,v= .ref a->∃ob,s.heap.get? a=pi ob/\ob.dict=qw:=by
 cases x with
 |str z=>
  obtain⟨t,rfl⟩:=r;cases (show T="str" from ty);exact⟨typeIs_str s z t,λ_ e=>nomatch e⟩
 |int i=>
  obtain⟨t,rfl⟩:=r;cases (show T="int" from ty);exact⟨typeIs_int s i t,λ_ e=>nomatch e⟩
 |ref p=>
  cases r;rcases ty with ⟨rfl,l,j⟩|⟨rfl,o,hk,h,b⟩|⟨rfl,hk⟩|⟨rfl,S,n,hk⟩;obtain⟨g,_,f,_⟩:=I.list j;refine⟨f.isList.typeIs,λa e=>?_⟩;cases e;obtain⟨o,n,e,c,b,_⟩:=f;exact⟨o,e,b⟩;refine⟨⟨o,I.kIn p o hk,h⟩,λa e=>?_⟩;cases e;exact⟨o,I.kIn _ o hk,b⟩;have z: ∃o,s.heap.get? p=pi o/\o.ExactDict:=by
   rcases hk with ⟨kvs,hk⟩|⟨kvs,hk⟩;obtain⟨_,_,_,_,o,_,_,e,ex,_⟩:=I.hok p _ hk;exact⟨o,e,ex⟩;obtain⟨_,_,_,_,o,_,_,e,ex,_⟩:=I.hok p _ hk;exact⟨o,e,ex⟩
  obtain⟨o,e,ex⟩:=z;refine⟨⟨o,e,ex.1⟩,λa d=>?_⟩;cases d;exact⟨o,e,ex.2.1⟩;obtain⟨o,_,_,_,e,ex,_⟩:=I.hok p _ hk;refine⟨⟨o,e,ex.1⟩,λa d=>?_⟩;cases d;exact⟨o,e,ex.2.1⟩
 |_=>exact ba ty
def OX(K:oe)(T:String)(r:V->L1 V->Hp->VK->Prop)(to:TE):TE:=λσ H Q=>to σ H λx H1=>tyV K T x H1/\r x [] H1 Q
def tBM(K:oe)(T:String)(r:V->L1 V->Hp->VK->Prop)(to:TE)(t:TA):TE:=λσ H Q=>to σ H λx H1=>tyV K T x H1/\t σ H1 λxs H2=>r x xs H2 Q
def JS(pa:PlainAttrs T)(slot:Slot T name id)(hty:typeOf (.builtin id)=pure (.type "method_descriptor"))(hm:MtR X id r)(ho:PE X o to)
  (hbase:attributeBase o name X.env (eval o X.env)=eval o X.env:=by rfl) (hline:(apos.endLine==cpos.line)=qz:=by rfl):PE X (.Call (.Attribute o name apos) [] [] cpos) (OX X.K T r to):=by
 intro d s e H Q I h;refine wpAny_Call_method0_late hbase hline (thn (ho d s e H _ I h) λv j a=>?_);obtain⟨x,g,b,c,ty,q1⟩:=a;obtain⟨f,i⟩:=Ef b c ty;exact⟨T,id,pa,slot,hty,f,i,f6 rfl (PySem.evalArgs_none (hm d j e g x [] v [] Q b c .nil q1))⟩
def Ny(pa:PlainAttrs T)(slot:Slot T name id)(hty:typeOf (.builtin id)=pure (.type "method_descriptor"))(hm:MtR X id r)(ho:PE X o to)(ha:PA X (e::es) t)
  (hbase:attributeBase o name X.env (eval o X.env)=eval o X.env:=by rfl)
  (hfew:((backTo cpos (starEach (e::es) X.env)).all (λx=> !x.1)&&(backToKw cpos (keywordEach [] X.env)).all (λx=>x.1.isSome)
   &&decide ((e::es).length+([]:L1 Keyword).length+(if([]:L1 Keyword).isEmpty then 0 else 1)<30))=qz:=by rfl)
  (hline:(apos.endLine==cpos.line)=qz:=by rfl) (hs:starEach (e::es) X.env=(q7,eval e X.env)::starEach es X.env:=by rfl) (hplain:(backTo cpos (starEach es X.env)).any (·.1)=q7:=by rfl):
  PE X (.Call (.Attribute o name apos) (e::es) [] cpos) (tBM X.K T r to t):=by
 intro b s d H Q I h;refine wpAny_Call_method_late hbase hfew hline rfl (thn (ho b s d H _ I h) λv z c=>?_)
 obtain⟨x,u,g,i,ty,q1⟩:=c;obtain⟨j,w⟩:=Ef g i ty;refine⟨T,id,pa,slot,hty,j,w,?_⟩;have f:=ha cpos b z d u _ g q1;rw[hs]at f ⊢;refine f6 (by show(q7||(backTo cpos (starEach es X.env)).any (·.1))=q7;rw[hplain]<;>rfl) (h8 ?_)
 exact thn f λA p a=>by obtain⟨y,n,q,l,m⟩:=a;exact hm b p d n x y v A Q q i l m
end
def MtM(X:Cx)(id:String)(r:V->L1 V->Hp->VK->Prop):Prop:=
 ∀(cc:cf) (s:Shared) (σ:St) (H:Hp) (x:V) (xs:L1 V) (v:Value) (us:L1 Value) (Q:VK),Inv X cc σ H s->bG x v->cD xs us->r x xs H Q->
  X.wp (call (.builtin id) (v::us)) (EP X cc σ Q) X.xe s
def cD.one: ∀{x} {us},cD [x] us->∃u,us=[u]/\bG x u:=by
 intro x us h;cases h with
 |cons r t=>
  cases t;exact⟨_,rfl,r⟩
def cD.two: ∀{x y} {us},cD [x,y] us->∃u v,us=[u,v]/\bG x u/\bG y v:=by
 intro x y us h;cases h with
 |cons r t=>
  cases t with
  |cons q t=>
   cases t;exact⟨_,_,rfl,r,q⟩
def cD.zero: ∀{us},cD [] us->us=[]
 |_,.nil=>rfl
theorem cD.dropLast(h:cD xs us):cD xs.dropLast us.dropLast:=by
 induction h with
 |nil=>exact .nil
 |cons r t a=>
  rcases t with _|⟨q,b⟩;exact .nil;exact .cons r a
def xN{α:Type}(l:L1 α):l.eraseIdx (l.length-1)=l.dropLast:=by
 induction l with
 |nil=>rfl
 |cons a r c=>
  rcases r with _|⟨b,r⟩;rfl;have e:(a::b::r).length-1=((b::r).length-1)+1:=by
   have d:(a::b::r).length=r.length+2:=rfl;have f:(b::r).length=r.length+1:=rfl;lia
  rw[e,List.eraseIdx_cons_succ,c];all_goals rfl
section
variable{σ:St}
def Inv.lset{its its':L1 Value}(I:Inv X cc σ H s)(hH:H l=pi (.lst xs))(e:s.heap.get? l=pi {cls:=.type "list",data:=.seq its.toArray n})(hf:f its.toArray=its'.toArray)(hv:cD ys its')(hz:ys.length<=sizeLine):
  Inv X cc σ (upd H l (.lst ys)) {s with heap:=s.heap.update l (qb f),toks:=t'}:=by
 have q:=PySem.IsL.update e f;rw[hf]at q;refine I.write (x:=l) (e:=l) (by rw[hH];exact trivial) (.inl rfl) (λc u a b=>(fz s.heap (qb f) (qu a)).trans b) ⟨_,q⟩ ?_;exact⟨hz,its',_,hv,q⟩
def Inv.lnew(I:Inv X cc σ H s)(hv:cD ys its)(hz:ys.length<=sizeLine):
  Inv X cc σ (upd H s.z (.lst ys)) {s with heap:=s.heap.push {cls:=.type "list",data:=.seq its.toArray},toks:=t'}:=
 I.laid (λ_ _ q=>ae _ q) (aj _) ⟨hz,its,0,hv,af _ rfl⟩
theorem Inv.fresh(I:Inv X cc σ H s):H s.z=qw:=I.hok.fresh (aj _)
def Inv.lstM(I:Inv X cc σ H s)(hH:H l=pi (.lst xs)):xs.length<=sizeLine/\∃its n,cD xs its/\xs.length=its.length/\s.heap.get? l=pi {cls:=.type "list",data:=.seq its.toArray n}:=by obtain⟨z,its,n,r,e⟩:=I.hok l _ hH;exact⟨z,its,n,r,r.length,e⟩
end
def FO:V->L1 V->Hp->VK->Prop:=λx vs H Q=>∃l xs y,x= .ref l/\vs=[y]/\H l=pi (.lst xs)/\xs.length<sizeLine/\Q .non (upd H l (.lst (xs++[y])))
def qN:MtM X "list.append" FO:=by intro i s p H x m v t Q I d c h;obtain⟨l,j,y,rfl,rfl,b,o,q⟩:=h;cases d;obtain⟨u,rfl,f⟩:=c.one;obtain⟨z,a,n,r,g,e⟩:=I.lstM b;refine call_meets F.slot_list_append ⟨_,e,rfl⟩ F.entry_list_append (F.args_list_append_2 _ _) (PySem.list_append l a.toArray n u (by rw[ax];lia)) ⟨e,?_⟩;refine⟨.non,_,I.lset (its':=a++[u]) b e (by simp) (r.append (.cons f .nil)) ?_,rfl,q⟩;rw[bo,List.length_singleton];lia
def PH:V->L1 V->Hp->VK->Prop:=λx vs H Q=>∃l xs y,x= .ref l/\vs=[]/\H l=pi (.lst xs)/\xs[xs.length-1]? =pi y/\Q y (upd H l (.lst xs.dropLast))
def JT:MtM X "list.pop" PH:=by
 intro p s A H x w v B Q I j i h;obtain⟨l,t,y,rfl,rfl,d,o,q⟩:=h;cases j;have b:=i.zero;subst b;obtain⟨z,a,n,r,g,e⟩:=I.lstM d;obtain⟨u,f,m⟩:=r.get o;have c:a.toArray[a.toArray.size-1]? =pi u:=by
  show a.toArray[a.length-1]? =pi u;rw[<-Array.getElem?_toList, <-g];exact f
 refine call_meets F.slot_list_pop ⟨_,e,rfl⟩ F.entry_list_pop (F.args_list_pop_1 _) (MeetsSeq.list_pop_last l a.toArray n u c (by rw[ax];lia)) ⟨e,?_⟩;refine⟨y,_,I.lset (its':=a.dropLast) d e ?_ r.dropLast ?_,m,q⟩;show a.toArray.eraseIdxIfInBounds (a.toArray.size-1)=a.dropLast.toArray;rw[ax,List.eraseIdxIfInBounds_toArray,xN];rw[List.length_dropLast];lia
end L2
namespace Att
open PySem PySem.W PySem.Calls PyProof.Rows
def lO: ∀ns vs,WellAll P h vs (ns.map WData.int)->IntsAre vs ns:=by
 intro ns;induction ns with
 |nil=>
  intro vs w;rw[oz]at w;cases w;exact .nil
 |cons n ns c=>
  intro vs w;rw[ni]at w;cases w with
  |cons a b=>
   cases a;exact .cons _ _ (c _ b)
def y6{l:OpenLaw}(hn:l.most=pi n)(hpre:l.row.toRowW.claim.pre args=qz)(hwl:WellAll P h vals args):
  ∃a vs ns,vals=[qh a]/\args=[WData.list (ns.map WData.int)]/\h.get? a=pi {cls:=.type "list",data:=.seq vs.toArray}/\IntsAre vs ns/\ns.length<=n:=by
 have hsh:WShape.hasAll [] args [.list .int]=qz:=(pre_splitW hpre).1;have g:l.pre.holds [] {args:=args}=qz:=(pre_splitW hpre).2;obtain⟨d,r,rfl,i,p⟩:=hasAllW_cons hsh;obtain rfl:=hasAllW_nil p;obtain⟨u,rfl,j⟩:=hasW_list i;obtain⟨ns,rfl⟩:=items_int j;have b:ns.length<=n:=by
  unfold OpenLaw.pre at g;have f:(WTm.not (.lt (.lit (.int (n:Int))) (.len (.arg 0)))).holds [] {args:=[.list (ns.map .int)]}=qz:=by
   have f:=(holds_andW g).1;rw[hn]at f;exact f
  have e:=condW_of f (w_not (w_lt w_lit (w_len_list (w_arg rfl))));rw[aq]at e;refine Nat.le_of_not_lt λq=>?_;have m:(n:Int)<((ns.length:Nat):Int):=by lia
  first
   |(rw[decide_eq_true m]at e;exact absurd e rfl)
   |(simp at e;lia)
 cases hwl with
 |cons t s=>
  cases s;cases t with
  |list o c=>exact⟨_,_,ns,rfl,rfl,o,lO ns _ c,b⟩
def y8(l:OpenLaw)args:l.row.toRowW.claim.post args (.bool qz) args=qz:=
 postW_of (r:=l.row.toRowW) (X:=(qz==qz))
  (show WShape.has [] (.bool qz) .bool=qz by first|rfl|decide|simp[WShape.has,WShape.arms,WShape.armsAll])
  (show(WTm.eq .res (.lit (.bool qz))).value [] {args:=args,res:=pi (.bool qz),after:=args}=pi (.bool (qz==qz)) from w_eq_bool (w_res rfl) w_lit) rfl
def attach_call{l:OpenLaw}(hn:l.most=pi n)(hdf:d.params.defaults=[])(call: ∀w s₀ s₁ mg mb fa o pm cd doc a vs ns,
   Ground q loose [] XP w s₀ mg mb s₁.heap->YP w s₁.heap->
   s₁.heap.get? fa=pi o->o.data= .func (docDef d.name d.params d.body d.scope pm cd doc)->s₁.heap.CodeRec cd d.name->mg d.name=pi (.ref fa)->
   s₁.heap.get? a=pi {cls:=.type "list",data:=.seq vs.toArray}->IntsAre vs ns->ns.length<=n->s₁.gens= #[]->
   codeAny (model l.prog w) callerA (.call (.ref fa) ⟨[.ref a],[]⟩) (λr s'=>r= .ok (.ret (.bool qz))/\OldK s₁.heap s'.heap/\s'.os=s₁.os/\AllBare s'.gens) s₁):
  WalkO q loose XP YP l.row.toRowW d [] (λf vs=>PySem.call f vs):=by
 intro w s₀ s₁ mg mb G Y fa o pm cd doc u kV t x i hD j A args m H e p B h v;obtain rfl:u= .none:=Dflts.none hD hdf;obtain rfl:kV= .none:=Dflts.noKw hD;obtain⟨a,vs,ns,rfl,rfl,g,b,c⟩:=y6 hn e h;refine enter_call (codeAny_mono (call w s₀ s₁ mg mb fa o pm cd doc a vs ns G Y t (fd_plain x) i j g b c A) λr s' z=>?_)
 obtain⟨rfl,y,s,C⟩:=z;exact⟨.inl ⟨.bool qz,.bool qz,[],rfl,λ_=>rfl,.bool qz,y8 l _,λ_=>⟨List.Pairwise.nil,λ_ E=>(nomatch E)⟩⟩,y,s,C⟩
noncomputable def OY(h:Heap)(L d:Addr):cf:=(pq h.objs.size).filterMap λa=>if a=L\/a=d then qw else(h.get? a).map λo=>(a,o)
end Att
namespace L2
open PySem PySem.Spec PyProof.Rows
theorem qO: ∀{vs} {ns},IntsAre vs ns->cD (ns.map V.int) vs
 |_,_,.nil=>.nil
 |_,_,.cons n t h=>.cons ⟨t,rfl⟩ (qO h)
def Nz(H:Hp):Prop:= ∀b,H b=qw\/∃o xs,H b=pi (.frz o (.lst xs))
noncomputable abbrev KOf{K:oe}{h:Heap}(_:K.In h):oe:=K
abbrev E0:XK:=λ_ _ _=>False
structure Fun(K:oe)(x qual:Str)(st:Stmt)(f:Addr)(fd:FuncData):Prop where
 ex: ∃(oc:Value) (od:Option Addr) (kV doc pm:Value) (an:Option Addr) (cdv ct:Value) (osl:Array (Option Value)),
  fd=oy x qual (defArgs st) (defBody st) (defScope st) .none kV doc pm an cdv ct/\K.lookup f=pi ⟨oc,od,.func fd,osl⟩/\mi K cdv qual=qz
 kp:mh K (.ref f)=qz
section
variable{K:oe}
def Fun.binds{st}(F:Fun K x qual st f fd)(h: ∀kV doc pm an cdv ct us,us.length=ps.length->bindArgs (oy x qual (defArgs st) (defBody st) (defScope st) .none kV doc pm an cdv ct) ⟨us,[]⟩=pure (ps.zip us)):eA K fd ps []:=by obtain⟨c,d,kV,doc,pm,an,cdv,ct,b,rfl,lk,a⟩:=F.ex;exact .all (h kV doc pm an cdv ct)
def kB{st}{kV doc pm cdv ct}(l:K.lookup f=pi ⟨oc,od,.func (oy x qual (defArgs st) (defBody st) (defScope st) .none kV doc pm an cdv ct),osl⟩)(c:mi K cdv qual=qz)(k:mh K (.ref f)=qz):Fun K x qual st f (oy x qual (defArgs st) (defBody st) (defScope st) .none kV doc pm an cdv ct):=⟨⟨oc,od,kV,doc,pm,an,cdv,ct,osl,rfl,l,c⟩,k⟩
end
def B3{A B:Prop}(h:B):if q7=qz then A else B:=by rw[if_neg bf];exact h
def y9{A B:Prop}(h:A):if qz=qz then A else B:=by rw[if_pos rfl];exact h
def Same(H H':Hp):Prop:= ∀b o,H b=pi o->H' b=pi o
def Same.refl H:Same H H:=λ_ _ h=>h
def Same.trans(a:Same H H1)(b:Same H1 H2):Same H H2:=λc o h=>b c o (a c o h)
def Same.free(e:Same H H')(h:H' l=Option.none):H l=Option.none:=by rcases q:H l with _|o;rfl;rw[e l o q]at h;cases h
def Same.seq{K}(e:Same H H')(h:SqL K H a xs):SqL K H' a xs:=by rcases h with (h|⟨o,h⟩)|h;exact .inl (.inl (e _ _ h));exact .inl (.inr ⟨o,e _ _ h⟩);exact .inr h
end L2
namespace SK
open PySem PySem.Spec PyProof.Rows L2
open PySem.AutoSeq1 (wpAny_loadPart' idx_int)
open PySem.AutoSeq1 (wpAny_loadPart' idx_int)
set_option genInjectivity true in
inductive D where
 |non|bl (b:Bool)|int (i:Int)|str (x:Str)
 |tup (xs:List D)|lst (xs:List D)
 |exc (c:Nat)|fn (f:Nat)|dct (ks:List Str) (vs:List D)
 deriving Inhabited
noncomputable def b2i(b:Bool):Int:=if b then 1 else 0
mutual
def deq:D->D->Bool
 |.non,.non=>qz
 |.bl a,.bl b=>a==b
 |.bl a,.int j=>b2i a==j
 |.int i,.bl b=>i==b2i b
 |.int i,.int j=>i==j
 |.str x,.str y=>x==y
 |.tup xs,.tup ys=>yL xs ys
 |.lst xs,.lst ys=>yL xs ys
 |_,_=>q7
def yL:L1 D->L1 D->Bool
 |[],[]=>qz
 |x::xs,y::ys=>deq x y&&yL xs ys
 |_,_=>q7
end
mutual
noncomputable def plain:D->Bool
 |.non=>qz
 |.bl _=>qz
 |.int _=>qz
 |.str x=>x.cps.all (· <0x110000)
 |.tup xs=>cI xs
 |.lst xs=>cI xs
 |.exc _=>q7
 |.fn _=>q7
 |.dct _ _=>q7
noncomputable def cI:L1 D->Bool
 |[]=>qz
 |x::xs=>plain x&&cI xs
end
mutual
noncomputable def dep:D->Nat
 |.tup xs=>zA xs+1
 |.lst xs=>zA xs+1
 |_=>0
noncomputable def zA:L1 D->Nat
 |[]=>0
 |x::xs=>max (dep x) (zA xs)
end
def i8(x y:D):Bool:=plain x&&plain y&&decide (min (dep x) (dep y)<=60)
set_option genInjectivity true in
inductive R where
 |ok (d:D)|ow (xs:List D)|ex (c:Nat)|bad
noncomputable def R.bind(r:R)(k:D->R):R:=match r with
 |.ok d=>k d
 |.ow xs=>k (.lst xs)
 |.ex c=>.ex c
 |.bad=>.bad
structure Rk where
 held:List (Str×D)
 done:List D
 undone:List D
set_option genInjectivity true in
inductive RM where
 |pure (x:R)|chg (x:D) (r:Rk)
abbrev FM:=Rk->L1 D->RM
def RM.told:RM->R
 |.pure x=>x
 |.chg _ _=>.bad
inductive RR where
 |rk (r:Rk)|ex (c:Nat)|bad
abbrev FR:=L1 D->RR
inductive Slot where
 |no|sh (d:D)|ow (xs:List D)|dc (kvs:List (Str×D))|sd (kvs:List (Str×D))|rk (C:Nat) (r:Rk)
def Slot.isRk:Slot->Bool
 |.rk _ _=>qz
 |_=>q7
noncomputable def Slot.owns:Slot->Bool
 |.ow _=>qz
 |.dc _=>qz
 |.sd _=>qz
 |_=>q7
abbrev Rho:=L1 Slot
abbrev F:=Rho->R
inductive Out where
 |nx (ρ:Rho)|rt (r:R)|bk (ρ:Rho)|ct (ρ:Rho)|ex (c:Nat) (ρ:Rho)
abbrev FS:=Rho->Out
abbrev Fn:=L1 D->R
def LIM:Nat:=100000
noncomputable def sml(i:Int):Bool:=decide (-18446744073709551616<i)&&decide (i<18446744073709551616)
def fP(op:Operator)(i j:Int):R:=match op with
 |.Add=>.ok (.int (i+j))
 |.Sub=>.ok (.int (i-j))
 |.Mult=>if sml i||sml j then .ok (.int (i*j))else .bad
 |.FloorDiv=>if 0<j/\j<1073741824 then .ok (.int (i/j))else .bad
 |.Mod=>if 0<j then .ok (.int (i % j))else .bad
 |.LShift=>if 0<=j/\j<=1000/\sml i=qz then .ok (.int (i*2^j.toNat))else .bad
 |_=>.bad
def kR(op:Operator)(x y:D):R:=match x,y with
 |.int i,.int j=>(match op with
  |.BitAnd=>.ok (.int (Builtin.bitAnd i j))
  |.BitOr=>.ok (.int (Builtin.bitOr i j))
  |.BitXor=>.ok (.int (Builtin.bitXor i j))
  |op=>fP op i j)
 |.lst xs,.lst ys=>(match op with
  |.Add=>if xs.length+ys.length<=LIM then .ow (xs++ys)else .bad
  |_=>.bad)
 |.str x,.str y=>(match op with
  |.Add=>if x.length<=LIM/\y.length<=LIM then .ok (.str (x++y))else .bad
  |_=>.bad)
 |_,_=>.bad
noncomputable def items:D->L7 (L1 D)
 |.tup xs=>pi xs
 |.lst xs=>pi xs
 |_=>qw
noncomputable def tN(x:Str):L1 D:=x.cps.toList.map λc=>D.str ⟨#[c]⟩
def iK:D->L7 (L1 D)
 |.tup xs=>pi xs
 |.lst xs=>pi xs
 |.str x=>if x.cps.size<=1000 then pi (tN x)else qw
 |.dct ks _=>if ks.length<=1000 then pi (ks.map D.str)else qw
 |_=>qw
def qP:D->Bool
 |.non=>qz
 |_=>q7
noncomputable def Qg(b:Bool):D->Bool
 |.bl a=>a==b
 |_=>q7
def FP(x:D)(ys:L1 D):Bool:=ys.all λy=>i8 y x
noncomputable def inS(x y:D)(neg:Bool):R:=match x,y with
 |.str a,.dct ks _=>.ok (.bl (neg != ks.contains a))
 |_,_=>.bad
noncomputable def bI(kvs:L1 (Str×D))(x:Str):L7 D:=(kvs.find? λp=>decide (p.1=x)).map (·.2)
def Eg(a b:L1 (Str×D)):Bool:=a.length==b.length&&a.all λp=>match bI b p.1 with|some w=>deq p.2 w|none=>q7
def oM(neg:Bool)(x y:D):R:=match x,y with
 |.dct ks vs,.dct ls ws=>if(vs.all λd=>ws.all λe=>i8 d e)=qz then .ok (.bl (neg != Eg (ks.zip vs) (ls.zip ws)))else .bad
 |_,_=>.bad
def eS(op:CmpOp)(x y:D):R:=match op with
 |.Eq=>if i8 x y then .ok (.bl (deq x y))else oM q7 x y
 |.NotEq=>if i8 x y then .ok (.bl (!deq x y))else oM qz x y
 |.Lt=>(match x,y with|.int i,.int j=>.ok (.bl (decide (i<j)))|_,_=>.bad)
 |.LtE=>(match x,y with|.int i,.int j=>.ok (.bl (decide (i<=j)))|.str i,.str j=>.ok (.bl (!decide (j.cps.toList<i.cps.toList)))|_,_=>.bad)
 |.Gt=>(match x,y with|.int i,.int j=>.ok (.bl (decide (j<i)))|_,_=>.bad)
 |.GtE=>(match x,y with|.int i,.int j=>.ok (.bl (decide (j<=i)))|_,_=>.bad)
 |.Is=>(match y with
  |.non=>.ok (.bl (qP x))
  |_=>.bad)
 |.IsNot=>(match y with
  |.non=>.ok (.bl (!qP x))
  |_=>.bad)
 |.In=>inS x y q7
 |.NotIn=>inS x y qz
noncomputable def ixD(n:Nat)(i:Int):L7 Nat:=if 0<=i then(if i<n then pi i.toNat else qw)else if -(n:Int)<=i then pi (i+n).toNat else qw
def ixS(x y:D):R:=match x,y with
 |.str z,.int i=>if z.length<=LIM then(match(ixD z.cps.toList.length i).bind λj=>z.cps.toList[j]? with|some c=>.ok (.str ⟨#[c]⟩)|none=>.bad)else .bad
 |.dct ks vs,.str k=>(match bI (ks.zip vs) k with|some d=>.ok d|none=>.bad)
 |_,_=>.bad
def dIx(x y:D):R:=match items x,y with
 |some xs,.int i=>(match(ixD xs.length i).bind λj=>xs[j]? with|some d=>.ok d|none=>.bad)
 |some _,_=>.bad
 |none,_=>ixS x y
noncomputable def dI(n d:Nat):L7 Int->Nat
 |none=>d
 |some v=>if v<0 then(v+n).toNat else min v.toNat n
def FQ(xs:L1 D)(lo hi:L7 Int):L1 D:=(xs.drop (dI xs.length 0 lo)).take (dI xs.length xs.length hi-dI xs.length 0 lo)
def qQ(xs:L1 Nat)(lo hi:L7 Int):L1 Nat:=(xs.drop (dI xs.length 0 lo)).take (dI xs.length xs.length hi-dI xs.length 0 lo)
def Cj(x:D)(lo hi:L7 Int):R:=match x with
 |.lst xs=>.ow (FQ xs lo hi)
 |.str z=>if z.length<=LIM then .ok (.str ⟨(qQ z.cps.toList lo hi).toArray⟩)else .bad
 |_=>.bad
def Ck:D->(Int->R)->R
 |.int i,k=>k i
 |_,_=>.bad
noncomputable def aB(i:Nat):F:=λρ=>match ρ[i]? with|some (.sh d)=>.ok d|_=>.bad
noncomputable def aD(i:Nat):F:=λρ=>match ρ[i]? with|some (.sh d)=>.ok d|some (.ow xs)=>.ok (.lst xs)|_=>.bad
def rK(d:D):F:=λ_=>.ok d
def aT(op:Operator)(a b:F):F:=λρ=>(a ρ).bind λx=>(b ρ).bind λy=>kR op x y
def MP(a:F):F:=λρ=>(a ρ).bind λx=>match x with|.int i=>.ok (.int (-i))|_=>.bad
def m7(a:F):F:=λρ=>(a ρ).bind λx=>match x with|.bl b=>.ok (.bl (!b))|_=>.bad
def kC(a b:F):F:=λρ=>(a ρ).bind λx=>match x with|.bl qz=>b ρ|.bl q7=>.ok (.bl q7)|_=>.bad
def rOr(a b:F):F:=λρ=>(a ρ).bind λx=>match x with|.bl qz=>.ok (.bl qz)|.bl q7=>b ρ|_=>.bad
def bF(op:CmpOp)(a b:F):F:=λρ=>(a ρ).bind λx=>(b ρ).bind λy=>eS op x y
def kF(op op':CmpOp)(a b c:F):F:=λρ=>(a ρ).bind λx=>(b ρ).bind λy=>(eS op x y).bind λz=>match z with
 |.bl qz=>(c ρ).bind λw=>eS op' y w
 |.bl q7=>.ok (.bl q7)
 |_=>.bad
inductive RA where
 |ok (ds:List D)|ex (c:Nat)|bad
noncomputable def RA.cons(x:D):RA->RA
 |.ok ds=>.ok (x::ds)
 |.ex c=>.ex c
 |.bad=>.bad
noncomputable def RA.then(r:RA)(k:L1 D->R):R:=match r with
 |.ok ds=>k ds
 |.ex c=>.ex c
 |.bad=>.bad
def args:L1 F->Rho->RA
 |[],_=>.ok []
 |f::fs,ρ=>match f ρ with
  |.ok x=>(args fs ρ).cons x
  |.ow xs=>(args fs ρ).cons (.lst xs)
  |.ex c=>.ex c
  |.bad=>.bad
def lP(fs:L1 F)(ρ:Rho)(k:L1 D->R):R:=(args fs ρ).then k
def eQ(fs:L1 F):F:=λρ=>lP fs ρ λxs=>.ok (.tup xs)
def jV(fs:L1 F):F:=λρ=>lP fs ρ λxs=>.ow xs
def rIx(a b:F):F:=λρ=>(a ρ).bind λx=>(b ρ).bind λy=>dIx x y
def lQ(a:F)(lo hi:L7 F):F:=λρ=>(a ρ).bind λx=>match lo,hi with
 |none,qw=>Cj x qw qw
 |some l,qw=>(l ρ).bind λy=>Ck y λi=>Cj x (pi i) qw
 |none,pi h=>(h ρ).bind λz=>Ck z λj=>Cj x qw (pi j)
 |some l,pi h=>(l ρ).bind λy=>Ck y λi=>(h ρ).bind λz=>Ck z λj=>Cj x (pi i) (pi j)
def aE(f:Fn)(fs:L1 F):F:=λρ=>lP fs ρ f
def oN(r:Fn)(a b:F):F:=λρ=>(a ρ).bind λx=>match x with|.lst ds=>(b ρ).bind λy=>r [.lst ds,y]|_=>.bad
def rIs(p:D->L7 Bool)(a:F):F:=λρ=>(a ρ).bind λx=>match p x with|some b=>.ok (.bl b)|none=>.bad
noncomputable def bC(f:D->L7 (L7 D)):L1 D->L7 (L1 D)
 |[]=>pi []
 |d::r=>match f d with
  |none=>qw
  |some qw=>bC f r
  |some (pi x)=>(bC f r).map (x:: ·)
noncomputable def tgt(n:Nat)(d:D):L7 (L1 Slot):=match n with
 |0=>pi [.sh d]
 |n=>match d with
  |.tup ds=>if ds.length=n then pi (ds.map Slot.sh)else qw
  |_=>qw
noncomputable def kG(cs:L1 Nat)(ρ:Rho):L1 Slot:=cs.map λi=>(ρ[i]?).getD .no
def dQ(n:Nat)(cs:L1 Slot)(c:L7 F)(e:F)(d:D):L7 (L7 D):=match tgt n d with
 |none=>qw
 |some ts=>match c with
  |none=>(match e (ts++cs)with|.ok x=>pi (pi x)|.ow xs=>pi (pi (.lst xs))|_=>qw)
  |some c=>match c (ts++cs)with
   |.ok (.bl qz)=>(match e (ts++cs)with|.ok x=>pi (pi x)|.ow xs=>pi (pi (.lst xs))|_=>qw)
   |.ok (.bl q7)=>pi qw
   |_=>qw
def a8(n:Nat)(cs:L1 Nat)(it:F)(c:L7 F)(e:F):F:=λρ=>(it ρ).bind λx=>match iK x with
 |some ds=>(match bC (dQ n (kG cs ρ) c e) ds with|some xs=>.ow xs|none=>.bad)
 |none=>.bad
noncomputable def qR(n:Nat):L1 D:=(pq n).map λ(i:Nat)=>D.int (i:Int)
def cW(a:F):F:=λρ=>(a ρ).bind λx=>Ck x λi=>if -100000<=i/\i<=100000 then .ok (.lst (qR i.toNat))else .bad
def qU(a b:F):F:=λρ=>(a ρ).bind λx=>(b ρ).bind λy=>match x,y with
 |.tup xs,.tup ys=>.ok (.lst ((xs.zip ys).map λp=>D.tup [p.1,p.2]))
 |_,_=>.bad
noncomputable def OZ:D->R|.str z=>if z.length<=100000 then .ok (.int z.length)else .bad|_=>.bad
def tP:Fn|[x]=>(match items x with|some xs=>.ok (.int xs.length)|none=>OZ x)|_=>.bad
def B4:Fn|[.int i]=>.ok (.int i)|[.bl b]=>.ok (.int (b2i b))|[.str x]=>(match x.cps.toList with|[c]=>if 48<=c/\c<58 then .ok (.int ((c-48:Nat):Int))else .bad|_=>.bad)|_=>.bad
noncomputable def tQ:Fn|[.int i]=>if 0<=i/\i<10 then .ok (.str ⟨#[48+i.toNat]⟩)else .bad|_=>.bad
noncomputable def oO:L1 D->L7 (L1 Str)
 |[]=>pi []
 |.str x::r=>(oO r).map (x:: ·)
 |_::_=>qw
def Cl(sep:Str)(x:D):R:=match x with
 |.lst ds=>(match oO ds with|some ts=>if JoinOk sep ts then .ok (.str (qq sep ts))else .bad|none=>.bad)
 |_=>.bad
def oP(sep:Str)(f:F):F:=λρ=>(f ρ).bind (Cl sep)
def JU(x y:D):R:=match x,y with
 |.str a,.str b=>if b.length=1/\a.length<=LIM then .ow ((qj a b).map D.str)else .bad
 |_,_=>.bad
def qV(f g:F):F:=λρ=>(f ρ).bind λx=>match x with|.str a=>(g ρ).bind λy=>JU (.str a) y|_=>.bad
noncomputable def qW(a b:Str):L1 D:=match ez a b 0 a.length 1 with
 |i::_=>[.str (iy a 0 i),.str b,.str (iy a (i+b.length) a.length)]
 |[]=>[.str a,.str qi,.str qi]
def NA(x y:D):R:=match x,y with
 |.str a,.str b=>if(b.length==0)=q7/\a.length<=LIM then .ok (.tup (qW a b))else .bad
 |_,_=>.bad
def zB(f g:F):F:=λρ=>(f ρ).bind λx=>match x with|.str a=>(g ρ).bind λy=>NA (.str a) y|_=>.bad
noncomputable def NB(kvs:L1 (Str×D))(x:D):R:=match x with
 |.str a=>.ok ((kvs.lookup a).getD .non)
 |_=>.bad
def FT(kvs:L1 (Str×D))(f:F):F:=λρ=>(f ρ).bind (NB kvs)
def fW:Fn|[x]=>(match items x with|some xs=>.ok (.tup xs)|none=>.bad)|_=>.bad
def xO:Fn|[x]=>(match items x with|some xs=>.ow xs|none=>.bad)|_=>.bad
noncomputable def iR:L1 D->L7 (L1 Int)
 |[]=>pi []
 |.int i::r=>(iR r).map (i:: ·)
 |_::_=>qw
noncomputable def fX:L1 D->L7 (L1 Bool)
 |[]=>pi []
 |.bl b::r=>(fX r).map (b:: ·)
 |_::_=>qw
def B5:Fn|[x]=>(match(items x).bind iR with|some xs=>.ok (.int xs.sum)|none=>.bad)|_=>.bad
def Ja:Fn|[x]=>(match(items x).bind fX with|some xs=>.ok (.bl (xs.all id))|none=>.bad)|_=>.bad
def Qh:Fn|[x]=>(match(items x).bind fX with|some xs=>.ok (.bl (xs.any id))|none=>.bad)|_=>.bad
noncomputable def Qi:Fn|[.int i,.int j]=>.ok (.int (if j > i then j else i))|_=>.bad
noncomputable def Qj:Fn|[.int i,.int j]=>.ok (.int (if j<i then j else i))|_=>.bad
noncomputable def O0:Int->L1 Int->Int
 |m,[]=>m
 |m,i::r=>O0 (if m<i then i else m) r
noncomputable def O1:Int->L1 Int->Int
 |m,[]=>m
 |m,i::r=>O1 (if i<m then i else m) r
def PJ:Fn|[x]=>(match(items x).bind iR with|some (n::ns)=>.ok (.int (O0 n ns))|_=>.bad)|_=>.bad
noncomputable def Qk:Fn|[.int i]=>.ok (.int (if i<0 then -i else i))|_=>.bad
noncomputable def O2:L1 Int->L1 Int->Bool
 |[],[]=>q7
 |[],_::_=>qz
 |_::_,[]=>q7
 |a::r,b::t=>if a=b then O2 r t else decide (a<b)
mutual
noncomputable def same:D->D->Bool
 |.int _,.int _=>qz
 |.tup xs,.tup ys=>JV xs ys
 |_,_=>q7
noncomputable def JV:L1 D->L1 D->Bool
 |[],[]=>qz
 |x::xs,y::ys=>same x y&&JV xs ys
 |_,_=>q7
end
mutual
noncomputable def NC:D->L1 Int
 |.int i=>[i]
 |.tup xs=>JW xs
 |_=>[]
noncomputable def JW:L1 D->L1 Int
 |[]=>[]
 |x::xs=>NC x++JW xs
end
def ltD(x y:D):Bool:=O2 (NC x) (NC y)
def O3(d:D):L1 D->D
 |[]=>d
 |e::r=>O3 (if ltD e d then e else d) r
noncomputable def JX:D->Bool
 |.tup (_::_)=>qz
 |_=>q7
def JY:D->Bool
 |.tup _=>qz
 |_=>q7
def ND:L1 D->Bool
 |[]=>q7
 |d::r=>JY d&&(r.isEmpty||JX d)&&decide (dep d<=8)&&same d d&&r.all (same d)
def NE(ds:L1 D):R:=if ND ds then(match ds with|d::r=>.ok (O3 d r)|[]=>.bad)else .bad
def NF(ds:L1 D):R:=match iR ds with
 |some ns=>(match ns with|n::r=>.ok (.int (O1 n r))|[]=>.bad)
 |none=>NE ds
def PK:Fn|[x]=>(match items x with|some ds=>NF ds|none=>.bad)|_=>.bad
noncomputable def PM(ns:L1 Int):L1 Int:=((pq 17).filter λ(k:Nat)=>ns.contains (k:Int)).map λ(k:Nat)=>(k:Int)
noncomputable def PN(ns:L1 Int):Bool:=ns.all λn=>decide (0<=n/\n<17)
def PO(ds:L1 D):R:=match iR ds with|some ns=>if PN ns then .ok (.int ((PM ns).length:Nat))else .bad|none=>.bad
def dLS:Fn|[x]=>(match x with|.lst ds=>PO ds|_=>.bad)|_=>.bad
def qY:Fn|[.lst ys,x]=>if FP x ys then .ok (.int ((ys.countP λy=>deq y x):Nat))else .bad|_=>.bad
def qZ:Fn|[.lst ys,x]=>if FP x ys then(match ys.findIdx? λy=>deq y x with|some k=>.ok (.int (k:Nat))|none=>.bad)else .bad|_=>.bad
noncomputable def PP(x:D):R:=match x with|.lst xs=>.ow xs.reverse|.tup xs=>.ok (.tup xs.reverse)|_=>.bad
def Ql(a:F):F:=λρ=>(a ρ).bind PP
noncomputable def NG{α:Type}(xs:L1 α)(lo:Nat):L1 α:=(pq ((xs.length-lo+1)/2)).filterMap λk=>xs[lo+2*k]?
def NH(x y:D):R:=match x with|.tup xs=>(match y with|.int i=>if 0<=i then .ok (.tup (NG xs i.toNat))else .bad|_=>.bad)|_=>.bad
def PR(a b:F):F:=λρ=>(a ρ).bind λx=>(b ρ).bind λy=>NH x y
def Qm(a b:F):F:=λρ=>(a ρ).bind λx=>match x with|.tup ds=>(b ρ).bind λy=>qZ [.lst ds,y]|_=>.bad
def Qn(a b:F):F:=λρ=>(a ρ).bind λx=>match items x with|some ds=>(b ρ).bind λy=>qY [.lst ds,y]|none=>.bad
noncomputable def orP(p q:D->L7 Bool):D->L7 Bool:=λd=>match p d,q d with|some a,pi b=>pi (a||b)|_,_=>qw
def PU(kvs:L1 (D×D))(k:D):Bool:=kvs.any λp=>deq p.1 k
def putK(kvs:L1 (D×D))(k d:D):L1 (D×D):=if PU kvs k then kvs.map (λp=>if deq p.1 k then(p.1,d)else p)else kvs++[(k,d)]
noncomputable def inK(op:CmpOp)(b:Bool):R:=match op with
 |.In=>.ok (.bl b)
 |.NotIn=>.ok (.bl !b)
 |_=>.bad
def put(ρ:Rho)(i:Nat)(s:Slot):Rho:=ρ.set i s
noncomputable def frz1(i:Nat)(ρ:Rho):Rho:=match ρ[i]? with|some (.ow xs)=>ρ.set i (.sh (.lst xs))|some (.dc kvs)=>ρ.set i (.sh (.dct (kvs.map (·.1)) (kvs.map (·.2))))|_=>ρ
def frz(is:L1 Nat)(ρ:Rho):Rho:=is.foldl (λρ i=>frz1 i ρ) ρ
def MQ(is:L1 Nat)(s:FS):FS:=λρ=>s (frz is ρ)
noncomputable def fN(ρ:Rho)(r:R)(k:D->Out):Out:=match r with
 |.ok d=>k d
 |.ow xs=>k (.lst xs)
 |.ex c=>.ex c ρ
 |.bad=>.rt .bad
def gL(i:Nat)(e:F):FS:=λρ=>fN ρ (e ρ) λd=>.nx (ρ.set i (.sh d))
noncomputable def xP(i:Nat)(e:F):FS:=λρ=>match e ρ with
 |.ok d=>.nx (ρ.set i (.sh d))
 |.ow xs=>.nx (ρ.set i (.ow xs))
 |.ex c=>.ex c ρ
 |.bad=>.rt .bad
noncomputable def PV(j i:Nat):FS:=λρ=>match ρ[j]? with
 |some (.ow xs)=>.nx ((ρ.set j .no).set i (.ow xs))
 |_=>.rt .bad
noncomputable def setN:L1 Nat->L1 D->Rho->Rho
 |i::is,d::ds,ρ=>setN is ds (ρ.set i (.sh d))
 |_,_,ρ=>ρ
def eU(is:L1 Nat)(e:F):FS:=λρ=>fN ρ (e ρ) λd=>match d with
 |.tup ds=>if ds.length=is.length then .nx (setN is ds ρ)else .rt .bad
 |.lst ds=>if ds.length=is.length then .nx (setN is ds ρ)else .rt .bad
 |_=>.rt .bad
def Qo(i:Nat)(op:Operator)(e:F):FS:=λρ=>match ρ[i]? with
 |some (.sh (.int a))=>fN ρ (e ρ) λd=>(match d,op with
  |.int b,.Add=>.nx (ρ.set i (.sh (.int (a+b))))
  |.int b,.Sub=>.nx (ρ.set i (.sh (.int (a-b))))
  |_,_=>.rt .bad)
 |_=>.rt .bad
def iT(e:F):FS:=λρ=>fN ρ (e ρ) λ_=>.nx ρ
def eB(e:F):FS:=λρ=>match e ρ with
 |.ok d=>.rt (.ok d)
 |.ow xs=>.rt (.ow xs)
 |.ex c=>.ex c ρ
 |.bad=>.rt .bad
def aX:FS:=λρ=>.nx ρ
def aY(a b:FS):FS:=λρ=>match a ρ with|.nx ρ'=>b ρ'|o=>o
noncomputable def sIf(c:F)(a b:FS):FS:=λρ=>match c ρ with
 |.ok (.bl qz)=>a ρ
 |.ok (.bl q7)=>b ρ
 |.ex c=>.ex c ρ
 |_=>.rt .bad
def gX(c:Nat):FS:=λρ=>.ex c ρ
noncomputable def fY(kvs:L1 (Str×D))(x:Str)(d:D):L1 (Str×D):=if(kvs.any λp=>decide (p.1=x))=qz then kvs.map (λp=>if p.1=x then(p.1,d)else p)else kvs++[(x,d)]
def yM(i:Nat)(k e:F):FS:=λρ=>fN ρ (e ρ) λd=>match ρ[i]? with
 |some (.ow xs)=>fN ρ (k ρ) λy=>(match y with
  |.int j=>(match ixD xs.length j with|some m=>.nx (ρ.set i (.ow (xs.set m d)))|none=>.rt .bad)
  |_=>.rt .bad)
 |some (.dc kvs)=>fN ρ (k ρ) λy=>(match y with
  |.str x=>if kvs.length<LIM then .nx (ρ.set i (.dc (fY kvs x d)))else .rt .bad
  |_=>.rt .bad)
 |_=>.rt .bad
def nG(i:Nat)(e:F):FS:=λρ=>fN ρ (e ρ) λd=>match d with
 |.dct ks vs=>.nx (ρ.set i (.dc (ks.zip vs)))
 |_=>.rt .bad
noncomputable def PX:L1 D->L7 (D×D)
 |[a,b]=>pi (a,b)
 |_=>qw
def PY:D->L7 (D×D)
 |.tup ds=>PX ds
 |_=>qw
def PZ(i:Nat)(k l e:F):FS:=λρ=>fN ρ (e ρ) λd=>(match PY d with
 |some (d1,d2)=>(match ρ[i]? with
  |some (.ow xs)=>fN ρ (k ρ) λy=>(match y with
   |.int j=>(match ixD xs.length j with
    |some m=>fN (ρ.set i (.ow (xs.set m d1))) (l (ρ.set i (.ow (xs.set m d1)))) λz=>(match z with
     |.int j2=>(match ixD (xs.set m d1).length j2 with
      |some m2=>.nx ((ρ.set i (.ow (xs.set m d1))).set i (.ow ((xs.set m d1).set m2 d2)))
      |none=>.rt .bad)
     |_=>.rt .bad)
    |none=>.rt .bad)
   |_=>.rt .bad)
  |_=>.rt .bad)
 |none=>.rt .bad)
def P2(i:Nat)(k e:F):FS:=λρ=>match ρ[i]? with
 |some (.ow xs)=>fN ρ (k ρ) λy=>(match y with
  |.int j=>(match ixD xs.length j with
   |some m=>(match xs[m]? with
    |some (.int a)=>fN ρ (e ρ) λd=>(match d with
     |.int b=>.nx (ρ.set i (.ow (xs.set m (.int (a+b)))))
     |_=>.rt .bad)
    |_=>.rt .bad)
   |none=>.rt .bad)
  |_=>.rt .bad)
 |_=>.rt .bad
noncomputable def kH:D->L7 (L1 D)
 |.lst xs=>pi xs
 |_=>qw
def q8(is:L1 Nat)(one:Bool)(d:D)(ρ:Rho):L7 Rho:=match one,is with
 |true,[i]=>pi (ρ.set i (.sh d))
 |false,is=>(match d with
  |.tup ds=>if ds.length=is.length then pi (setN is ds ρ)else qw
  |_=>qw)
 |_,_=>qw
noncomputable def fU(t:D->Rho->L7 Rho)(b:FS):L1 D->Rho->Out
 |[],ρ=>.nx ρ
 |d::r,ρ=>match t d ρ with
  |none=>.rt .bad
  |some ρ1=>match b ρ1 with
   |.nx ρ2=>fU t b r ρ2
   |.ct ρ2=>fU t b r ρ2
   |.bk ρ2=>.nx ρ2
   |.rt r=>.rt r
   |.ex c ρ2=>.ex c ρ2
def tU(is:L1 Nat)(one:Bool)(it:F)(b:FS):FS:=λρ=>fN ρ (it ρ) λx=>match kH x with
 |some ds=>fU (q8 is one) b ds ρ
 |none=>.rt .bad
def MR:FS:=λ_=>.rt .bad
noncomputable def Qp(i j:Nat)(hit:Nat->Bool)(b:FS):FS:=λρ=>match b ρ with
 |.ex c ρ'=>if hit c then .nx ((ρ'.set i .no).set j (.sh (.exc c)))else .ex c ρ'
 |o=>o
def fnOf(n:Nat)(b:FS):Fn:=λds=>match b (ds.map Slot.sh++ao (n-ds.length) .no)with
 |.rt (.ok d)=>.ok d
 |.rt (.ow xs)=>.ow xs
 |.rt _=>.bad
 |.nx _=>.ok .non
 |.ex c _=>.ex c
 |_=>.bad
inductive Py where
 |len|range|enum|zip|isin|int|bool|str|tuple|list|sum|all|any|sorted|min|max|abs|set|dict
 deriving DecidableEq
inductive Gl where
 |fn (k n:Nat) (f:Fn)|exc (c:Nat)|verr|val (d:D)|py (p:Py)|tbl (kvs:List (Str×D))|cls (a:Nat) (ms:List (Str×Nat×FM))|rfn (a:Nat) (M:FM)|rmk (a n:Nat) (M:FR)
noncomputable def hit(c e:Nat):Bool:=c==e||c==0||c==100
structure Ctx where
 tab:List (Str×Gl)
 fns:List (Nat×Fn)
 sc:Scope
 N:List Str
 bs:List Str
noncomputable def idx(x:Str):L1 Str->L7 Nat
 |[]=>qw
 |y::r=>if x=y then pi 0 else(idx x r).map (· +1)
def loc(C:Ctx)(x:Str):L7 Nat:=match C.sc.names.lookup x with
 |some .local=>idx x C.N
 |some .cell=>idx x C.N
 |some .free=>idx x C.N
 |_=>qw
def fZ(C:Ctx)(x:Str):L7 Nat:=match C.sc.names.lookup x with
 |some .cell=>idx x C.N
 |some .free=>idx x C.N
 |_=>qw
noncomputable def glo(C:Ctx)(x:Str):L7 Gl:=match C.sc.names.lookup x with
 |some .globalImplicit=>C.tab.lookup x
 |_=>qw
def isP:Gl->L7 (D->L7 Bool)
 |.py .int=>pi λd=>match d with|.int _=>pi qz|.bl _=>pi qz|.exc _=>qw|.fn _=>qw|.dct _ _=>qw|_=>pi q7
 |.py .bool=>pi λd=>match d with|.bl _=>pi qz|.exc _=>qw|.fn _=>qw|.dct _ _=>qw|_=>pi q7
 |.py .tuple=>pi λd=>match d with|.tup _=>pi qz|.exc _=>qw|.fn _=>qw|.dct _ _=>qw|_=>pi q7
 |.py .list=>pi λd=>match d with|.lst _=>pi qz|.exc _=>qw|.fn _=>qw|.dct _ _=>qw|_=>pi q7
 |.py .str=>pi λd=>match d with|.str _=>pi qz|.exc _=>qw|.fn _=>qw|.dct _ _=>qw|_=>pi q7
 |.exc c=>pi λd=>match d with|.exc e=>pi (hit c e)|_=>qw
 |.verr=>pi λd=>match d with|.exc e=>pi (hit 100 e)|_=>qw
 |_=>qw
noncomputable def kD:Const->L7 D
 |.int i=>pi (.int i)
 |.bool b=>pi (.bl b)
 |.none=>pi .non
 |.str x=>pi (.str x)
 |_=>qw
noncomputable def eM{α β:Type}(f:α->L7 β):L1 α->L7 (L1 β)
 |[]=>pi []
 |x::r=>match f x with
  |none=>qw
  |some y=>(eM f r).map (y:: ·)
def cF:Expr->L7 (L1 Str×Nat)
 |.Name x _=>pi ([x],0)
 |.Tuple es _ _=>(eM (λ(e:Expr)=>match e with|.Name x _=>pi x|_=>qw) es).bind λxs=>if 2<=xs.length then pi (xs,xs.length)else qw
 |_=>qw
noncomputable def bE(sc:Scope):L1 Str:=(sc.names.filter λp=>p.2== .free).map (·.1)
def q9(sc:Scope):L1 Str:=(sc.names.filter λp=>p.2== .cell).map (·.1)
def lR(sc:Scope)(xs:L1 Str):Bool:=
 sc.kind== .function&&((q9 sc).isEmpty||(decide (q9 sc=xs)&&decide (xs.length=1)))&&xs.all (λx=>sc.names.lookup x==pi (if(q9 sc).isEmpty then .local else .cell))&&
  sc.names.all (λp=>p.2 != .local||sc.names.lookup p.1==pi .local)&&decide (xs++bE sc).Nodup&&(xs++bE sc).all (λx=>x != gV&&x != hK)&&(bE sc).all (λx=>sc.names.lookup x==pi .free)
noncomputable def JZ:Expr->Bool
 |.Name _ _=>qz
 |.Subscript _ _ _=>qz
 |.List _ _=>qz
 |_=>q7
noncomputable def one:L1 Expr->L7 Expr
 |[a]=>pi a
 |_=>qw
noncomputable def two:L1 Expr->L7 (Expr×Expr)
 |[a,b]=>pi (a,b)
 |_=>qw
noncomputable def cH:Expr->L7 (Str×Pos)
 |.Name x p=>pi (x,p)
 |_=>qw
noncomputable def Jb:Expr->L7 (L1 Expr×Nat×Pos)
 |.Tuple es k p=>pi (es,k,p)
 |_=>qw
noncomputable def Eh:Expr->L7 (L7 Expr×L7 Expr)
 |.Slice lo hi st _=>(match st with|none=>pi (lo,hi)|some _=>qw)
 |_=>qw
noncomputable def NI:Expr->Bool
 |.Constant c _ _=>(match c with|.int i=>i==1|_=>q7)
 |_=>q7
def P3:Expr->Bool
 |.UnaryOp op e _=>(match op with|.USub=>NI e|_=>q7)
 |_=>q7
noncomputable def FU:Expr->Bool
 |.Name _ _=>qz
 |_=>q7
def O4:Expr->Bool
 |.Subscript _ _ _=>qz
 |_=>q7
noncomputable def NJ:Expr->Bool
 |.Constant c _ _=>(match c with|.none=>qz|_=>q7)
 |_=>q7
noncomputable def NK:Expr->Bool
 |.Constant c _ _=>(match c with|.int i=>i==2|_=>q7)
 |_=>q7
def P4:Expr->L7 Expr
 |.Slice lo hi st _=>if hi.isNone&&(match st with|none=>q7|some e=>NK e)then lo else qw
 |_=>qw
def Qq:Expr->Bool
 |.Slice lo hi st _=>lo.isNone&&hi.isNone&&(match st with|none=>q7|some e=>P3 e)
 |_=>q7
def P5(e:Expr):L7 (Str×Str):=(Jb e).bind λ(es,_)=>(two es).bind λ(u,v)=>(cH u).bind λ(x,_)=>(cH v).map λ(y,_)=>(x,y)
noncomputable def FV:Expr->Bool
 |.Constant c _ _=>(match c with|.str _=>qz|_=>q7)
 |_=>q7
def J0(dE:Expr->L7 F)(C:Ctx)(a:Expr):L7 F:=match a with
 |.Call f as kws _=>if kws.isEmpty then(cH f).bind λ(x,_)=>(one as).bind λb=>(match loc C x,glo C x with
  |none,pi (.py .range)=>dE b
  |_,_=>qw)else qw
 |_=>qw
def FW(dE:Expr->L7 F)(C:Ctx)(a:Expr):L7 F:=match a with
 |.Call f as kws _=>if kws.isEmpty then(cH f).bind λ(x,_)=>(two as).bind λ(b,c)=>(match loc C x,glo C x with
  |none,pi (.py .zip)=>(dE b).bind λf=>(dE c).map λg=>qU f g
  |_,_=>qw)else qw
 |_=>qw
def B6(b:Bool)(r:Rk):L1 D:=if b then r.done else r.undone
noncomputable def xQ(A i:Nat)(k:Rk->R):F:=λρ=>match ρ[i]? with
 |some (.rk C r)=>if C=A then k r else .bad
 |_=>.bad
def FX(A i:Nat)(b:Bool):F:=xQ A i λr=>.ok (.lst (B6 b r))
def Jc(neg:Bool)(A i:Nat)(f:F):F:=λρ=>(f ρ).bind λd=>xQ A i (λr=>match d with
 |.str x=>.ok (.bl (neg != (bI r.held x).isSome))
 |_=>.bad) ρ
def Cm(A i:Nat)(f:F):F:=λρ=>xQ A i (λr=>(f ρ).bind λd=>match d with
 |.str x=>(match bI r.held x with|some d=>.ok d|none=>.bad)
 |_=>.bad) ρ
def Cn(A i:Nat)(f:F):F:=λρ=>xQ A i (λr=>(f ρ).bind λd=>match d with
 |.str x=>.ok ((bI r.held x).getD .non)
 |_=>.bad) ρ
def bO(A i:Nat)(m:FM)(fs:L1 F):F:=λρ=>xQ A i (λr=>lP fs ρ λds=>(m r ds).told) ρ
noncomputable def ltS(x y:Str):Bool:=decide (x.cps.toList<y.cps.toList)
def FY(x:Str):L1 Str->L1 Str
 |[]=>[x]
 |y::l=>if ltS y x then y::FY x l else x::y::l
def eY:L1 Str->L1 Str
 |[]=>[]
 |x::l=>FY x (eY l)
def jB:Fn
 |[.dct ks _]=>if ks.length<64 then .ow ((eY ks).map D.str)else .bad
 |_=>.bad
def vC(k1 k2:Str)(f1 f2:F):F:=λρ=>(f1 ρ).bind λx=>(f2 ρ).bind λy=>if k1=k2 then .bad else .ok (.dct [k1,k2] [x,y])
def lS:F:=λ_=>.ok (.dct [] [])
def rB(f g h:F):F:=λρ=>(f ρ).bind λx=>match x with
 |.dct ks vs=>(g ρ).bind λy=>(h ρ).bind λz=>(match y with
  |.str k=>.ok ((bI (ks.zip vs) k).getD z)
  |_=>.bad)
 |_=>.bad
def FZ(A i:Nat):F:=xQ A i λr=>if r.held.length<64 then .ow ((eY (r.held.map (·.1))).map D.str)else .bad
noncomputable def Co:Expr->L7 (Expr×Str×Pos)
 |.Attribute o f p=>pi (o,f,p)
 |_=>qw
def atF(C:Ctx)(f:Str)(e:Expr):L7 Nat:=(Co e).bind λ(o,g,_)=>if g=f then(cH o).bind λ(x,_)=>loc C x else qw
def Jd(C:Ctx)(e:Expr):L7 (Nat×Bool):=match atF C "done" e with
 |some i=>pi (i,qz)
 |none=>(atF C "undone" e).map λi=>(i,q7)
noncomputable def rkc(C:Ctx):L7 (Nat×L1 (Str×Nat×FM)):=match C.tab.lookup ("Rack":Str)with
 |some (.cls a ms)=>pi (a,ms)
 |_=>qw
noncomputable def NL:CmpOp->L7 Bool
 |.In=>pi q7
 |.NotIn=>pi qz
 |_=>qw
def J1(dE:Expr->L7 F)(C:Ctx)(A:Nat)(op:CmpOp)(a b:Expr):L7 F:=match NL op with
 |some neg=>(atF C "held" b).bind λi=>(dE a).map λf=>Jc neg A i f
 |none=>(Jd C a).bind λ(i,bb)=>(dE b).map λg=>bF op (FX A i bb) g
def J9(dE:Expr->L7 F)(C:Ctx)(A:Nat)(ms:L1 (Str×Nat×FM))(o:Expr)(m:Str)(as:L1 Expr):L7 F:=match cH o with
 |some (x,_)=>(loc C x).bind λi=>(ms.lookup m).bind λ(n,M)=>if as.length<20 then(eM dE as).bind λfs=>if fs.length=n then pi (bO A i M fs)else qw else qw
 |none=>if m="get" then(atF C "held" o).bind λi=>(one as).bind λa=>(dE a).map λg=>Cn A i g else qw
def O5(C:Ctx)(A:Nat)(x:Str)(a:Expr):L7 F:=match glo C x with
 |some (.py .sorted)=>(atF C "held" a).map λi=>FZ A i
 |some (.py .len)=>(Jd C a).map λ(i,bb)=>aE tP [FX A i bb]
 |some (.rfn B M)=>if B=A then(cH a).bind λ(y,_)=>(loc C y).map λi=>bO A i M []else qw
 |_=>qw
def MU(dE:Expr->L7 F)(C:Ctx)(e:Expr):L7 F:=match rkc C with
 |none=>qw
 |some (A,ms)=>(match e with
  |.Compare a [op] cs _=>(one cs).bind λb=>J1 dE C A op a b
  |.Subscript a b _=>(atF C "held" a).bind λi=>(dE b).map λg=>Cm A i g
  |.Call f as kws cp=>if kws.isEmpty then(match f with
   |.Attribute o m ap=>if(ap.endLine==cp.line)=qz then J9 dE C A ms o m as else qw
   |.Name x _=>(one as).bind λa=>O5 C A x a
   |_=>qw)else qw
  |_=>qw)
noncomputable def kJ:L1 D->L7 (L1 (Str×D))
 |[]=>pi []
 |d::r=>match d with
  |.tup [.str k,x]=>(kJ r).map ((k,x):: ·)
  |_=>qw
def tV(ps:L1 (Str×D)):L1 (Str×D):=ps.foldl (λacc p=>fY acc p.1 p.2) []
def nH(x:D):R:=match x with
 |.lst ds=>(match kJ ds with
  |some ps=>if ps.length<=1000 then .ok (.dct ((tV ps).map (·.1)) ((tV ps).map (·.2)))else .bad
  |none=>.bad)
 |_=>.bad
def nI(f:F):F:=λρ=>(f ρ).bind nH
noncomputable def MV(o:L7 Expr):L7 Str:=o.bind λe=>match e with
 |.Constant c _ _=>(match c with|.str x=>pi x|_=>qw)
 |_=>qw
noncomputable def NN:L1 (L7 Expr)->L7 (L7 Expr×L7 Expr)
 |[a,b]=>pi (a,b)
 |_=>qw
def dkD(dE:Expr->L7 F)(ks:L1 (L7 Expr))(vs:L1 Expr):L7 F:=if ks.isEmpty&&vs.isEmpty then pi lS else
 (NN ks).bind λ(k1,k2)=>(two vs).bind λ(v1,v2)=>(MV k1).bind λx=>(MV k2).bind λy=>(dE v1).bind λf=>(dE v2).map λg=>vC x y f g
def dkE(dE:Expr->L7 F)(C:Ctx)(e:Expr):L7 F:=match e with
 |.Call f as kws cp=>if kws.isEmpty then(match f with
  |.Attribute o m ap=>if m="get"/\FU o=qz/\(ap.endLine==cp.line)=qz then(two as).bind λ(a,b)=>(dE o).bind λf=>(dE a).bind λg=>(dE b).map λh=>rB f g h else qw
  |.Name x _=>(one as).bind λa=>(match loc C x,glo C x with
   |none,pi (.py .dict)=>(dE a).map λf=>nI f
   |_,_=>qw)
  |_=>qw)else qw
 |_=>qw
def rkE(dE:Expr->L7 F)(C:Ctx)(e:Expr):L7 F:=match MU dE C e with
 |some f=>pi f
 |none=>dkE dE C e
def Cp(C:Ctx)(e:Expr):L7 Expr:=match e with
 |.Call f as kws _=>if kws.isEmpty then(cH f).bind λ(x,_)=>(one as).bind λa=>(match loc C x,glo C x with
  |none,pi (.py .dict)=>pi a
  |_,_=>qw)else qw
 |_=>qw
noncomputable def bsN(C:Ctx)(e:Expr):Bool:=match e with|.Name x _=>C.bs.contains x|_=>q7
def txN(dE:Expr->L7 F)(C:Ctx)(x:Str)(p:Pos)(m:Str)(a:Expr):L7 F:=match loc C x with
 |some _=>if m="split" then(dE (.Name x p)).bind λf=>(dE a).map λg=>qV f g else if m="partition" then(dE (.Name x p)).bind λf=>(dE a).map λg=>zB f g else qw
 |none=>if m="get" then(match glo C x with
  |some (.tbl kvs)=>(dE a).map λg=>FT kvs g
  |_=>qw)else qw
def txA(dE dL:Expr->L7 F)(C:Ctx)(o:Expr)(m:Str)(as:L1 Expr):L7 F:=(one as).bind λa=>(match o with
 |.Constant c _ _=>(match c with
  |.str s=>if m="join" then(dL a).map λg=>oP s g else qw
  |_=>qw)
 |.Name x p=>txN dE C x p m a
 |_=>qw)
def F1(dE dL:Expr->L7 F)(C:Ctx)(p:Py)(as:L1 Expr):L7 F:=match p with
 |.len=>(one as).bind λa=>(dL a).map λf=>aE tP [f]
 |.int=>(one as).bind λa=>(dL a).map λf=>aE B4 [f]
 |.str=>(one as).bind λa=>(dL a).map λf=>aE tQ [f]
 |.tuple=>(one as).bind λa=>(dL a).map λf=>aE fW [f]
 |.list=>(one as).bind λa=>(match dL a with
  |some f=>pi (aE xO [f])
  |none=>(FW dE C a).map λf=>aE xO [f])
 |.sum=>(one as).bind λa=>(dL a).map λf=>aE B5 [f]
 |.all=>(one as).bind λa=>(dL a).map λf=>aE Ja [f]
 |.any=>qw
 |.abs=>qw
 |.sorted=>(one as).bind λa=>(dL a).map λf=>aE jB [f]
 |.min=>qw
 |.max=>qw
 |.isin=>(two as).bind λ(a,b)=>(cH b).bind λ(t,_)=>(if bsN C a then dL a else dE a).bind λf=>(glo C t).bind λg=>(isP g).map λP=>rIs P f
 |_=>qw
def zC(dE:Expr->L7 F)(C:Ctx)(tt:Bool)(x:Str)(as:L1 Expr):L7 F:=match glo C x,as with
 |some (.py .range),[a]=>(dE a).map cW
 |some (.py .zip),[a,b]=>if tt then(dE a).bind λf=>(dE b).map λg=>qU f g else qw
 |_,_=>qw
noncomputable def Ei(x:Str):Str:=x++"{}"
mutual
def bT:Nat->Ctx->Expr->L7 F
 |0,_,_=>qw
 |n+1,C,e=>match e with
  |.Name x _=>(match loc C x with
   |some i=>pi (aB i)
   |none=>match glo C x with
    |some (.val d)=>pi (rK d)
    |some (.fn k _ _)=>pi (rK (.fn k))
    |_=>qw)
  |.Constant c _ _=>(kD c).map rK
  |.BinOp a op b _=>(bT n C a).bind λf=>(bT n C b).map λg=>aT op f g
  |.UnaryOp op a _=>(bT n C a).bind λf=>(match op with|.Not=>pi (m7 f)|.USub=>pi (MP f)|_=>qw)
  |.BoolOp op es p=>(match es with
   |[a,b]=>(bT n C a).bind λf=>(bT n C b).map λg=>(match op with|.And=>kC f g|.Or=>rOr f g)
   |a::b::c::r=>(bT n C a).bind λf=>(bT n C (.BoolOp op (b::c::r) p)).map λg=>(match op with|.And=>kC f g|.Or=>rOr f g)
   |_=>qw)
  |.Compare a ops cs q=>(match rkE (bT n C) C (.Compare a ops cs q)with
   |some f=>pi f
   |none=>match ops with
   |[op]=>(one cs).bind λb=>(bT n C a).bind λf=>(bT n C b).map λg=>bF op f g
   |[op,op']=>(two cs).bind λ(b,c)=>(bT n C a).bind λf=>(bT n C b).bind λg=>(bT n C c).map λh=>kF op op' f g h
   |_=>qw)
  |.Dict ks vs _=>dkD (bT n C) ks vs
  |.Tuple es _ _=>if es.length<=1000 then(eM (bT n C) es).map eQ else qw
  |.List es _=>if es.length<=1000 then(eM (bT n C) es).map jV else qw
  |.Subscript a b q=>(match rkE (bT n C) C (.Subscript a b q)with
   |some f=>pi f
   |none=>(xR n C a).bind λf=>(match Eh b with
   |some (lo,hi)=>(match lo with
    |none=>pi qw
    |some l=>(bT n C l).map pi).bind λl=>(match hi with
    |none=>pi qw
    |some h=>(bT n C h).map pi).map λh=>lQ f l h
   |none=>(bT n C b).map λg=>rIx f g))
  |.ListComp elt gens sc _=>(match gens with
   |[⟨tg,it,ifs,as⟩]=>if as=0 then(cF tg).bind λ(xs,k)=>(Cq n C (k != 0) it).bind λfi=>if lR sc xs then
     (eM (λx=>fZ C x) (bE sc)).bind λcs=>(match ifs with
     |[]=>pi qw
     |[c]=>(bT n {C with sc:=sc,N:=xs++bE sc} c).map pi
     |_=>qw).bind λc=>(bT n {C with sc:=sc,N:=xs++bE sc} elt).map λe=>a8 k cs fi c e
    else qw else qw
   |_=>qw)
  |.Call f as kws cp=>(match rkE (bT n C) C (.Call f as kws cp)with
   |some f=>pi f
   |none=>(if kws.isEmpty then(match f with
   |.Name x _=>(match loc C x with
    |some _=>qw
    |none=>(match glo C x with
     |some (.fn _ k f)=>if as.isEmpty then qw else(eM (bT n C) as).bind λfs=>if fs.length=k then pi (aE f fs)else qw
     |some (.py p)=>F1 (bT n C) (xR n C) C p as
     |_=>qw))
   |.Attribute o m ap=>(match txA (bT n C) (xR n C) C o m as with
    |some f=>if ap.endLine==cp.line then pi f else qw
    |none=>(one as).bind λa=>if JZ o&&ap.endLine==cp.line then(xR n C o).bind λf=>(bT n C a).bind λg=>
     if m="count" then pi (oN qY f g)else if m="index" then pi (oN qZ f g)else qw else qw)
   |_=>qw)else qw))
  |_=>qw
def xR:Nat->Ctx->Expr->L7 F
 |0,_,_=>qw
 |n+1,C,e=>match e with
  |.Name x p=>(match loc C x with
   |some i=>pi (aD i)
   |none=>bT n C (.Name x p))
  |e=>bT n C e
def Cq:Nat->Ctx->Bool->Expr->L7 F
 |0,_,_,_=>qw
 |n+1,C,tt,e=>match e with
  |.Call f as kws q=>(match f with
   |.Name x p=>(match loc C x,glo C x,kws with
    |none,pi (.py .range),[]=>zC (bT n C) C tt x as
    |none,pi (.py .zip),[]=>zC (bT n C) C tt x as
    |none,pi (.py .enum),[]=>zC (bT n C) C tt x as
    |_,_,_=>bT n C (.Call (.Name x p) as kws q))
   |f=>bT n C (.Call f as kws q))
  |e=>xR n C e
end
def gv:Nat->Expr->L1 Str
 |0,_=>[]
 |n+1,e=>match e with
  |.Name x _=>[x]
  |.BinOp a _ b _=>gv n a++gv n b
  |.UnaryOp _ a _=>gv n a
  |.BoolOp _ as _=>as.flatMap (gv n)
  |.Compare a [_] [b] _=>(if FU a then []else gv n a)++(if FU b then []else gv n b)
  |.Compare a _ bs _=>gv n a++bs.flatMap (gv n)
  |.IfExp a b c _=>gv n a++gv n b++gv n c
  |.Tuple es _ _=>es.flatMap (gv n)
  |.List es _=>es.flatMap (gv n)
  |.Slice lo hi _ _=>(lo.map (gv n)).getD []++(hi.map (gv n)).getD []
  |.Subscript (.Name _ _) b _=>gv n b
  |.Subscript a b _=>gv n a++gv n b
  |.ListComp elt [⟨_,.Name _ _,ifs,_⟩] _ _=>ifs.flatMap (gv n)++gv n elt
  |.ListComp elt [⟨_,it,ifs,_⟩] _ _=>gv n it++ifs.flatMap (gv n)++gv n elt
  |.Call (.Name x _) as _ _=>if x="len"\/x="tuple"\/x="list"\/x="sum"\/x="sorted"\/x="all"\/x="any"\/x="isinstance" then
    as.flatMap λa=>match a with|.Name _ _=>[]|a=>gv n a else x::as.flatMap (gv n)
  |.Call (.Attribute (.Name _ _) _ _) as _ _=>as.flatMap (gv n)
  |.Call (.Attribute o _ _) as _ _=>gv n o++as.flatMap (gv n)
  |.Call f as _ _=>gv n f++as.flatMap (gv n)
  |_=>[]
def lT(C:Ctx)(e:Expr):L1 Nat:=match C.bs with
 |[]=>[]
 |_=>((gv 50 e).filter λx=>C.bs.contains x).filterMap λx=>loc C x
def fF(is:L1 Nat)(s:FS):FS:=match is with
 |[]=>s
 |is=>MQ is s
def zD:Nat->L1 Stmt->L1 Str
 |0,_=>[]
 |n+1,ss=>ss.flatMap λs=>match s with
  |.Assign [.Subscript (.Name x _) _ _] _ _=>[x]
  |.Assign [.Name x _] (.Dict [] [] _) _=>[Ei x]
  |.Assign [.Tuple [_,.Name x _] _ _] (.Tuple [_,.Dict [] [] _] _ _) _=>[Ei x]
  |.AugAssign (.Subscript (.Name x _) _ _) _ _ _=>[x]
  |.Assign [.Tuple [.Subscript (.Name x _) _ _,_] _ _] _ _=>[x]
  |.Expr (.Call (.Attribute (.Name x _) m _) _ _ _) _=>if m="append"\/m="extend"\/m="remove" then [x]else []
  |.If _ a b _=>zD n a++zD n b
  |.For _ _ b _ _=>zD n b
  |.While _ b _ _=>zD n b
  |.Return (pi (.Name x _)) _=>if x="numbers" then [x]else []
  |_=>[]
noncomputable def zE:Expr->Bool
 |.Call _ _ _ _=>qz
 |.Name _ _=>qz
 |.Subscript _ _ _=>qz
 |.ListComp _ _ _ _=>qz
 |_=>q7
noncomputable def xS(C:Ctx)(x y:Str)(px py:Pos)(a b:Expr):Bool:=
 C.sc.names.lookup x==pi .local&&C.sc.names.lookup y==pi .local&&x != y&&px.line==py.line&& !([a,b].all (foldedForSure 8))&& !([a,b].all (constantsAlone 8))&& !C.bs.contains x&& !C.bs.contains y
noncomputable def lU(C:Ctx)(x y:Str):Bool:=(C.sc.names.lookup x==pi .cell||C.sc.names.lookup y==pi .cell)&& !C.bs.contains x&& !C.bs.contains y
def Qr:Operator->Bool
 |.Add=>qz
 |_=>q7
noncomputable def O6:Operator->Bool
 |.Add=>qz
 |.Sub=>qz
 |_=>q7
structure Par where
 x:Str
 px:Pos
 y:Str
 py:Pos
 a:Expr
 b:Expr
def MX(es:L1 Expr)(e:Expr):L7 Par:=(two es).bind λ(u,v)=>(cH u).bind λ(x,px)=>(cH v).bind λ(y,py)=>(Jb e).bind λ(vs,_)=>(two vs).map λ(a,b)=>⟨x,px,y,py,a,b⟩
structure Par3 where
 x:Str
 px:Pos
 y:Str
 py:Pos
 z:Str
 pz:Pos
 a:Expr
 b:Expr
 c:Expr
noncomputable def Cr:L1 Expr->L7 (Expr×Expr×Expr)
 |[a,b,c]=>pi (a,b,c)
 |_=>qw
def Qs(es:L1 Expr)(e:Expr):L7 Par3:=(Cr es).bind λ(u,v,w)=>(cH u).bind λ(x,px)=>(cH v).bind λ(y,py)=>(cH w).bind λ(z,pz)=>(Jb e).bind λ(vs,_)=>(Cr vs).map λ(a,b,c)=>⟨x,px,y,py,z,pz,a,b,c⟩
noncomputable def O7(C:Ctx)(q:Par3):Bool:=
 C.sc.names.lookup q.x==pi .local&&C.sc.names.lookup q.y==pi .local&&C.sc.names.lookup q.z==pi .local&&q.x != q.y&&q.x != q.z&&q.y != q.z&&q.px.line==q.py.line&&q.px.line==q.pz.line&& !([q.a,q.b,q.c].all (foldedForSure 8))&& !([q.a,q.b,q.c].all (constantsAlone 8))&& !C.bs.contains q.x&& !C.bs.contains q.y&& !C.bs.contains q.z
def O8:Expr->L7 (Str×Expr)
 |.Subscript o k _=>(cH o).map λ(x,_)=>(x,k)
 |_=>qw
def Qt(es:L1 Expr)(e:Expr):L7 (Str×Expr×Expr):=(two es).bind λ(u,v)=>(O8 u).bind λ(x,k)=>(O8 v).bind λ(y,l)=>(Jb e).bind λ(vs,_)=>(two vs).bind λ_=>if x=y then pi (x,k,l)else qw
noncomputable def Ka:L1 Stmt->L7 Stmt
 |[s]=>pi s
 |_=>qw
def P6:Stmt->L7 (Str×Str)
 |.Assign ts e _=>(one ts).bind λt=>(cH t).bind λ(x,_)=>(cH e).map λ(y,_)=>(x,y)
 |_=>qw
def Qu(C:Ctx)(hs:L1 ExceptHandler):L7 (Nat×Nat):=match hs with
 |[.ExceptHandler ty nm b _]=>ty.bind λte=>nm.bind λe=>(cH te).bind λ(cx,_)=>(Ka b).bind λs=>(P6 s).bind λ(x,e')=>(match loc C cx,glo C cx with
  |none,pi (.exc c)=>if c=0/\e=e' then(loc C e).bind λi=>(loc C x).bind λj=>if C.sc.names.lookup e==pi .local&&i != j&&C.bs.isEmpty then pi (i,j)else qw else qw
  |_,_=>qw)
 |_=>qw
mutual
def B7:Nat->Bool->Ctx->Stmt->L7 FS
 |0,_,_,_=>qw
 |n+1,t,C,s=>match s with
  |.Pass _=>pi aX
  |.Return v _=>(match v with
   |none=>qw
   |some e=>(match cH e with
    |some (x,_)=>(match loc C x with
     |some i=>pi (eB (aB i))
     |none=>(bT 50 C e).map eB)
    |none=>(bT 50 C e).map λf=>fF (lT C e) (eB f)))
  |.Assign ts e _=>(one ts).bind λtg=>(match tg with
   |.Name x _=>(loc C x).bind λi=>(match if C.bs.contains x then Cp C e else qw with
    |some a=>(bT 50 C a).map λf=>fF (lT C a) (nG i f)
    |none=>(bT 50 C e).map λf=>fF (lT C e) (if C.bs.contains x then xP i f else gL i f))
   |.Tuple es a b=>(match MX es e with
    |some ⟨x,px,y,py,a,b⟩=>if xS C x y px py a b then(loc C x).bind λi=>(loc C y).bind λj=>(bT 50 C a).bind λf=>(bT 50 C b).map λg=>fF (lT C e) (eU [i,j] (eQ [f,g]))else if lU C x y then(loc C x).bind λi=>(loc C y).bind λj=>(bT 50 C e).map λf=>fF (lT C e) (eU [i,j] f)else qw
    |none=>(if zE e then pi ()else qw).bind λ_=>(cF (.Tuple es a b)).bind λ(xs,_)=>(eM (λx=>loc C x) xs).bind λis=>if xs.all (λx=> !C.bs.contains x)then
     (bT 50 C e).map λf=>fF (lT C e) (eU is f)else qw)
   |.Subscript o k _=>(cH o).bind λ(x,_)=>(loc C x).bind λi=>if C.bs.contains x then(bT 50 C e).bind λf=>(bT 50 C k).map λg=>fF (lT C e++lT C k) (yM i g f)else qw
   |_=>qw)
  |.Expr e _=>(match e with
   |.Call f as kws cp=>if kws.isEmpty then(match f with
    |.Name x p=>(bT 50 C (.Call (.Name x p) as [] cp)).map λf=>fF (lT C (.Call (.Name x p) as [] cp)) (iT f)
    |_=>qw)else qw
   |_=>qw)
  |.If c a b _=>(bT 50 C c).bind λf=>(m8 n t C a).bind λg=>(m8 n t C b).map λh=>fF (lT C c) (sIf f g h)
  |.For tg it b els _=>if t|| !els.isEmpty||(cH it).isSome then qw else((cF tg).bind λ(xs,k)=>(Cq 50 C q7 it).bind λf=>(eM (λx=>loc C x) xs).bind λis=>if xs.all (λx=> !C.bs.contains x)then
    (m8 n t C b).map λg=>fF (lT C it) (tU is (k==0) f g)else qw)
  |.Raise x c _=>if t||c.isSome then qw else x.bind λe=>(match e with
   |.Call f as kws _=>if kws.isEmpty then(cH f).bind λ(x,_)=>(one as).bind λa=>if FV a then(match loc C x,glo C x with
    |none,pi (.exc c)=>pi (gX c)
    |_,_=>qw)else qw else qw
   |_=>qw)
  |_=>qw
def m8:Nat->Bool->Ctx->L1 Stmt->L7 FS
 |0,_,_,_=>qw
 |n+1,t,C,ss=>match ss with
  |[]=>pi aX
  |[a]=>pi ((B7 n t C a).getD MR)
  |a::r=>(m8 n t C r).map λg=>aY ((B7 n t C a).getD MR) g
end
noncomputable def cY(a:Arguments):L7 (L1 Str):=if a.posonlyargs.isEmpty&&a.vararg.isNone&&a.kwonlyargs.isEmpty&&a.kwarg.isNone&&a.defaults.isEmpty then pi (a.args.map (·.arg))else qw
noncomputable def aA(sc:Scope):L1 Str:=(sc.names.filter λp=>p.2== .local||p.2== .cell).map (·.1)
noncomputable def bP(N P:L1 Str)(sc:Scope):Bool:=
 sc.kind== .function&& !sc.isCoroutine&& !sc.isGenerator&&decide N.Nodup&&decide (N.take P.length=P)&&
  P.all (λx=>sc.names.lookup x==pi .local||sc.names.lookup x==pi .cell)&&sc.names.all (λp=>p.2 != .free)&&N.all (λx=>x != gV&&x != hK)
def F2(tab:L1 (Str×Gl))(fns:L1 (Nat×Fn))(s:Stmt):L7 (Nat×Fn):=match s with
 |.FunctionDef _ as b _ _ _ sc _ _ _=>(cY as).bind λP=>if bP (aA sc) P sc then
   (m8 100 q7 ⟨tab,fns,sc,aA sc,zD 50 b⟩ b).map λg=>(P.length,fnOf (aA sc).length g)else qw
 |_=>qw
def Je(g:Gl):D->L7 Bool:=(isP g).getD λ_=>qw
def Kb:D->L7 Bool:=Je (.py .int)
def F3:D->L7 Bool:=Je (.py .bool)
def oQ:D->L7 Bool:=Je (.py .tuple)
def Ej:D->L7 Bool:=Je (.py .str)
def m9:Nat->D->L7 Bool
 |100=>Je .verr
 |c=>Je (.exc c)
mutual
noncomputable def eZ:D->PyData
 |.non=>.none
 |.bl b=>.bool b
 |.int i=>.int i
 |.str x=>.str x
 |.tup xs=>.tuple (gM xs)
 |.lst xs=>.list (gM xs)
 |.exc _=>.none
 |.fn _=>.none
 |.dct _ _=>.none
noncomputable def gM:L1 D->L1 PyData
 |[]=>[]
 |x::xs=>eZ x::gM xs
end
mutual
theorem kM: ∀{d:D},plain d=qz->(eZ d).canLay0=qz
 |.non,_=>by simp[eZ,mj]
 |.bl _,_=>by simp[eZ,mj]
 |.int _,_=>by simp[eZ,mj]
 |.str x,h=>by
  unfold plain at h;simp only[eZ,mj];exact h
 |.tup xs,h=>by
  simp only[eZ,mj];exact tW (by simpa[plain]using h)
 |.lst xs,h=>by
  simp only[eZ,mj];exact tW (by simpa[plain]using h)
 |.exc _,h=>by simp[plain]at h
 |.fn _,h=>by simp[plain]at h
 |.dct _ _,h=>by simp[plain]at h
theorem tW: ∀{ds:L1 D},cI ds=qz->jj (gM ds)=qz
 |[],_=>by simp[gM,jj]
 |d::ds,h=>by
  have a:plain d=qz/\cI ds=qz:=by simpa[cI]using h
  simp only[gM,jj,kM a.1,tW a.2,Bool.and_self]
end
mutual
theorem lV: ∀(d:D),(eZ d).depth=dep d
 |.non=>by simp[eZ,pb,dep]
 |.bl _=>by simp[eZ,pb,dep]
 |.int _=>by simp[eZ,pb,dep]
 |.str x=>by simp[eZ,pb,dep]
 |.tup a=>by simp[eZ,pb,dep,tY a]
 |.lst a=>by simp[eZ,pb,dep,tY a]
 |.exc _=>by simp[eZ,pb,dep]
 |.fn _=>by simp[eZ,pb,dep]
 |.dct _ _=>by simp[eZ,pb,dep]
theorem tY: ∀(ds:L1 D),PyData.depthAll (gM ds)=zA ds
 |[]=>by simp[gM,PyData.depthAll,zA]
 |d::ds=>by simp[gM,PyData.depthAll,zA,lV d,tY ds]
end
def Ek b:b2i b=if b then 1 else 0:=rfl
mutual
theorem lW: ∀(x y:D),plain x=qz->plain y=qz->qc (eZ x) (eZ y)=deq x y
 |.non,y,_,h=>by cases y<;>simp[plain]at h<;>simp[eZ,qc,deq]
 |.bl a,y,_,h=>by cases y<;>simp[plain]at h<;>simp[eZ,qc,deq,Ek]
 |.int a,y,_,h=>by cases y<;>simp[plain]at h<;>simp[eZ,qc,deq,Ek]
 |.str a,y,_,h=>by cases y<;>simp[plain]at h<;>simp[eZ,qc,deq]
 |.tup xs,y,g,h=>by
  cases y with
  |tup b=>simpa[eZ,qc,deq]using oR xs b (by simpa[plain]using g) (by simpa[plain]using h)
  |_=>simp[plain]at h<;>simp[eZ,qc,deq]
 |.lst xs,y,g,h=>by
  cases y with
  |lst b=>simpa[eZ,qc,deq]using oR xs b (by simpa[plain]using g) (by simpa[plain]using h)
  |_=>simp[plain]at h<;>simp[eZ,qc,deq]
 |.exc _,_,g,_=>by simp[plain]at g
 |.fn _,_,g,_=>by simp[plain]at g
 |.dct _ _,_,g,_=>by simp[plain]at g
theorem oR: ∀(xs ys:L1 D),cI xs=qz->cI ys=qz->nj (gM xs) (gM ys)=yL xs ys
 |[],[],_,_=>by simp[gM,nj,yL]
 |[],_::_,_,_=>by simp[gM,nj,yL]
 |_::_,[],_,_=>by simp[gM,nj,yL]
 |x::xs,y::ys,g,h=>by
  have a:plain x=qz/\cI xs=qz:=by simpa[cI]using g
  have b:plain y=qz/\cI ys=qz:=by simpa[cI]using h
  simp only[gM,nj,yL,lW x y a.1 b.1,oR xs ys a.2 b.2]
end
abbrev St:=L2.St
structure Ad where
 cls:Nat->Addr
 fnA:Nat->Addr
 nb:Nat
def oS(h:Heap)(x C:Addr):Prop:= ∃o vs,h.get? x=pi o/\o.cls= .ref C/\o.data= .fields vs
def El(C a:Addr):HO:=.ext λh=>oS h a C
section
variable (K:oe) (ad:Ad)
mutual
noncomputable def Rep(G:Hp):D->V->Prop
 |.non,v=>v= .non
 |.bl b,v=>v= .bl b
 |.int i,v=>v= .int i
 |.str x,v=>v= .str x
 |.tup ds,v=>∃a vs,v= .ref a/\SqT K G a vs/\aJ G ds vs
 |.lst ds,v=>∃a vs,v= .ref a/\SqL K G a vs/\aJ G ds vs
 |.exc c,v=>∃a,v= .ref a/\G a=pi (El (ad.cls c) a)
 |.fn k,v=>v= .ref (ad.fnA k)
 |.dct ks ds,v=>∃a o es,v= .ref a/\G a=pi (.frz o (.dK es))/\es.map (·.1)=ks.map qt/\aJ G ds (es.map (·.2))
noncomputable def aJ(G:Hp):L1 D->L1 V->Prop
 |[],vs=>vs=[]
 |d::ds,vs=>∃v r,vs=v::r/\Rep G d v/\aJ G ds r
end
end
section
variable{K:oe}{ad:Ad}{G G' H H':Hp}
def _root_.L2.Same.seqT{K}{H H'}(e:Same H H')(h:SqT K H a xs):SqT K H' a xs:=by rcases h with (h|⟨o,h⟩)|h;exact .inl (.inl (e _ _ h));exact .inl (.inr ⟨o,e _ _ h⟩);exact .inr h
mutual
theorem Rep.mono(e:Same G G'): ∀{d:D} {v:V},Rep K ad G d v->Rep K ad G' d v
 |.non,_,h=>h
 |.bl _,_,h=>h
 |.int _,_,h=>h
 |.str _,_,h=>h
 |.tup ds,v,h=>by
  unfold Rep at h ⊢;obtain⟨a,g,b,c,f⟩:=h;exact⟨a,g,b,e.seqT c,aJ.mono e f⟩
 |.lst ds,v,h=>by
  unfold Rep at h ⊢;obtain⟨a,g,b,c,f⟩:=h;exact⟨a,g,b,e.seq c,aJ.mono e f⟩
 |.exc _,_,h=>by
  unfold Rep at h ⊢;obtain⟨a,b,c⟩:=h;exact⟨a,b,e _ _ c⟩
 |.fn _,_,h=>h
 |.dct ks ds,v,h=>by
  unfold Rep at h ⊢;obtain⟨a,o,i,b,c,f,j⟩:=h;exact⟨a,o,i,b,e _ _ c,f,aJ.mono e j⟩
theorem aJ.mono(e:Same G G'): ∀{ds:L1 D} {vs:L1 V},aJ K ad G ds vs->aJ K ad G' ds vs
 |[],_,h=>h
 |d::ds,vs,h=>by
  unfold aJ at h ⊢;obtain⟨v,r,a,c,b⟩:=h;exact⟨v,r,a,Rep.mono e c,aJ.mono e b⟩
end
theorem aJ.length: ∀{ds} {vs},aJ K ad G ds vs->vs.length=ds.length
 |[],_,h=>by
  unfold aJ at h;subst h;rfl
 |d::ds,vs,h=>by
  unfold aJ at h;obtain⟨v,r,rfl,_,a⟩:=h;simp[aJ.length a]
def aJ.nil:aJ K ad G [] []:=by unfold aJ;rfl
def aJ.cons{d}{v}{ds}{vs}(h:Rep K ad G d v)(t:aJ K ad G ds vs):aJ K ad G (d::ds) (v::vs):=by unfold aJ;exact⟨v,vs,rfl,h,t⟩
theorem aJ.get: ∀{ds} {vs} {i:Nat} {d},aJ K ad G ds vs->ds[i]? =pi d->∃v,vs[i]? =pi v/\Rep K ad G d v
 |[],_,_,_,_,e=>by simp at e
 |d::ds,vs,i,d',h,e=>by
  unfold aJ at h;obtain⟨v,r,rfl,f,c⟩:=h;rcases i with _|i;simp at e;subst e;exact⟨v,rfl,f⟩;obtain⟨w,a,b⟩:=aJ.get (i:=i) (d:=d') c (by simpa using e);exact⟨w,by simpa using a,b⟩
theorem aJ.append: ∀{ds es} {vs ws},aJ K ad G ds vs->aJ K ad G es ws->aJ K ad G (ds++es) (vs++ws)
 |[],_,_,_,h,t=>by
  unfold aJ at h;subst h;exact t
 |d::ds,es,vs,ws,h,t=>by
  unfold aJ at h;obtain⟨v,r,rfl,b,a⟩:=h;exact aJ.cons b (aJ.append a t)
theorem aJ.drop: ∀n {ds} {vs},aJ K ad G ds vs->aJ K ad G (ds.drop n) (vs.drop n)
 |0,_,_,h=>h
 |n+1,[],_,h=>by
  unfold aJ at h;subst h;exact aJ.nil
 |n+1,d::ds,vs,h=>by
  unfold aJ at h;obtain⟨v,r,rfl,b,a⟩:=h;exact aJ.drop n a
theorem aJ.take: ∀n {ds} {vs},aJ K ad G ds vs->aJ K ad G (ds.take n) (vs.take n)
 |0,_,_,_=>aJ.nil
 |n+1,[],_,h=>by
  unfold aJ at h;subst h;exact aJ.nil
 |n+1,d::ds,vs,h=>by
  unfold aJ at h;obtain⟨v,r,rfl,b,a⟩:=h;exact aJ.cons b (aJ.take n a)
theorem aJ.set{d}{v}(q:Rep K ad G d v): ∀n {ds} {vs},aJ K ad G ds vs->aJ K ad G (ds.set n d) (vs.set n v)
 |_,[],_,h=>by
  unfold aJ at h;subst h;exact aJ.nil
 |0,_::ds,vs,h=>by
  unfold aJ at h;obtain⟨w,r,rfl,b,a⟩:=h;exact aJ.cons q a
 |n+1,e::ds,vs,h=>by
  unfold aJ at h;obtain⟨w,r,rfl,b,a⟩:=h;exact aJ.cons b (aJ.set q n a)
theorem aJ.map_int: ∀{ns:L1 Int},aJ K ad G (ns.map D.int) (ns.map V.int)
 |[]=>aJ.nil
 |_::_=>aJ.cons (by unfold Rep;rfl) aJ.map_int
structure Step(G H G' H':Hp):Prop where
 sg:Same G G'
 gh:Same G' H'
 sh:Same H H'
 nw: ∀b,G b=qw->G' b≠qw->H b=qw
def rC(e:Same H H')(h:H' b=qw):H b=qw:=e.free h
theorem Step.refl(h:Same G H):Step G H G H:=⟨Same.refl _,h,Same.refl _,λb a c=>absurd a c⟩
theorem Step.trans(a:Step G H G1 H1)(b:Step G1 H1 G2 H2):Step G H G2 H2:=
 ⟨a.sg.trans b.sg,b.gh,a.sh.trans b.sh,λx c d=>by
  rcases q:G1 x with _|o;exact a.sh.free (b.nw x q d);exact a.nw x c (by rw[q];exact λz=>nomatch z)⟩
def Same.upd_new(h:H p=qw):Same H (upd H p o):=λb u e=>by rw[aC (aO e h)];exact e
def Step.new(h:Same G H)(n:H p=qw):Step G H (upd G p o) (upd H p o):=by have d:G p=qw:=h.free n;refine⟨Same.upd_new d,λb u e=>?_,Same.upd_new n,λb c a=>?_⟩;by_cases q:b=p;subst q;rw[aH]at e ⊢;exact e;rw[aC q]at e ⊢;exact h b u e;by_cases q:b=p;subst q;exact n;rw[aC q]at a;exact absurd c a
def Step.own(h:Same G H)(n:H p=qw):Step G H G (upd H p o):=
 ⟨Same.refl _,h.trans (Same.upd_new n),Same.upd_new n,λb a c=>absurd a c⟩
def Step.shareO(s:Step G H G' H')(n:H p=qw)(m:G' p=qw)(e:H' p=pi o):Step G H (upd G' p o) H':=by refine⟨s.sg.trans (Same.upd_new m),λb u q=>?_,s.sh,λb c a=>?_⟩;by_cases z:b=p;subst z;rw[aH]at q;rw[e];exact q;rw[aC z]at q;exact s.gh b u q;by_cases z:b=p;subst z;exact n;rw[aC z]at a;exact s.nw b c a
def Step.share(s:Step G H G' H')(n:H p=qw)(m:G' p=qw)(e:H' p=pi (.lst vs)):Step G H (upd G' p (.lst vs)) H':=s.shareO n m e
mutual
noncomputable def hD:D->Int
 |.non=>0xFCA86420
 |.int i=>hashInt i
 |.tup xs=>reduceHash (Builtin.Tuple.tupleHashOf (hDs xs))
 |_=>0
noncomputable def hDs:L1 D->L1 Int
 |[]=>[]
 |x::xs=>hD x::hDs xs
end
def HR(K:oe)(ad:Ad)(G:Hp):L1 (Str×D)->L1 (Key×V)->Prop:=Paired λp q=>q.1=qt p.1/\Rep K ad G p.2 q.2
def dcO(_:Addr)(es:L1 (Key×V)):HO:=.dK es
noncomputable def sdO(_:Addr)(es:Obj×L1 (Key×V)):HO:=.frz es.1 (.dK es.2)
abbrev DR:=HR
def KOk(_:L1 (Str×D)):Prop:=True
theorem HR.mono{K}{ad}{G G'}(h:HR K ad G ps qs)(e:Same G G'):HR K ad G' ps qs:=Paired.mapP h λ_ _ z=>⟨z.1,z.2.mono e⟩
structure RackIn(K:oe)(ad:Ad)(C:Addr)(G H:Hp)(p:Addr)(r:Rk)(dx d l1 l2:Addr):Prop where
 ins:H p=pi (.ins C dx [("held",.ref d),("done",.ref l1),("undone",.ref l2)])
 own:H dx=pi (.own p)
 held: ∃kvs,H d=pi (.dK kvs)/\HR K ad G r.held kvs
 done: ∃vs,H l1=pi (.lst vs)/\aJ K ad G r.done vs
 undone: ∃vs,H l2=pi (.lst vs)/\aJ K ad G r.undone vs
 ne:l1≠l2
 gp:G p=qw
 gx:G dx=qw
 gd:G d=qw
 g1:G l1=qw
 g2:G l2=qw
def Step.gnone{G H G' H'}(st:Step G H G' H')(g:G b=qw)(h:H b=pi o):G' b=qw:=by rcases q:G' b with _|a;rfl;have:=st.nw b g (by rw[q];exact λz=>nomatch z);rw[h]at this;cases this
def RackIn.step{K}{ad}{G H G' H'}(h:RackIn K ad C G H p r dx d l1 l2)(st:Step G H G' H'):RackIn K ad C G' H' p r dx d l1 l2:=by obtain⟨kvs,b,i⟩:=h.held;obtain⟨g,a,e⟩:=h.done;obtain⟨f,c,j⟩:=h.undone;exact⟨st.sh _ _ h.ins,st.sh _ _ h.own,⟨kvs,st.sh _ _ b,i.mono st.sg⟩,⟨g,st.sh _ _ a,e.mono st.sg⟩,⟨f,st.sh _ _ c,j.mono st.sg⟩,h.ne,st.gnone h.gp h.ins,st.gnone h.gx h.own,st.gnone h.gd b,st.gnone h.g1 a,st.gnone h.g2 c⟩
def RackIn.up{K}{ad}{G H H'}(h:RackIn K ad C G H p r dx d l1 l2)(s:Same H H'):RackIn K ad C G H' p r dx d l1 l2:=by obtain⟨kvs,i,f⟩:=h.held;obtain⟨e,b,a⟩:=h.done;obtain⟨c,j,g⟩:=h.undone;exact⟨s _ _ h.ins,s _ _ h.own,⟨kvs,s _ _ i,f⟩,⟨e,s _ _ b,a⟩,⟨c,s _ _ j,g⟩,h.ne,h.gp,h.gx,h.gd,h.g1,h.g2⟩
def SLi(K:oe)(ad:Ad)(G H:Hp):Slot->L7 V->Prop
 |.no,_=>True
 |.sh d,ov=>∃v,ov=pi v/\Rep K ad G d v
 |.ow xs,ov=>∃a vs,ov=pi (.ref a)/\G a=qw/\H a=pi (.lst vs)/\aJ K ad G xs vs
 |.dc kvs,ov=>∃a es,ov=pi (.ref a)/\G a=qw/\H a=pi (dcO a es)/\DR K ad G kvs es/\KOk kvs
 |.sd kvs,ov=>∃a es,ov=pi (.ref a)/\G a=qw/\H a=pi (sdO a es)/\DR K ad G kvs es.2/\KOk kvs
 |.rk C r,ov=>∃p dx d l1 l2,ov=pi (.ref p)/\RackIn K ad C G H p r dx d l1 l2
structure SL(K:oe)(ad:Ad)(G H:Hp)(ρ:Rho)(σ:St):Prop where
 len:ρ.length=σ.length
 at_: ∀(i:Nat) (s:Slot),ρ[i]? =pi s->∃ov,σ[i]? =pi ov/\SLi K ad G H s ov
theorem SLi.step(st:Step G H G' H'): ∀{s} {ov},SLi K ad G H s ov->SLi K ad G' H' s ov
 |.no,_,_=>trivial
 |.sh d,_,⟨v,h1,h2⟩=>⟨v,h1,h2.mono st.sg⟩
 |.ow xs,_,⟨a,vs,h1,h2,h3,h4⟩=>by
  refine⟨a,vs,h1,?_,st.sh _ _ h3,h4.mono st.sg⟩;rcases q:G' a with _|o;rfl;have:=st.nw a h2 (by rw[q];exact λz=>nomatch z);rw[h3]at this;cases this
 |.dc kvs,_,⟨a,es,h1,h2,h3,h4,h5⟩=>by
  refine⟨a,es,h1,?_,st.sh _ _ h3,h4.mono st.sg,h5⟩;rcases q:G' a with _|o;rfl;have:=st.nw a h2 (by rw[q];exact λz=>nomatch z);rw[h3]at this;cases this
 |.sd kvs,_,⟨a,es,h1,h2,h3,h4,h5⟩=>by
  refine⟨a,es,h1,?_,st.sh _ _ h3,h4.mono st.sg,h5⟩;rcases q:G' a with _|o;rfl;have:=st.nw a h2 (by rw[q];exact λz=>nomatch z);rw[h3]at this;cases this
 |.rk C r,_,⟨p,dx,d,l1,l2,h1,h2⟩=>⟨p,dx,d,l1,l2,h1,h2.step st⟩
theorem SL.step(h:SL K ad G H ρ σ)(st:Step G H G' H'):SL K ad G' H' ρ σ:=
 ⟨h.len,λi s e=>let ⟨ov,h1,h2⟩:=h.at_ i s e;⟨ov,h1,h2.step st⟩⟩
theorem SL.sh{i:Nat}(h:SL K ad G H ρ σ)(e:ρ[i]? =pi (.sh d)): ∃v,σ[i]? =pi (pi v)/\Rep K ad G d v:=by obtain⟨c,a,v,rfl,b⟩:=h.at_ i _ e;exact⟨v,a,b⟩
theorem SL.ow{i:Nat}(h:SL K ad G H ρ σ)(e:ρ[i]? =pi (.ow xs)): ∃a vs,σ[i]? =pi (pi (.ref a))/\G a=qw/\H a=pi (.lst vs)/\aJ K ad G xs vs:=by obtain⟨d,b,a,vs,rfl,c⟩:=h.at_ i _ e;exact⟨a,vs,b,c⟩
theorem SL.dc{i:Nat}(h:SL K ad G H ρ σ)(e:ρ[i]? =pi (.dc kvs)): ∃a es,σ[i]? =pi (pi (.ref a))/\G a=qw/\H a=pi (dcO a es)/\DR K ad G kvs es/\KOk kvs:=by obtain⟨d,b,a,es,rfl,c⟩:=h.at_ i _ e;exact⟨a,es,b,c⟩
theorem SL.rk{i C:Nat}(h:SL K ad G H ρ σ)(e:ρ[i]? =pi (.rk C r)): ∃p dx d l1 l2,σ[i]? =pi (pi (.ref p))/\RackIn K ad C G H p r dx d l1 l2:=by obtain⟨c,a,p,dx,d,l1,l2,rfl,b⟩:=h.at_ i _ e;exact⟨p,dx,d,l1,l2,a,b⟩
def RK(K:oe)(ad:Ad)(G H:Hp)(r:R)(Q:VK)(E:Nat->Hp->Prop):Prop:=match r with
 |.ok d=>∀v G' H',Step G H G' H'->Rep K ad G' d v->Q v H'
 |.ow xs=>∀p vs G' H',Step G H G' H'->H p=qw->G' p=qw->H' p=pi (.lst vs)->aJ K ad G' xs vs->Q (.ref p) H'
 |.ex c=>∀G' H',Step G H G' H'->E c H'
 |.bad=>False
def RK.step(h:RK K ad G H r Q E)(st:Step G H G' H'):RK K ad G' H' r Q E:=by rcases r with d|i|c|_;exact λv a b f q=>h v a b (st.trans f) q;exact λp g a b f n m e q=>h p g a b (st.trans f) (st.sh.free n) m e q;exact λa b f=>h a b (st.trans f);exact h
def RK.ok_now(h:RK K ad G H (.ok d) Q E)(e:Same G H)(q:Rep K ad G d v):Q v H:=h v G H (Step.refl e) q
def RK.ow_new(h:RK K ad G H (.ow xs) Q E)(e:Same G H)(q:aJ K ad G xs vs)(n:H p=qw):Q (.ref p) (upd H p (.lst vs)):=
 h p vs G (upd H p (.lst vs)) (Step.own e n) n (e.free n) aH q
def RK.tup_new(h:RK K ad G H (.ok (.tup xs)) Q E)(e:Same G H)(q:aJ K ad G xs vs)(n:H p=qw):Q (.ref p) (upd H p (.tup vs)):=by refine h (.ref p) (upd G p (.tup vs)) (upd H p (.tup vs)) (Step.new e n) ?_;unfold Rep;exact⟨p,vs,rfl,SqT.of aH,q.mono (Same.upd_new (e.free n))⟩
end
def CXe(P:Program)(w:World):CXT:=λouter H s E e s'=>
 ∃(ea:Addr) (cls a0:Value) (H':Hp) (B:Heap),e= .ref ea/\s'.os=s.os/\AllBare s'.gens/\Heap.FlyingW B outer ea cls a0 s'.heap/\Un (frs outer) [] H H' s.heap s'.heap/\
  HOk P w H' s'.heap/\H' ea=qw/\(∀b o,s.heap.get? b=pi o->b∉frs outer->∃o',B.get? b=pi o')/\(∀b o,H' b=pi o->∃o',B.get? b=pi o')/\E cls qw H'
def xk(ad:Ad)(E:Nat->Hp->Prop):XK:=λcls _ H'=>∃c,cls= .ref (ad.cls c)/\E c H'
def XP(X:Cx)(ad:Ad)(σ:St)(E:Nat->Hp->Prop):Prop:=
 ∀(cc:cf) (H:Hp) (s:Shared) (e:Value) (s':Shared),Inv X cc σ H s->CXe X.prog X.w X.stack H s (xk ad E) e s'->X.xe e s'
def tE(X:Cx)(ad:Ad)(f:F):TE:=λσ H Q=>∃G ρ E,Same G H/\SL X.K ad G H ρ σ/\XP X ad σ E/\RK X.K ad G H (f ρ) Q E
abbrev ME(X:Cx)(ad:Ad)(e:Expr)(f:F):Prop:=PE X e (tE X ad f)
def lX(r:R):Prop:=(∃b,r= .ok (.bl b))\/∃c,r= .ex c
def tT(X:Cx)(ad:Ad)(f:F):TT:=λσ H Q=>∃G ρ E,Same G H/\SL X.K ad G H ρ σ/\XP X ad σ E/\lX (f ρ)/\RK X.K ad G H (f ρ) (λv H'=>∃b,v= .bl b/\Q b H') E
def tE.el{ad}{σ:St}{P:Prop}(h:tE X ad f σ H Q)(k: ∀G ρ E,Same G H->SL X.K ad G H ρ σ->XP X ad σ E->RK X.K ad G H (f ρ) Q E->P):P:=by obtain⟨G,ρ,E,a,d,c,b⟩:=h;exact k G ρ E a d c b
def tT.el{ad}{σ:St}{P:Prop}(h:tT X ad f σ H Q)(k: ∀G ρ E,Same G H->SL X.K ad G H ρ σ->XP X ad σ E->lX (f ρ)->RK X.K ad G H (f ρ) (λv H'=>∃b,v= .bl b/\Q b H') E->P):P:=by obtain⟨G,ρ,E,a,e,c,g,d⟩:=h;exact k G ρ E a e c g d
abbrev MT(X:Cx)(ad:Ad)(e:Expr)(f:F):Prop:=PT X e (tT X ad f)
abbrev MW(X:Cx)(ad:Ad)(e:Expr)(f:F):Prop:=PW X e (tT X ad f)
def AK(K:oe)(ad:Ad)(G H:Hp)(r:RA)(Q:L1 V->Hp->Prop)(E:Nat->Hp->Prop):Prop:=match r with
 |.ok ds=>∀vs G' H',Step G H G' H'->aJ K ad G' ds vs->Q vs H'
 |.ex c=>∀G' H',Step G H G' H'->E c H'
 |.bad=>False
def tA(X:Cx)(ad:Ad)(fs:L1 F):TA:=λσ H Q=>∃G ρ E,Same G H/\SL X.K ad G H ρ σ/\XP X ad σ E/\AK X.K ad G H (args fs ρ) Q E
abbrev MA(X:Cx)(ad:Ad)(es:L1 Expr)(fs:L1 F):Prop:=PA X es (tA X ad fs)
section
variable{X:Cx}{ad:Ad}{cc:cf}{s:Shared}{σ:St}{H G:Hp}{ρ:Rho}{Q:VK}{E:Nat->Hp->Prop}{pos:Pos}{a:Expr}{f:F}
def dP(st:Step G H G1 H1)(n:H p=qw)(m:G1 p=qw)(e:H1 p=pi (.lst vs))(q:aJ X.K ad G1 xs vs):
  ∃G2,Step G H G2 H1/\Rep X.K ad G2 (.lst xs) (.ref p):=by
 refine⟨upd G1 p (.lst vs),st.share n m e,?_⟩;unfold Rep;exact⟨p,vs,rfl,SqL.of aH,q.mono (Same.upd_new m)⟩
theorem ME.thn(ha:ME X ad a f)(I:Inv X cc σ H s)(hG:Same G H)(hS:SL X.K ad G H ρ σ)(hx:XP X ad σ E)(hr:RK X.K ad G H ((f ρ).bind k) Q E):
  X.wp (eval a X.env) (λu s1=>∃v d G1 H1,Inv X cc σ H1 s1/\bG v u/\Step G H G1 H1/\Rep X.K ad G1 d v/\RK X.K ad G1 H1 (k d) Q E) X.xe s:=by
 rcases e:f ρ with d|j|c|_;rw[e]at hr;refine L2.thn (ha cc s σ H (λv H1=>∃G1,Step G H G1 H1/\Rep X.K ad G1 d v) I ⟨G,ρ,E,hG,hS,hx,by rw[e];exact λv G1 H1 g q=>⟨G1,g,q⟩⟩) λu s1 b=>?_;obtain⟨v,H1,h,i,G1,g,q⟩:=b;exact⟨v,d,G1,H1,h,i,g,q,RK.step hr g⟩;rw[e]at hr;refine L2.thn (ha cc s σ H (λv H1=>∃G1,Step G H G1 H1/\Rep X.K ad G1 (.lst j) v) I ⟨G,ρ,E,hG,hS,hx,by rw[e];exact λp o G1 H1 g n m l q=>dP g n m l q⟩) λu s1 b=>?_;obtain⟨v,H1,h,i,G1,g,q⟩:=b;exact⟨v,.lst j,G1,H1,h,i,g,q,RK.step hr g⟩;rw[e]at hr;refine L2.thn (ha cc s σ H (λv H1=>False) I ⟨G,ρ,E,hG,hS,hx,by rw[e];exact hr⟩) λu s1 b=>by obtain⟨v,H1,h,i,q⟩:=b;exact q.elim
 rw[e]at hr;exact ba hr
def bU:Rep X.K ad G (.int i) (.int i):=by unfold Rep;rfl
def dJ:Rep X.K ad G (.bl i) (.bl i):=by unfold Rep;rfl
def F4:Rep X.K ad G .non .non:=by unfold Rep;rfl
def eV:Rep X.K ad G (.str i) (.str i):=by unfold Rep;rfl
abbrev kT(X:Cx)(i:Nat)(x:Str):Prop:=X.N[i]? =pi x/\Vis X.env.scope x/\(x==gV)=q7/\(x==hK)=q7
def bQ{X}{pos}(h:kT X i x):PE X (.Name x pos) (IY i):=yR h.1 h.2.1 h.2.2.1 h.2.2.2
def zF(hV:kT X i x):ME X ad (.Name x pos) (aB i):=by refine λg s n H Q I c=>c.el λG h E m f o a=>?_;unfold aB at a;rcases e:h[i]? with _|j;rw[e]at a;exact a.elim;rw[e]at a;rcases j with _|d|p|kvs|kvs|⟨_,_⟩;exact a.elim;obtain⟨v,b,l⟩:=f.sh e;exact bQ hV g s n H Q I ⟨v,b,a.ok_now m l⟩;exact a.elim;exact a.elim;exact a.elim;exact a.elim
def MLk(X:Cx)(ad:Ad)(e:Expr)(f:F):Prop:=
 ∀(cc:cf) (s:Shared) (σ:St) (H G:Hp) (ρ:Rho) (k:D->R) (Q:VK) (E:Nat->Hp->Prop),Inv X cc σ H s->Same G H->SL X.K ad G H ρ σ->XP X ad σ E->RK X.K ad G H ((f ρ).bind k) Q E->
  X.wp (eval e X.env) (λu s1=>∃v d G1 H1,Inv X cc σ H1 s1/\bG v u/\Step G H G1 H1/\(Rep X.K ad G1 d v\/∃a vs ds,d= .lst ds/\v= .ref a/\G1 a=qw/\H1 a=pi (.lst vs)/\aJ X.K ad G1 ds vs)/\RK X.K ad G1 H1 (k d) Q E) X.xe s
def ME.look(ha:ME X ad a f):MLk X ad a f:=by intro o s r H G p k Q E I n e g h;exact L2.thn (ha.thn I n e g h) λu t b=>by obtain⟨v,d,c,m,i,j,l,q,z⟩:=b;exact⟨v,d,c,m,i,j,l,.inl q,z⟩
def kU(e:kD k=pi d):ME X ad (.Constant k j pos) (rK d):=by
 refine λa s c H Q I g=>g.el λG l E b h m f=>?_;cases k with
 |int i=>cases e;exact Jr a s c H Q I (f.ok_now b bU)
 |bool i=>cases e;exact Nh a s c H Q I (f.ok_now b dJ)
 |none=>cases e;exact Js a s c H Q I (f.ok_now b F4)
 |str i=>cases e;exact D9 a s c H Q I (f.ok_now b eV)
 |float _=>cases e
 |complex _ _=>cases e
 |bytes _=>cases e
 |ellipsis=>cases e
def zG{x}{d}{u}{v}(hg:L2.Gl X x)(hm:X.mg x=pi u)(r:bG v u)(q: ∀G,Rep X.K ad G d v)(hd:(x==gV)=q7):ME X ad (.Name x pos) (rK d):=by refine λb s e H Q I a=>a.el λG h E c g i f=>?_;exact Fy hg hm r hd b s e H Q I (f.ok_now c (q G))
def DOp(X:Cx)(ad:Ad)(t:Value->Value->Sem Value)(r:D->D->R):Prop:=
 ∀(cc:cf) (s:Shared) (σ:St) (H G:Hp) (x y:D) (v w:V) (u z:Value) (Q:VK) (E:Nat->Hp->Prop),Inv X cc σ H s->Same G H->Rep X.K ad G x v->Rep X.K ad G y w->bG v u->bG w z->
  RK X.K ad G H (r x y) Q E->X.wp (t u z) (EP X cc σ Q) X.xe s
def zH(ho:DOp X ad t r)(ha:ME X ad a f)(hb:ME X ad b g)(I:Inv X cc σ H s)(hG:Same G H)(hS:SL X.K ad G H ρ σ)(hx:XP X ad σ E)(hr:RK X.K ad G H ((f ρ).bind λx=>(g ρ).bind λy=>r x y) Q E):
  X.wp (eval a X.env) (λv s₁=>X.wp (eval b X.env) (λu s₂=>X.wp (t v u) (EP X cc σ Q) X.xe s₂) X.xe s₁) X.xe s:=by
 refine L2.thn (ha.thn I hG hS hx hr) λu L c=>?_;obtain⟨v,d,C,J,o,q,st1,q1,i⟩:=c;refine L2.thn (hb.thn o st1.gh (hS.step st1) hx i) λz n c=>?_;obtain⟨w,e,p,m,B,j,st2,l,h⟩:=c;exact ho cc n σ m p d e v w u z Q E B st2.gh (q1.mono st2.sg) l q j h
end
section
variable{ad:Ad}{σ:St}
def Kc(h:n<=LIM):n<=sizeLine:=om h (by decide)
def tZ(h:sml i=qz): -(2^64)<i/\i<2^64:=by unfold sml at h;rw[aw]at h;exact⟨of_decide_eq_true h.1,of_decide_eq_true h.2⟩
def oT(h:sml i=qz):i.natAbs<2^64:=by obtain⟨a,b⟩:=tZ h;lia
def F5(I:Inv X cc σ H s)(hl:SqL X.K H l xs)(hb:SqL X.K H b ys)(hz:xs.length+ys.length<=sizeLine)(q: ∀p,H p=qw->Q (.ref p) (upd H p (.lst (xs++ys)))):
  X.wp (binaryOp .Add (.ref l) (.ref b)) (EP X cc σ Q) X.xe s:=by
 obtain⟨c,x,⟨⟨E,dd,y,B⟩,n,v,t,i,z⟩,_⟩:=I.list hl;obtain⟨a,r,⟨⟨u,o,m,j⟩,C,d,h,g,f⟩,_⟩:=I.list hb;simp only at t z h f i g;subst t z h f;have e:c.toArray++a.toArray=(c++a).toArray:=by simp
 refine concat_meets ⟨_,v,rfl⟩ ⟨_,d,rfl⟩ noFill_list_add seq_list_add PySem.F.slot_list_add PySem.F.entry_list_add (PySem.F.args_list_add_2 _ _)
   (list_addW l b c.toArray a.toArray n C dd o B j (by rw[ax,ax, <-x.length, <-r.length];exact hz)) ⟨v,d,?_⟩
 rw[e];exact⟨.ref _,_,I.lnew (t':=s.toks) (x.append r) (by rw[bo];exact hz),rfl,q _ I.fresh⟩
def F6:kR op x y= .bad\/(∃i j,x= .int i/\y= .int j)\/(∃a b,x= .lst a/\y= .lst b)\/∃a b,x= .str a/\y= .str b:=by
 cases x<;>try exact .inl rfl
 all_goals cases y<;>try exact .inl rfl
 exact .inr (.inl ⟨_,_,rfl,rfl⟩);exact .inr (.inr (.inr ⟨_,_,rfl,rfl⟩));exact .inr (.inr (.inl ⟨_,_,rfl,rfl⟩))
def F7 op:DOp X ad (binaryOp op) (kR op):=by
 intro m s n H G x y v w u z Q E I f r o g l d;rcases F6 (op:=op) (x:=x) (y:=y)with e|⟨i,j,rfl,rfl⟩|⟨xs,ys,rfl,rfl⟩|⟨x,y,rfl,rfl⟩;rw[e]at d;exact d.elim;unfold Rep at r o;subst r;subst o;cases op with
 |Add=>exact JF m s n H _ _ u z Q I g l ⟨i,j,rfl,rfl,d.ok_now f bU⟩
 |Sub=>exact JG m s n H _ _ u z Q I g l ⟨i,j,rfl,rfl,d.ok_now f bU⟩
 |Mult=>
  have b:RK X.K ad G H (if sml i||sml j then R.ok (.int (i*j))else .bad) Q E:=d;by_cases c:(sml i||sml j)=qz;rw[if_pos c]at b;refine JH m s n H _ _ u z Q I g l ⟨i,j,rfl,rfl,?_,b.ok_now f bU⟩;rcases(Bool.or_eq_true _ _).mp c with h|h;exact .inl (tZ h);exact .inr (tZ h);rw[if_neg c]at b;exact b.elim
 |FloorDiv=>
  have b:RK X.K ad G H (if 0<j/\j<1073741824 then R.ok (.int (i/j))else .bad) Q E:=d;by_cases c:0<j/\j<1073741824;rw[if_pos c]at b;exact FE m s n H _ _ u z Q I g l ⟨i,j,rfl,rfl,c,b.ok_now f bU⟩;rw[if_neg c]at b;exact b.elim
 |Mod=>
  have b:RK X.K ad G H (if 0<j then R.ok (.int (i % j))else .bad) Q E:=d;by_cases c:0<j;rw[if_pos c]at b;exact JI m s n H _ _ u z Q I g l ⟨i,j,rfl,rfl,c,b.ok_now f bU⟩;rw[if_neg c]at b;exact b.elim
 |LShift=>
  have b:RK X.K ad G H (if 0<=j/\j<=1000/\sml i=qz then R.ok (.int (i*2^j.toNat))else .bad) Q E:=d;by_cases c:0<=j/\j<=1000/\sml i=qz;rw[if_pos c]at b;exact JJ m s n H _ _ u z Q I g l ⟨i,j,rfl,rfl,⟨c.1,by lia,oT c.2.2⟩,b.ok_now f bU⟩;rw[if_neg c]at b;exact b.elim
 |BitAnd=>exact JK m s n H _ _ u z Q I g l ⟨i,j,rfl,rfl,d.ok_now f bU⟩
 |BitOr=>exact Nr m s n H _ _ u z Q I g l ⟨i,j,rfl,rfl,d.ok_now f bU⟩
 |BitXor=>exact JL m s n H _ _ u z Q I g l ⟨i,j,rfl,rfl,d.ok_now f bU⟩
 |_=>exact ba d
 unfold Rep at r;obtain⟨p,M,rfl,C,t⟩:=r;unfold Rep at o;obtain⟨q,L,rfl,J,A⟩:=o;cases op with
 |Add=>
  have b:RK X.K ad G H (if xs.length+ys.length<=LIM then R.ow (xs++ys)else .bad) Q E:=d;by_cases c:xs.length+ys.length<=LIM;rw[if_pos c]at b;cases (show u=qh p from g);cases (show z=qh q from l);exact F5 I (f.seq C) (f.seq J) (by rw[t.length,A.length];exact Kc c) λa B=>b.ow_new f (t.append A) B;rw[if_neg c]at b;exact b.elim
 |_=>exact ba d
 unfold Rep at r o;subst r;subst o;cases op with
 |Add=>
  have b:RK X.K ad G H (if x.length<=LIM/\y.length<=LIM then R.ok (.str (x++y))else .bad) Q E:=d;by_cases c:x.length<=LIM/\y.length<=LIM;rw[if_pos c]at b;exact xH m s n H _ _ u z Q I g l ⟨x,y,rfl,rfl,om (Nat.add_le_add c.1 c.2) (by decide),b.ok_now f eV⟩;rw[if_neg c]at b;exact b.elim
 |_=>exact ba d
def Em(ha:ME X ad a f)(hb:ME X ad b g):ME X ad (.BinOp a op b pos) (aT op f g):=by refine λj s m H Q I c=>c.el λG l E e d h i=>?_;exact wpAny_BinOp (zH (F7 op) ha hb I e d h i)
end
end SK
namespace L2
open PySem PySem.Spec PyProof.Rows
section
variable {κ:Type} [DecidableEq κ]
noncomputable def lY(kvs:L1 (κ×V))(k:κ):L7 V:=(kvs.find? λkv=>decide (kv.1=k)).map (·.2)
def putK(kvs:L1 (κ×V))(k:κ)(v:V):L1 (κ×V):=
 if(kvs.any λkv=>decide (kv.1=k))=qz then kvs.map (λkv=>if kv.1=k then(kv.1,v)else kv)else kvs++[(k,v)]
noncomputable def dropK(kvs:L1 (κ×V))(k:κ):L1 (κ×V):=kvs.filter λkv=>decide (kv.1≠k)
def Cs{k:κ}:lY ([]:L1 (κ×V)) k=qw:=rfl
def jC{p:κ×V}{r:L1 (κ×V)}{k:κ}(e:p.1=k):lY (p::r) k=pi p.2:=by simp[lY,lh,e]
def hW{p:κ×V}{r:L1 (κ×V)}{k:κ}(e: ¬p.1=k):lY (p::r) k=lY r k:=by simp[lY,lh,e]
theorem vD(k:κ): ∀kvs:L1 (κ×V),(kvs.any λkv=>decide (kv.1=k))=(lY kvs k).isSome
 |[]=>rfl
 |p::r=>by
  rw[nq];by_cases e:p.1=k;simp only[jC e,decide_eq_true e,Bool.true_or,Option.isSome_some];rw[hW e,decide_eq_false e,Bool.false_or];exact vD k r
def gC(kvs:L1 (κ×V))(k:κ)(v:V):(putK kvs k v).length<=kvs.length+1:=by unfold putK;split;rw[aq];lia;rw[bo,bq,List.length_nil];lia
def mZ.isSome_eq{o}{u}(r:mZ o u):o.isSome=u.isSome:=by rcases o with _|_;rcases u with _|_;rfl;exact(show False from r).elim;rcases u with _|_;exact(show False from r).elim;rfl
theorem mZ.getD{o}{u}{d}{d'}(r:mZ o u)(rd:bG d d'):bG (o.getD d) (u.getD d'):=by rcases o with _|_;rcases u with _|_;exact rd;exact(show False from r).elim;rcases u with _|_;exact(show False from r).elim;exact r
def KV.val{kvs:L1 (κ×V)}{vs:L1 (κ×Value)}(r:KV kvs vs)(k:κ):mZ (lY kvs k) (valueAt vs k):=by
 unfold KV at r;induction r with
 |nil=>exact qa
 |@cons p q i a h t f=>
  obtain⟨d,g⟩:=h;by_cases e:p.1=k;have c:q.1=k:=d.symm.trans e;have b:valueAt (q::a) k=pi q.2:=by simp[valueAt,lh,c]
  rw[jC e,b];exact g;have c: ¬q.1=k:=λz=>e (d.trans z);have b:valueAt (q::a) k=valueAt a k:=by simp[valueAt,lh,c]
  rw[hW e,b];exact f
theorem KV.any{kvs:L1 (κ×V)}{vs:L1 (κ×Value)}(r:KV kvs vs)(k:κ):(kvs.any λkv=>decide (kv.1=k))=vs.any λkv=>decide (kv.1=k):=by
 unfold KV at r;induction r with
 |nil=>rfl
 |cons h t a=>rw[nq,nq,a,h.1]
def KV.repl{kvs:L1 (κ×V)}{vs:L1 (κ×Value)}(r:KV kvs vs)(k:κ){y:V}{u:Value}(ry:bG y u):
  KV (kvs.map λkv=>if kv.1=k then(kv.1,y)else kv) (vs.map λkv=>if kv.1=k then(kv.1,u)else kv):=by
 unfold KV at r ⊢;induction r with
 |nil=>exact .nil
 |@cons p q d f h t b=>
  rw[ni,ni];refine .cons ?_ b;obtain⟨a,c⟩:=h;by_cases e:p.1=k;rw[if_pos e,if_pos (a.symm.trans e)];exact⟨a,ry⟩;rw[if_neg e,if_neg (λz=>e (a.trans z))];exact⟨a,c⟩
def KV.put{kvs:L1 (κ×V)}{vs:L1 (κ×Value)}(r:KV kvs vs)(k:κ){y:V}{u:Value}(ry:bG y u):KV (putK kvs k y) (stored vs k u):=by unfold putK stored;rw[r.any k];by_cases e:(vs.any λa=>decide (a.1=k))=qz;rw[if_pos e,if_pos e];exact r.repl k ry;rw[if_neg e,if_neg e];exact Paired.snoc r ⟨rfl,ry⟩
def KV.drop{kvs:L1 (κ×V)}{vs:L1 (κ×Value)}(r:KV kvs vs)(k:κ):KV (dropK kvs k) (without vs k):=by
 unfold KV at r ⊢;unfold dropK without;induction r with
 |nil=>exact .nil
 |@cons p q i j h t d=>
  obtain⟨c,f⟩:=h;rw[kc,kc];by_cases e:p.1=k;have a: ¬decide (p.1≠k)=qz:=by simp[e]
  have b: ¬decide (q.1≠k)=qz:=by simp[c.symm.trans e]
  rw[if_neg a,if_neg b];exact d;have g: ¬q.1=k:=λz=>e (c.trans z);have a:decide (p.1≠k)=qz:=by simp[e]
  have b:decide (q.1≠k)=qz:=by simp[g]
  rw[if_pos a,if_pos b];exact .cons ⟨c,f⟩ d
def KV.keys{kvs:L1 (κ×V)}{vs}(r:KV kvs vs):kvs.map (·.1)=vs.map (·.1):=by
 unfold KV at r;induction r with
 |nil=>rfl
 |cons h t a=>rw[ni,ni,a,h.1]
theorem KV.length{kvs:L1 (κ×V)}{vs}(r:KV kvs vs):kvs.length=vs.length:=ng r
def Ct(kvs:L1 (κ×V))(k:κ):(dropK kvs k).length<=kvs.length:=List.length_filter_le _ _
end
def nA(r:bG (kV k) u):(bJ P w).is k u=qz:=by rcases k with i|x;obtain⟨t,e⟩:=(show ∃t,u=qf i t from r);subst e;exact tD P w i t;obtain⟨t,e⟩:=(show ∃t,u=qg x t from r);subst e;exact lF P w x t
theorem rD{P}{w}: ∀{ks} {us},cD (ks.map kV) us->ItemsAre (bJ P w) ks us
 |[],_,r=>by rw[oz]at r;cases r;exact .nil
 |k::ks,_,r=>by
  rw[ni]at r;cases r with
  |cons h t=>exact .cons (nA h) (rD t)
abbrev KT(H:Hp):L1 (L1 Key×V)->L1 (L1 Key×Addr×Value)->Prop:=Paired λp q=>p.1=q.1/\H q.2.1=pi (.tup (p.1.map kV))/\bG p.2 q.2.2
def KT.val(r:KT H kvs xs)k:mZ (lY kvs k) ((atKey xs k).map (·.2)):=by
 induction r with
 |nil=>exact qa
 |@cons p q i a h t f=>
  obtain⟨d,_,g⟩:=h;by_cases e:p.1=k;have c:q.1=k:=d.symm.trans e;have b:atKey (q::a) k=pi q.2:=by simp[atKey,lh,c]
  rw[jC e,b];exact g;have c: ¬q.1=k:=λz=>e (d.trans z);have b:atKey (q::a) k=atKey a k:=by simp[atKey,lh,c]
  rw[hW e,b];exact f
def KT.repl(r:KT H kvs xs)k(ry:bG y u):
  KT H (kvs.map λkv=>if kv.1=k then(kv.1,y)else kv) (xs.map (putAt k u)):=by
 induction r with
 |nil=>exact .nil
 |@cons p q f g h t d=>
  rw[ni,ni];refine .cons ?_ d;obtain⟨a,b,c⟩:=h;unfold putAt;by_cases e:p.1=k;rw[if_pos e,if_pos (a.symm.trans e)];exact⟨a,b,ry⟩;rw[if_neg e,if_neg (λz=>e (a.trans z))];exact⟨a,b,c⟩
def KT.put(r:KT H kvs xs)k(hb:H b=pi (.tup (k.map kV)))(ry:bG y u):
  KT H (putK kvs k y) (storedH xs k b u):=by
 have e:(kvs.any λa=>decide (a.1=k))=(atKey xs k).isSome:=by
  rw[vD,(r.val k).isSome_eq,jk]
 unfold putK storedH;rw[e];by_cases q:(atKey xs k).isSome=qz;rw[if_pos q,if_pos q];exact r.repl k ry;rw[if_neg q,if_neg q];exact Paired.snoc r ⟨rfl,hb,ry⟩
def KT.keeps(r:KT H kvs xs)(ht: ∀b ys,H b=pi (.tup ys)->H' b=pi (.tup ys)):KT H' kvs xs:=
 Paired.mapP r λ_ _ z=>⟨z.1,ht _ _ z.2.1,z.2.2⟩
def Kd(ok:HOk P w H h)(e:Rd H a u):ObjOk P w H h a u:=e.ok ok
def jW(ok:HOk P w H h)(e:Rd H a (.dK kvs)):kvs.length<=sizeLine/\(a==sysModules)=q7/\∃vs,KV kvs vs/\h.DictOf (bJ P w) a vs:=
 show ObjOk P w H h a (.dK kvs) from Kd ok e
def zI(ok:HOk P w H h)(e:H a=pi (.dK kvs)):kvs.length<=sizeLine/\(a==sysModules)=q7/\∃vs,KV kvs vs/\h.DictOf (bJ P w) a vs:=jW ok (.inl e)
def lZ(ok:HOk P w H h)(e:H a=pi (.tup (ks.map kV))):(tupleKind (bJ P w)).is h ks a:=by obtain⟨_,b,r,⟨o,c,f,n,d⟩,_⟩:=(show ObjOk P w H h a (.tup (ks.map kV)) from ok a _ e);exact⟨o,b.toArray,n,c,f,d,by simpa using rD r⟩
def rE(ok:HOk P w H h)(e:Rd H a (.dT kvs)):kvs.length<=sizeLine/\(a==sysModules)=q7/\
  ∃xs,KT H kvs xs/\h.DictOfH (tupleKind (bJ P w)) a xs:=by
 obtain⟨z,y,xs,r,o,f,j,d,s,g,u,i⟩:=(show ObjOk P w H h a (.dT kvs) from Kd ok e);refine⟨z,y,xs,r,o,f,j,d,s,g,u,λx b=>?_,i⟩;have all: ∀{l:L1 (L1 Key×V)} {m:L1 (L1 Key×Addr×Value)},KT H l m->∀x∈m,(tupleKind (bJ P w)).is h x.1 x.2.1:=by
  intro l m q;induction q with
  |nil=>intro x b;exact nomatch b
  |@cons p q v A c t n=>
   intro x b;rcases av.mp b with e|b;subst e;exact lZ ok (by rw[<-c.1];exact c.2.1);exact n x b
 exact all r x b
def NO(ok:HOk P w H h)(e:H a=pi (.dT kvs)):kvs.length<=sizeLine/\(a==sysModules)=q7/\
  ∃xs,KT H kvs xs/\h.DictOfH (tupleKind (bJ P w)) a xs:=rE ok (.inl e)
def pZ(H:Hp)(a:Addr)(y:V)(r:L7 V):Prop:=
 (∃kvs k,Rd H a (.dK kvs)/\y=kV k/\r=lY kvs k)\/∃kvs k b,Rd H a (.dT kvs)/\y= .ref b/\H b=pi (.tup (k.map kV))/\r=lY kvs k
def F8(H:Hp)(a:Addr)(y v:V)(H':Hp):Prop:=
 (∃kvs k,H a=pi (.dK kvs)/\y=kV k/\kvs.length<sizeLine/\H'=upd H a (.dK (putK kvs k v)))\/
 ∃kvs k b,H a=pi (.dT kvs)/\y= .ref b/\H b=pi (.tup (k.map kV))/\kvs.length<sizeLine/\H'=upd H a (.dT (putK kvs k v))
theorem pZ.k{k}(e:H a=pi (.dK kvs)):pZ H a (kV k) (lY kvs k):=.inl ⟨kvs,k,.inl e,rfl,rfl⟩
theorem F8.k{k}(e:H a=pi (.dK kvs))(hl:kvs.length<sizeLine):F8 H a (kV k) v (upd H a (.dK (putK kvs k v))):=.inl ⟨kvs,k,e,rfl,hl,rfl⟩
section
variable{σ:St}{E:ce}
def Inv.bigK(I:Inv X cc σ H s):sysModules<s.z:=by have h:mainGlobals<s.z:=(I.mod.glob.keeps I.bk).lt;exact Nat.lt_trans (by decide) h
def zJ{Q:ce}(hu:A.units+1<cLine)(I:Inv X cc σ H s)(g:pZ H a y (pi v))(ry:bG y u)(h: ∀w' s',Inv X cc σ H s'->bG v w'->Q w' s'):
  wpAny (model X.prog X.w) A (getItem (.ref a) u) Q E s:=by
 rcases g with ⟨kvs,k,e,f,l⟩|⟨kvs,k,b,e,f,m,l⟩;subst f;obtain⟨z,q,t,d,dd⟩:=jW I.hok e;obtain⟨w',i,c⟩:=mZ.some_of (v:=v) (o:=valueAt t k) (by rw[l];exact d.val k);exact wpAny_getItem_of (nA ry) dd.mapOf i (h w' _ (I.tok _) c);subst f;cases (show u=qh b from ry);obtain⟨z,q,r,d,dd⟩:=rE I.hok e;obtain⟨w',i,c⟩:=mZ.some_of (v:=v) (o:=(atKey r k).map (·.2)) (by rw[l];exact d.val k);obtain⟨p,n,j⟩:=zMd i;refine wpAny_getItem_heap (tupleKind_room_in1 hu) (lZ I.hok m) dd n ?_;rw[j];exact h w' _ (I.tok _) c
def O9{Q:ce}(hu:A.units+1<cLine)(I:Inv X cc σ H s)(g:pZ H a y o)(ry:bG y u)(h: ∀s',Inv X cc σ H s'->Q (.bool o.isSome) s'):
  wpAny (model X.prog X.w) A (compareOp .In u (.ref a)) Q E s:=by
 rcases g with ⟨kvs,k,e,f,l⟩|⟨kvs,k,b,e,f,i,l⟩;subst f;obtain⟨z,d,m,c,dd⟩:=jW I.hok e;refine wpAny_in_of (nA ry) d dd.mapOf ?_;rw[<-(c.val k).isSome_eq, <-l];exact h _ (I.tok _);subst f;cases (show u=qh b from ry);obtain⟨z,d,j,c,dd⟩:=rE I.hok e;refine wpAny_in_heap (tupleKind_room_in1 hu) (lZ I.hok i) d dd ?_;have q:=(c.val k).isSome_eq;rw[jk]at q;rw[<-q, <-l];exact h _ (I.tok _)
def zK{Q:ce}(hu:A.units+1<cLine)(I:Inv X cc σ H s)(g:pZ H a y o)(ry:bG y u)(h: ∀s',Inv X cc σ H s'->Q (.bool (!o.isSome)) s'):
  wpAny (model X.prog X.w) A (compareOp .NotIn u (.ref a)) Q E s:=by
 rcases g with ⟨kvs,k,e,f,l⟩|⟨kvs,k,b,e,f,i,l⟩;subst f;obtain⟨z,d,m,c,dd⟩:=jW I.hok e;refine wpAny_notIn_of (nA ry) d dd.mapOf ?_;rw[<-(c.val k).isSome_eq, <-l];exact h _ (I.tok _);subst f;cases (show u=qh b from ry);obtain⟨z,d,j,c,dd⟩:=rE I.hok e;refine wpAny_notIn_heap (tupleKind_room_in1 hu) (lZ I.hok i) d dd ?_;have q:=(c.val k).isSome_eq;rw[jk]at q;rw[<-q, <-l];exact h _ (I.tok _)
def jX(I:Inv X cc σ H s)(mu:Mut (H a))(hs:oq a s.heap h')(he: ∃q,h'.get? a=pi q)(new:ObjOk X.prog X.w (upd H a ob) h' a ob):
  Inv X cc σ (upd H a ob) {s with heap:=h',toks:=t'}:=
 I.write (x:=a) (e:=a) mu (.inl rfl) (λb q c z=>(hs.2 b c).trans z) he new
def nJ(z:kvs.length<=sizeLine)(hd:(a==sysModules)=q7)(rel:KV kvs vs)(dd:h'.DictOf (bJ P w) a vs):
  ObjOk P w H' h' a (.dK kvs):=⟨z,hd,vs,rel,dd⟩
def rF(hu:A.units+1<cLine)(I:Inv X cc σ H s)(g:F8 H a y v H')(ry:bG y u)(rv:bG v r)(h: ∀s',Inv X cc σ H' s'->Q () s'):
  wpAny (model X.prog X.w) A (setItem (.ref a) u r) Q E s:=by
 rcases g with ⟨kvs,k,e,m,l,p⟩|⟨kvs,k,b,e,m,x,l,p⟩;subst m p;obtain⟨z,o,S,d,dd⟩:=zI I.hok e;have t:S.length<=sizeLine:=by rw[<-d.length];exact z
 have j:(putK kvs k v).length<=sizeLine:=by have:=gC kvs k v;lia
 refine wpAny_setItem_pairs (hsz:=t) (nA ry) dd λC f n=>h _ ?_;have N: ∃q,C.get? a=pi q:=let ⟨q,_,_,i,_⟩:=f;⟨q,i⟩;exact jX I (by rw[e];exact qa) n N (nJ j o (d.put k rv) f);subst m p;cases (show u=qh b from ry);obtain⟨z,o,M,d,dd⟩:=NO I.hok e;have t:M.length<=sizeLine:=by rw[<-ng d];exact z
 have j:(putK kvs k v).length<=sizeLine:=by have:=gC kvs k v;lia
 refine wpAny_setItem_heap (hsz:=t) (tupleKind_room_in1 hu) (lZ I.hok x) dd λC f n=>h _ ?_;obtain⟨q,G,L,i,O,J,T,_,K⟩:=f;refine jX I (by rw[e];exact qa) n ⟨q,i⟩ ⟨j,o,_,(d.put k x rv).keeps λc U B=>?_,q,G,L,i,O,J,T,K⟩;rw[aC (Ng B e (λz=>nomatch z))];exact B
end
section
variable{σ:St}{E:ce}
def NP{Q:ce}(I:Inv X cc σ H s)(e:H a=pi (.dK kvs))(ry:bG (kV k) u)(l:lY kvs k=pi v)(hm:more=[]\/∃x,more=[x])(h: ∀w' s',Inv X cc σ (upd H a (.dK (dropK kvs k))) s'->bG v w'->Q w' s'):wpAny (model X.prog X.w) A (call (.builtin "dict.pop") (.ref a::u::more)) Q E s:=by
 obtain⟨z,j,f,b,dd⟩:=zI I.hok e;obtain⟨w',g,d⟩:=mZ.some_of (v:=v) (o:=valueAt f k) (by rw[<-l];exact b.val k);have p:(keyPart u).isSome=qz:=by
  rcases k with i|x;obtain⟨t,q⟩:=(show ∃t,u=qf i t from ry);subst q;rfl;obtain⟨t,q⟩:=(show ∃t,u=qg x t from ry);subst q;rfl
 have y:argsOk "dict.pop" ⟨.ref a::u::more,[]⟩:=by
  rcases hm with q|⟨x,q⟩;subst q;exact PySem.F.args_dict_pop_2 _ _;subst q;exact PySem.F.args_dict_pop_3 _ _ _
 refine call_meetsIn PySem.F.slot_dict_pop dd.typeIs PySem.F.entry_dict_pop y (meets_dict_pop_there (bJ X.prog X.w) a (nA ry) more hm p)
  ⟨f,w',dd,by rw[<-b.length];exact z,g,λm c r=>h w' _ ?_ d⟩
 have n: ∃q,m.get? a=pi q:=let ⟨q,_,_,hq,_⟩:=c;⟨q,hq⟩;exact jX I (by rw[e];exact qa) r n (nJ (om (Ct kvs k) z) j (b.drop k) c)
end
def NQ(i:Expr):Prop:= ∀ov iv,subscripted i q7 ov iv=operate [ov,iv] (getItem ov iv)
def F9{E:ce}{T id}{Q:ce}(hl:typeLookup (.type T) "__getitem__"=pure (pi (.builtin id)))(hs:NQ slice)(h:wpAny (model prog w) A (eval value env) (λo s₁=>wpAny (model prog w) A (eval slice env) (λi s₂=>s₂.TypeIs o T/\wpAny (model prog w) A (getItem o i) Q E s₂) E s₁) E s):
  wpAny (model prog w) A (eval (.Subscript value slice pos) env) Q E s:=by
 refine Subscript_ (wpAny_mono h (λo s₁ e=>wpAny_mono e (λi s₂ a=>?_) λ_ _ x=>x) λ_ _ x=>x);obtain⟨f,a⟩:=a;unfold subscriptTail;refine aa ?_;rw[getitemInPython_of_ne f.not_modules];refine aa (wpAny_specialOf f hl ?_);have c:wpAny (model prog w) A (subscripted slice q7 o i) (λr b=>wpAny (model prog w) A (letTemporaryGo value o r >>= λ_=>pure r) Q E b) E s₂:=by
  rw[hs o i];exact wpAny_operating (wpAny_mono a (λr b d=>aa (wpAny_letTemporaryGo (ac d))) λ_ _ x=>x)
 first
  |exact ac (aa c)
  |exact aa (ac (aa c))
  |exact aa c
def t0{σ:St}(I:Inv X cc σ H s)(g:pZ H a y o):s.TypeIs (.ref a) "dict":=by rcases g with ⟨kvs,k,e,_,_⟩|⟨kvs,k,b,e,_,_,_⟩;obtain⟨_,_,d,_,dd⟩:=jW I.hok e;exact dd.typeIs;obtain⟨_,_,c,_,dd⟩:=rE I.hok e;exact dd.typeIs
def NR(td ty:TE):TE:=λσ H Q=>td σ H λx H1=>ty σ H1 λy H2=>∃a v,x= .ref a/\pZ H2 a y (pi v)/\Q v H2
def P7(ty td:TE):TE:=λσ H Q=>ty σ H λy H1=>td σ H1 λx H2=>∃a o,x= .ref a/\pZ H2 a y o/\Q (.bl o.isSome) H2
def Gb(ty td:TE):TE:=λσ H Q=>ty σ H λy H1=>td σ H1 λx H2=>∃a o,x= .ref a/\pZ H2 a y o/\Q (.bl (!o.isSome)) H2
def NS(td ty tv:TE):TS:=λD σ H=>tv σ H λv H1=>td σ H1 λx H2=>ty σ H2 λy H3=>∃a H4,x= .ref a/\F8 H3 a y v H4/\D.nx σ H4
def Gc(hu:X.A.units+1<cLine)(ho:PE X o td)(hi:PE X i ty)(hs:NQ i):PE X (.Subscript o i pos) (NR td ty):=by intro c s e H Q I h;refine F9 PySem.F.slot_dict_getitem.lookup hs (thn (ho c s e H _ I h) λu r ⟨x,q,n,p,q1⟩=>thn (hi c r e q _ n q1) λiv t ⟨y,m,d,j,a,v,ex,g,l⟩=>?_);subst ex;obtain rfl:u=qh a:=p;exact⟨t0 d g,zJ hu d g j λz w f b=>⟨v,m,f,b,l⟩⟩
def Ke(hu:X.A.units+1<cLine)(hi:PE X i ty)(ho:PE X o td):PC X .In i o (P7 ty td):=by intro b s c H Q I h;refine thn (hi b s c H _ I h) λiv r ⟨y,q,m,e,q1⟩=>thn (ho b r c q _ m q1) λu t ⟨x,l,n,p,a,f,ex,g,j⟩=>?_;subst ex;obtain rfl:u=qh a:=p;exact O9 hu n g e λv d=>⟨.bl f.isSome,l,d,rfl,j⟩
def zL(hu:X.A.units+1<cLine)(hi:PE X i ty)(ho:PE X o td):PC X .NotIn i o (Gb ty td):=by intro b s c H Q I h;refine thn (hi b s c H _ I h) λiv r ⟨y,q,m,e,q1⟩=>thn (ho b r c q _ m q1) λu t ⟨x,l,n,p,a,f,ex,g,j⟩=>?_;subst ex;obtain rfl:u=qh a:=p;exact zK hu n g e λv d=>⟨.bl (!f.isSome),l,d,rfl,j⟩
def zM(hu:X.A.units+1<cLine)(ho:PE X o td)(hi:PE X i ty)(hv:PE X value tv)(hs:swapsWith value (pi (.Subscript o i pos')) pos.line X.env=pure q7):
  PS X (.Assign [.Subscript o i pos'] value pos) (NS td ty tv):=by
 intro c s b H D I h;refine wpAny_Assign_Subscript (thn (hv c s b H _ I h) λr C ⟨v,B,q,l,q1⟩=>thn (ho c C b B _ q q1) λu n ⟨x,m,w,z,j⟩=>thn (hi c n b m _ w j) λiv E ⟨y,J,d,e,a,f,ex,g,t⟩=>?_) hs;subst ex;obtain rfl:u=qh a:=z;exact rF hu d g e l λG p=>⟨b,f,p,t⟩
def oU(h:Heap)(hb:sysModules<h.objs.size):ObjOk P w H (h.push {cls:=.type "dict",data:=.dict #[]}) h.objs.size (.dK []):=
 ⟨bu _,beq_eq_false_iff_ne.mpr (qu (bh hb)),[],.nil,Heap.DictOf.new h⟩
def Kf:TE:=λ_ H Q=>∀p,H p=qw->Q (.ref p) (upd H p (.dK []))
def vE:PE X (.Dict [] [] pos) Kf:=λb s c H Q I h=>
 wpAny_Dict_empty ⟨.ref s.z,_,I.laid (a:=s.z) (o:=.dK []) (t':=s.toks) (λ_ _ q=>ae _ q) (aj _) (oU s.heap I.bigK),rfl,h _ (I.hok.fresh (aj _))⟩
def zN:L1 (TE×TE)->St->Hp->(L1 (V×V)->Hp->Prop)->Prop
 |[],_,H,Q=>Q [] H
 |(tk,tv)::r,σ,H,Q=>tk σ H λx H1=>tv σ H1 λy H2=>zN r σ H2 λps H3=>Q ((x,y)::ps) H3
abbrev VV:L1 (V×V)->L1 (Value×Value)->Prop:=Paired λp q=>bG p.1 q.1/\bG p.2 q.2
def PPs(X:Cx)(pos:Pos)(keys:L1 (L7 Expr))(values:L1 Expr)(trs:L1 (TE×TE)):Prop:=
 ∀(cc:cf) (s:Shared) (σ:St) (H:Hp) (Q:L1 (V×V)->Hp->Prop),Inv X cc σ H s->zN trs σ H Q->
  X.wp (evalPairs (pairTrees keys values X.env pos)) (λvs s'=>∃ps H',Inv X cc σ H' s'/\VV ps vs/\Q ps H') X.xe s
def Gd:PPs X pos [] [] []:=λa s b H Q I h=>pairTrees_nil_walk ⟨[],H,I,.nil,h⟩
def vF(hk:PE X k tk)(hv:PE X v tv)(hr:PPs X pos ks vs trs):
  PPs X pos (pi k::ks) (v::vs) ((tk,tv)::trs):=λb s d H Q I h=>
 pairTrees_cons_walk (thn (hk b s d H _ I h) λu t ⟨x,q,m,o,q1⟩=>thn (hv b t d q _ m q1) λA l ⟨y,j,p,f,i⟩=>
  thn (hr b l d j _ p i) λw z a=>by obtain⟨g,r,e,c,n⟩:=a;exact⟨(x,y)::g,r,e,.cons ⟨o,f⟩ c,n⟩)
def jE(kvs more:L1 (Key×V)):L1 (Key×V):=more.foldl (λacc kv=>putK acc kv.1 kv.2) kvs
def KV.merge: ∀{more} {rs} {kvs} {vs},KV more rs->KV kvs vs->KV (jE kvs more) (merged vs rs):=by
 intro more rs kvs vs r;unfold KV at r;induction r generalizing kvs vs with
 |nil=>intro q;exact q
 |@cons p q c d h t b=>
  intro a;have e:KV (putK kvs p.1 p.2) (stored vs q.1 q.2):=by
   have:=a.put p.1 h.2;rw[<-h.1];exact this
  exact b e
theorem jF: ∀more kvs,(jE kvs more).length<=kvs.length+more.length
 |[],kvs=>by show kvs.length<=kvs.length+0;lia
 |p::r,kvs=>by
  have a:=jF r (putK kvs p.1 p.2);have b:=gC kvs p.1 p.2;show(jE (putK kvs p.1 p.2) r).length<=_;rw[bq];lia
theorem nL{P}{w}: ∀{kvs} {ws},VV (kvs.map λkv=>(kV kv.1,kv.2)) ws->∃rs,Carries (bJ P w) ws rs/\KV kvs rs
 |[],_,r=>by rw[oz]at r;cases r;exact⟨[],qa,.nil⟩
 |p::kvs,_,r=>by
  rw[ni]at r;cases r with
  |@cons a b f bs h t=>
   obtain⟨rs,c,q⟩:=nL (P:=P) (w:=w) t;obtain⟨e,d⟩:=b;exact⟨(p.1,d)::rs,⟨nA h.1,rfl,c⟩,.cons ⟨rfl,h.2⟩ q⟩
def NT(trs:L1 (TE×TE)):TE:=λσ H Q=>∀p,H p=qw->zN trs σ (upd H p (.dK [])) λps H2=>H2 p=pi (.dK [])/\∃kvs:L1 (Key×V),ps=kvs.map (λkv=>(kV kv.1,kv.2))/\kvs.length<=15/\Q (.ref p) (upd H2 p (.dK (jE [] kvs)))
def Ge(h:PPs X pos keys values trs)(hall:keys.all (·.isSome)=qz)(hl:keys.length=values.length)(h0:keys≠[])(h15:keys.length<=15):PE X (.Dict keys values pos) (NT trs):=by
 intro n s B H Q I q;have y:=I.hok.fresh (aj s.z);have u:=I.laid (a:=s.z) (o:=.dK []) (h':=s.heap.push {cls:=.type "dict",data:=.dict #[]}) (t':=s.toks) (λ_ _ q=>ae _ q) (aj _) (oU s.heap I.bigK);refine wpAny_Dict_walk (knd:=bJ X.prog X.w) hall hl h0 h15 (thn (h n _ B _ _ u (q _ y)) λE J d=>?_);obtain⟨C,G,g,f,e,kvs,r,lk,m⟩:=d;subst r;obtain⟨x,c,rk⟩:=nL (P:=X.prog) (w:=X.w) f;obtain⟨z,t,j,l,dd⟩:=zI g.hok e;cases l;refine⟨x,c,dd,λh' b p=>⟨.ref s.z,_,?_,rfl,m⟩⟩;have A:(jE [] kvs).length<=sizeLine:=by
  have i:=jF kvs [];rw[List.length_nil]at i;rw[sizeLine_eq];lia
 have v: ∃q,h'.get? s.z=pi q:=let ⟨q,_,_,hq,_⟩:=b;⟨q,hq⟩;exact jX g (by rw[e];exact qa) p v (nJ A t (rk.merge .nil) b)
structure M1(X:Cx)(o:Expr)(m:Str)(apos:Pos)(e:Expr)(cpos:Pos):Prop where
 base:attributeBase o m X.env (eval o X.env)=eval o X.env
 few:((backTo cpos (starEach [e] X.env)).all (λx=> !x.1)&&(backToKw cpos (keywordEach [] X.env)).all (λx=>x.1.isSome)
  &&decide (([e]:List Expr).length+([]:List Keyword).length+(if([]:List Keyword).isEmpty then 0 else 1)<30))=qz
 line:(apos.endLine==cpos.line)=qz
 trees:backTo cpos (starEach [e] X.env)=[(q7,eval e X.env)]
structure M2(X:Cx)(o:Expr)(m:Str)(apos:Pos)(e f:Expr)(cpos:Pos):Prop where
 base:attributeBase o m X.env (eval o X.env)=eval o X.env
 few:((backTo cpos (starEach [e,f] X.env)).all (λx=> !x.1)&&(backToKw cpos (keywordEach [] X.env)).all (λx=>x.1.isSome)
  &&decide (([e,f]:List Expr).length+([]:List Keyword).length+(if([]:List Keyword).isEmpty then 0 else 1)<30))=qz
 line:(apos.endLine==cpos.line)=qz
 trees:backTo cpos (starEach [e,f] X.env)=[(q7,eval e X.env),(q7,eval f X.env)]
def IsD(H:Hp)(a:Addr):Prop:=(∃kvs,Rd H a (.dK kvs))\/∃kvs,Rd H a (.dT kvs)
def zO{σ:St}(I:Inv X cc σ H s)(d:IsD H a):
  s.TypeIs (.ref a) "dict"/\(∀b,qh a= .ref b->∃ob,s.heap.get? b=pi ob/\ob.dict=qw)/\(a==sysModules)=q7:=by
 rcases d with ⟨kvs,e⟩|⟨kvs,e⟩;obtain⟨_,f,i,_,dd⟩:=jW I.hok e;refine⟨dd.typeIs,λb q=>?_,f⟩;cases q;obtain⟨ob,_,_,c,g,_⟩:=dd;exact⟨ob,c,g.2.1⟩;obtain⟨_,f,h,_,dd⟩:=rE I.hok e;refine⟨dd.typeIs,λb q=>?_,f⟩;cases q;obtain⟨ob,_,_,c,g,_⟩:=dd;exact⟨ob,c,g.2.1⟩
section
variable{σ:St}{E:ce}
def Kg{Q:ce}(hu:A.units+1<cLine)(I:Inv X cc σ H s)(g:pZ H a y o)(ry:bG y u)(h: ∀w' s',Inv X cc σ H s'->bG (o.getD .non) w'->Q w' s'):
  wpAny (model X.prog X.w) A (call (.builtin "dict.get") [.ref a,u]) Q E s:=by
 rcases g with ⟨kvs,k,e,f,l⟩|⟨kvs,k,b,e,f,j,l⟩;subst f;obtain⟨z,d,m,c,dd⟩:=jW I.hok e;refine call_meetsIn gr dd.typeIs f7 (e7 _ _) (meets_dict_get (bJ X.prog X.w) a (nA ry) d) ⟨_,dd.mapOf,h _ _ (I.tok _) ?_⟩;rw[l];exact(c.val k).getD rfl;subst f;cases (show u=qh b from ry);obtain⟨z,d,i,c,dd⟩:=rE I.hok e;refine call_meetsIn gr dd.typeIs f7 (e7 _ _) (meetsH_dict_get (tupleKind (bJ X.prog X.w)) a b d) ⟨tupleKind_room_in1 hu,k,i,lZ I.hok j,dd,h _ _ (I.tok _) ?_⟩;rw[l];exact(c.val k).getD rfl
def Kh{Q:ce}(hu:A.units+1<cLine)(I:Inv X cc σ H s)(g:pZ H a y o)(ry:bG y u)(rd:bG d r)(h: ∀w' s',Inv X cc σ H s'->bG (o.getD d) w'->Q w' s'):
  wpAny (model X.prog X.w) A (call (.builtin "dict.get") [.ref a,u,r]) Q E s:=by
 rcases g with ⟨kvs,k,e,i,l⟩|⟨kvs,k,b,e,i,m,l⟩;subst i;obtain⟨z,f,n,c,dd⟩:=jW I.hok e;refine call_meetsIn gr dd.typeIs f7 (PySem.F.args_dict_get_3 _ _ _) (meets_dict_get_default (bJ X.prog X.w) a (nA ry) f r) ⟨_,dd.mapOf,h _ _ (I.tok _) ?_⟩;rw[l];exact(c.val k).getD rd;subst i;cases (show u=qh b from ry);obtain⟨z,f,j,c,dd⟩:=rE I.hok e;refine call_meetsIn gr dd.typeIs f7 (PySem.F.args_dict_get_3 _ _ _) (meetsH_dict_get_default (tupleKind (bJ X.prog X.w)) a b f r) ⟨tupleKind_room_in1 hu,k,j,lZ I.hok m,dd,h _ _ (I.tok _) ?_⟩;rw[l];exact(c.val k).getD rd
end
def Ki(td ty:TE):TE:=λσ H Q=>td σ H λx H1=>∃a,x= .ref a/\IsD H1 a/\ty σ H1 λy H2=>∃o,pZ H2 a y o/\Q (o.getD .non) H2
def Kj(td ty tx:TE):TE:=λσ H Q=>td σ H λx H1=>∃a,x= .ref a/\IsD H1 a/\ty σ H1 λy H2=>tx σ H2 λz H3=>∃o,pZ H3 a y o/\Q (o.getD z) H3
def Eo(td ty:TE):TE:=λσ H Q=>td σ H λx H1=>∃a,x= .ref a/\IsD H1 a/\ty σ H1 λy H2=>∃kvs k v,H2 a=pi (.dK kvs)/\y=kV k/\lY kvs k=pi v/\Q v (upd H2 a (.dK (dropK kvs k)))
def Cu(hu:X.A.units+1<cLine)(ho:PE X o td)(he:PE X e ty)(m:M1 X o "get" apos e cpos):PE X (.Call (.Attribute o "get" apos) [e] [] cpos) (Ki td ty):=by intro f s j H Q I h;refine wpAny_Call_method m.base m.few m.line fj gr gu (thn (ho f s j H _ I h) λu B b=>?_);obtain⟨x,z,i,t,a,ex,d,q1⟩:=b;subst ex;obtain rfl:u=qh a:=t;obtain⟨w,q,_⟩:=zO i d;refine⟨w,q,?_⟩;rw[m.trees];refine f6 rfl (h8 (iw (thn (he f B j z _ i q1) λiv E ⟨y,r,v,n,C,g,p⟩=>jh ?_)));exact Kg hu v g n λJ G l c=>⟨_,r,l,c,p⟩
def Cv(hu:X.A.units+1<cLine)(ho:PE X o td)(he:PE X e ty)(hf:PE X f tx)(m:M2 X o "get" apos e f cpos):PE X (.Call (.Attribute o "get" apos) [e,f] [] cpos) (Kj td ty tx):=by
 intro j s i H Q I h;refine wpAny_Call_method m.base m.few m.line fj gr gu (thn (ho j s i H _ I h) λu v b=>?_);obtain⟨x,t,l,q,a,ex,d,q1⟩:=b;subst ex;obtain rfl:u=qh a:=q;obtain⟨r,E,_⟩:=zO l d;refine⟨r,E,?_⟩;rw[m.trees];refine f6 rfl (h8 (iw (thn (he j v i t _ l q1) λiv p ⟨y,n,K,B,C⟩=>
  iw (thn (hf j p i n _ K C) λO T ⟨z,M,w,L,S,g,J⟩=>jh ?_))))
 exact Kh hu w g B L λN U G c=>⟨_,M,G,c,J⟩
def Cw(ho:PE X o td)(he:PE X e ty)(m:M1 X o "pop" apos e cpos):PE X (.Call (.Attribute o "pop" apos) [e] [] cpos) (Eo td ty):=by intro g s f H Q I h;refine wpAny_Call_method m.base m.few m.line fj PySem.F.slot_dict_pop PySem.F.type_dict_pop (thn (ho g s f H _ I h) λu r b=>?_);obtain⟨x,q,i,n,a,ex,d,q1⟩:=b;subst ex;obtain rfl:u=qh a:=n;obtain⟨p,B,_⟩:=zO i d;refine⟨p,B,?_⟩;rw[m.trees];refine f6 rfl (h8 (iw (thn (he g r f q _ i q1) λiv G ⟨y,E,C,w,kvs,k,v,j,A,l,z⟩=>jh ?_)));subst A;exact NP C j w l (.inl rfl) λJ K t c=>⟨v,_,t,c,z⟩
section
variable{σ:St}{E:ce}
def Cy{Q:ce}(I:Inv X cc σ H s)(e:Rd H a (.dK kvs))(h: ∀p s',H p=qw->Inv X cc σ (upd H p (.dK kvs)) s'->Q (.ref p) s'):wpAny (model X.prog X.w) A (call (.type "dict") [.ref a]) Q E s:=by obtain⟨z,g,l,c,dd⟩:=jW I.hok e;refine kt_call_dict g dd (by rw[<-c.length];exact z) λj d i=>?_;refine h _ _ (I.hok.fresh (aj _)) (I.laid (a:=s.z) (o:=.dK kvs) (t':=s.toks) (λb q f=>?_) (aj _) (nJ z (beq_eq_false_iff_ne.mpr (qu (bh I.bigK))) c d));exact(i.2 b (bh (ah f))).trans (ae _ f)
end
section
variable {κ:Type} [DecidableEq κ]
end
end L2
namespace SK
open PySem PySem.Spec PyProof.Rows L2
section
variable{X:Cx}{ad:Ad}{cc:cf}{s:Shared}{σ:St}{H G:Hp}{E:Nat->Hp->Prop}{a b c:Expr}{f g h:F}
mutual
theorem fQ(I:Inv X cc σ H s)(hG:Same G H): ∀{d:D} {v:V} {u:Value},plain d=qz->Rep X.K ad G d v->bG v u->∃as,Reads s.heap u (eZ d) as
 |.non,v,u,_,h,r=>by
  unfold Rep at h;subst h;cases r;unfold eZ;exact⟨_,.none⟩
 |.bl b,v,u,_,h,r=>by
  unfold Rep at h;subst h;cases r;unfold eZ;exact⟨_,.bool b⟩
 |.int i,v,u,_,h,r=>by
  unfold Rep at h;subst h;obtain⟨t,rfl⟩:=r;unfold eZ;exact⟨_,.int i t⟩
 |.str x,v,u,_,h,r=>by
  unfold Rep at h;subst h;obtain⟨t,rfl⟩:=r;unfold eZ;exact⟨_,.str x t⟩
 |.tup ds,v,u,p,h,r=>by
  unfold Rep at h;obtain⟨a,w,rfl,q,c⟩:=h;cases r;obtain⟨e,g,⟨o,j,f,n,m⟩,_⟩:=I.tuple (hG.seqT q);obtain⟨as,l⟩:=iU I hG (by simpa[plain]using p) c g;unfold eZ;exact⟨_,.tuple j f m (by simpa using l)⟩
 |.lst ds,v,u,p,h,r=>by
  unfold Rep at h;obtain⟨a,w,rfl,q,c⟩:=h;cases r;obtain⟨e,g,⟨o,n,j,f,_,m⟩,_⟩:=I.list (hG.seq q);obtain⟨as,l⟩:=iU I hG (by simpa[plain]using p) c g;unfold eZ;exact⟨_,.list j f m (by simpa using l)⟩
 |.exc _,_,_,p,_,_=>by simp[plain]at p
 |.fn _,_,_,p,_,_=>by simp[plain]at p
theorem iU(I:Inv X cc σ H s)(hG:Same G H): ∀{ds:L1 D} {vs:L1 V} {us:L1 Value},cI ds=qz->aJ X.K ad G ds vs->cD vs us->∃as,ReadsAll s.heap us (gM ds) as
 |[],vs,us,_,h,r=>by
  unfold aJ at h;subst h;cases r;unfold gM;exact⟨_,.nil⟩
 |d::ds,vs,us,p,h,r=>by
  unfold aJ at h;obtain⟨v,i,rfl,g,c⟩:=h;have a:plain d=qz/\cI ds=qz:=by simpa[cI]using p
  cases r with
  |cons b f=>
   obtain⟨as,q1⟩:=fQ I hG a.1 g b;obtain⟨bs,e⟩:=iU I hG a.2 c f;unfold gM;exact⟨_,.cons q1 e⟩
end
def kW(h:i8 x y=qz):plain x=qz/\plain y=qz/\min (dep x) (dep y)<=60:=by unfold i8 at h;rw[aw,aw]at h;exact⟨h.1.1,h.1.2,of_decide_eq_true h.2⟩
def zP(hu:A.units+61<cLine)(I:Inv X cc σ H s)(hG:Same G H)(h:i8 x y=qz)(rx:Rep X.K ad G x v)(ry:Rep X.K ad G y w)(ru:bG v u)(rz:bG w z):
  SeqAt.EqAt A s u z (deq x y):=by
 obtain⟨a,b,e⟩:=kW h;obtain⟨d,q1⟩:=fQ I hG a rx ru;obtain⟨bs,c⟩:=fQ I hG b ry rz;rw[<-lW x y a b];exact SeqAt.eqAt_reads (eZ x) (eZ y) A s u z d bs q1 c (kM a) (kM b) (by rw[lV,lV];lia)
def nM(r:Rep X.K ad G x v):decide (v= .non)=qP x:=by rcases x with _|a|_|_|_|_|_|_|⟨_,_⟩;unfold Rep at r;subst r;rfl;unfold Rep at r;subst r;rfl;unfold Rep at r;subst r;rfl;unfold Rep at r;subst r;rfl;unfold Rep at r;obtain⟨p,_,rfl,_⟩:=r;rfl;unfold Rep at r;obtain⟨p,_,rfl,_⟩:=r;rfl;unfold Rep at r;obtain⟨p,rfl,_⟩:=r;rfl;unfold Rep at r;subst r;rfl;unfold Rep at r;obtain⟨p,_,_,rfl,_⟩:=r;rfl
theorem vG: ∀{ys} {vs} {us},aJ X.K ad G ys vs->cD vs us->∀u∈us, ∃d∈ys, ∃v,Rep X.K ad G d v/\bG v u
 |[],vs,us,h,r,u,hu=>by
  unfold aJ at h;subst h;cases r;cases hu
 |d::ds,vs,us,h,r,u,hu=>by
  unfold aJ at h;obtain⟨v,j,rfl,f,c⟩:=h;cases r with
  |cons a e=>
   rcases av.mp hu with rfl|hu;exact⟨d,.head _,v,f,a⟩;obtain⟨i,b,g,q⟩:=vG c e u hu;exact⟨i,.tail _ b,g,q⟩
theorem vH p q: ∀{ys} {vs} {us},aJ X.K ad G ys vs->cD vs us->(∀d∈ys, ∀v u,Rep X.K ad G d v->bG v u->q u=p d)->us.any q=ys.any p
 |[],vs,us,h,r,_=>by
  unfold aJ at h;subst h;cases r;rfl
 |d::ds,vs,us,h,r,k=>by
  unfold aJ at h;obtain⟨v,i,rfl,f,c⟩:=h;cases r with
  |cons a e=>
   rw[nq,nq,k d (.head _) v _ f a,vH p q c e λg b=>k g (.tail _ b)]
theorem nN p q: ∀{ys} {vs} {us},aJ X.K ad G ys vs->cD vs us->(∀d∈ys, ∀v u,Rep X.K ad G d v->bG v u->q u=p d)->us.countP q=ys.countP p
 |[],vs,us,h,r,_=>by
  unfold aJ at h;subst h;cases r;rfl
 |d::ds,vs,us,h,r,k=>by
  unfold aJ at h;obtain⟨v,i,rfl,f,c⟩:=h;cases r with
  |cons a e=>
   rw[List.countP_cons,List.countP_cons,k d (.head _) v _ f a,nN p q c e λg b=>k g (.tail _ b)]
theorem rH p q: ∀{ys} {vs} {us},aJ X.K ad G ys vs->cD vs us->(∀d∈ys, ∀v u,Rep X.K ad G d v->bG v u->q u=p d)->us.findIdx? q=ys.findIdx? p
 |[],vs,us,h,r,_=>by
  unfold aJ at h;subst h;cases r;rfl
 |d::ds,vs,us,h,r,k=>by
  unfold aJ at h;obtain⟨v,i,rfl,f,c⟩:=h;cases r with
  |cons a e=>
   rw[iz,iz,k d (.head _) v _ f a,rH p q c e λg b=>k g (.tail _ b)]
open Classical in
def Ep(hu:X.A.units+62<cLine)(I:Inv X cc σ H s)(hG:Same G H)(h:FP x ys=qz)(rx:Rep X.K ad G x v)(ru:bG v u)(r:aJ X.K ad G ys vs)(rv:cD vs its):
  ∃e,(∀y,y∈its.toArray->SeqAt.EqAt X.A.in1 s y u (e y))/\its.toArray.any e=(ys.any λy=>deq y x)/\its.countP e=(ys.countP λy=>deq y x)/\its.findIdx? e=ys.findIdx? λy=>deq y x:=by
 have ok: ∀d∈ys,i8 d x=qz:=λd b=>zAd h d b;have a: ∀d∈ys, ∀g c,Rep X.K ad G d g->bG g c->(decide (∃d' f,plain d'=qz/\Reads s.heap c (eZ d') f/\qc (eZ d') (eZ x)=qz))=deq d x:=λd b g c j l=>by
  obtain⟨i,m,_⟩:=kW (ok d b);obtain⟨f,q1⟩:=fQ I hG i j l;rw[<-lW d x i m];by_cases z:qc (eZ d) (eZ x)=qz;rw[z];exact decide_eq_true ⟨d,f,i,q1,z⟩;rw[Bool.not_eq_true]at z;rw[z];refine decide_eq_false ?_;rintro⟨d',as',p',q',z'⟩;have:=SeqAt.Reads.unique (eZ d) (eZ d') c f as' (kM i) q1 q';rw[<-this,z]at z';cases z'
 refine⟨λc=>decide (∃d' f,plain d'=qz/\Reads s.heap c (eZ d') f/\qc (eZ d') (eZ x)=qz),λy n=>?_,?_,nN _ _ r rv a,rH _ _ r rv a⟩;obtain⟨d,b,g,j,l⟩:=vG r rv y (by simpa using n);have:=zP (A:=X.A.in1) (by show X.A.units+1+61<_;lia) I hG (ok d b) j rx l ru;rw[<-a d b g y j l]at this;exact this;rw[List.any_toArray];exact vH _ _ r rv a
theorem rJ{x}: ∀{ks:L1 Str} {ds} {es:L1 (Key×V)},es.map (·.1)=ks.map qt->aJ X.K ad G ds (es.map (·.2))->(lY es (.inr x)=qw/\bI (ks.zip ds) x=qw/\ks.contains x=q7)\/∃v d,lY es (.inr x)=pi v/\bI (ks.zip ds) x=pi d/\Rep X.K ad G d v/\d∈ds/\ks.contains x=qz
 |[],ds,[],_,_=>.inl ⟨rfl,rfl,rfl⟩
 |[],_,_::_,h,_=>by simp at h
 |_::_,_,[],h,_=>by simp at h
 |k::ks,ds,(q,v)::es,h1,h2=>by
  rw[ni,ni]at h1;obtain⟨s,r⟩:=nr h1;rw[ni]at h2;rcases ds with _|⟨d,ds⟩;unfold aJ at h2;cases h2;unfold aJ at h2;obtain⟨u,t,o,m,l⟩:=h2;cases o;have a:q= .inr k:=s;subst a;by_cases z:k=x;subst z;exact .inr ⟨v,d,jC rfl,by simp[bI],m,.head _,by simp⟩;have i: ¬((qt k:Key)= .inr x):=λy=>z (by injection y);have g: ¬x=k:=λy=>z y.symm;rcases rJ (x:=x) r l with ⟨c,f,b⟩|⟨w,e,c,f,b,n,j⟩;exact .inl ⟨(hW (p:=(qt k,v)) i).trans c,by simpa[bI,z]using f,by simpa[g]using b⟩;exact .inr ⟨w,e,(hW (p:=(qt k,v)) i).trans c,by simpa[bI,z]using f,b,.tail _ n,by simpa[g]using j⟩
theorem zQ{A}(hu:A.units+61<cLine)(I:Inv X cc σ H s)(hG:Same G H){ls:L1 Str}{ws}{eb:L1 (Key×V)}{kb}(b1:eb.map (·.1)=ls.map qt)(b2:aJ X.K ad G ws (eb.map (·.2)))(b3:KV eb kb):
  ∀{ks:L1 Str} {ds} {ea:L1 (Key×V)} {ka},(∀d∈ds, ∀e∈ws,i8 d e=qz)->ea.map (·.1)=ks.map qt->aJ X.K ad G ds (ea.map (·.2))->KV ea ka->
   PySem.W.KeqHits A s kb ka ((ks.zip ds).all λp=>match bI (ls.zip ws) p.1 with|some w=>deq p.2 w|none=>q7)
 |[],ds,[],_,_,_,_,.nil=>.nil
 |[],_,_::_,_,_,h,_,_=>by simp at h
 |_::_,_,[],_,_,h,_,_=>by simp at h
 |k::ks,ds,(q,v)::es,(q',u)::ka,ok,h1,h2,.cons h3 h4=>by
  rw[ni,ni]at h1;obtain⟨J,B⟩:=nr h1;rw[ni]at h2;rcases ds with _|⟨d,ds⟩;unfold aJ at h2;cases h2;unfold aJ at h2;obtain⟨M,L,z,n,l⟩:=h2;cases z;obtain⟨E,i⟩:=h3;have b:q= .inr k:=J;have f:q=q':=E;subst f;subst b;have dO:=zQ hu I hG b1 b2 b3 (ks:=ks) (ds:=ds) (ea:=es) (ka:=ka) (λd o e r=>ok d (.tail _ o) e r) B l h4;rw[List.zip_cons_cons,List.all_cons];have a:=b3.val (.inr k);rcases rJ (x:=k) b1 b2 with ⟨c,g,_⟩|⟨w,e,c,g,m,t,_⟩;rw[c]at a;simp only[g,Bool.false_and];exact .miss (mZ.none_of a);rw[c]at a;obtain⟨y,C,j⟩:=mZ.some_of a;simp only[g];exact .hit C (zP hu I hG (ok d (.head _) e t) n m i j) dO
def Er{ks:L1 Str}{es:L1 (Key×V)}(h1:es.map (·.1)=ks.map qt)(h2:aJ X.K ad G ds (es.map (·.2))):(ks.zip ds).length=es.length:=by have a:=congrArg pp h1;have b:=h2.length;simp at a b;simp[<-a, <-b]
def Es(hu:X.A.units+62<cLine)(I:Inv X cc σ H s)(hG:Same G H)(rx:Rep X.K ad G x v)(ry:Rep X.K ad G y w)(ru:bG v u)(rz:bG w z)(hr:RK X.K ad G H (oM neg x y) Q E):
  X.wp (compareOp (if neg then .NotEq else .Eq) u z) (EP X cc σ Q) X.xe s:=by
 cases x<;>try exact ba hr
 cases y<;>try exact ba hr
 rename_i l h M g;have c:RK X.K ad G H (if(h.all λd=>g.all λe=>i8 d e)=qz then .ok (.bl (neg != Eg (l.zip h) (M.zip g)))else .bad) Q E:=hr;by_cases i:(h.all λd=>g.all λe=>i8 d e)=qz;rw[if_pos i]at c;unfold Rep at rx ry;obtain⟨a,U,ea,rfl,T,o,r⟩:=rx;obtain⟨b,Y,eb,rfl,O,B,j⟩:=ry;cases (show u=qh a from ru);cases (show z=qh b from rz);obtain⟨z1,C,ka,p,L⟩:=jW I.hok (.inr ⟨U,hG _ _ T⟩);obtain⟨z2,t,Z,m,J⟩:=jW I.hok (.inr ⟨Y,hG _ _ O⟩);have ok: ∀d∈h, ∀e∈g,i8 d e=qz:=λd N e S=>zAd (zAd i d N) e S;have f:=zQ (A:=X.A.in1) (by show X.A.units+1+61<_;lia) I hG B j m ok o r p;have n:ka.length=(l.zip h).length:=by rw[Er o r];exact(KV.length p).symm
 have q:Z.length=(M.zip g).length:=by rw[Er B j];exact(KV.length m).symm
 cases neg;refine PySem.W.keq_eq C t L J (by lia) (λ_=>f) ?_;rw[n,q];exact⟨.bl _,H,I,rfl,c.ok_now hG (by unfold Rep Eg;rw[Bool.false_bne]<;>rfl)⟩;refine PySem.W.keq_ne C t L J (by lia) (λ_=>f) ?_;rw[n,q];exact⟨.bl _,H,I,rfl,c.ok_now hG (by unfold Rep Eg;rw[Bool.true_bne]<;>rfl)⟩;rw[if_neg i]at c;exact c.elim
def Et(hu:X.A.units+1<cLine)(I:Inv X cc σ H s)(hG:Same G H)(rx:Rep X.K ad G (.str x) v)(ry:Rep X.K ad G (.dct ks ds) w)(ru:bG v u)(rz:bG w z)(hr:RK X.K ad G H (.ok (.bl (neg != ks.contains x))) Q E):
  X.wp (compareOp (if neg then .NotIn else .In) u z) (EP X cc σ Q) X.xe s:=by
 unfold Rep at rx ry;subst rx;obtain⟨a,o,b,rfl,g,i,h⟩:=ry;cases (show z=qh a from rz);have e:(lY b (.inr x)).isSome=ks.contains x:=by
  rcases rJ (x:=x) i h with ⟨d,_,f⟩|⟨_,_,d,_,_,_,f⟩;rw[d,f];rfl;rw[d,f];rfl
 have D:pZ H a (.str x) (lY b (.inr x)):=.inl ⟨b,.inr x,.inr ⟨o,hG _ _ g⟩,rfl,rfl⟩;cases neg;refine O9 hu I D ru λj c=>?_;rw[e];exact⟨.bl _,H,c,rfl,hr.ok_now hG (by unfold Rep;simp)⟩;refine zK hu I D ru λj c=>?_;rw[e];exact⟨.bl _,H,c,rfl,hr.ok_now hG (by unfold Rep;simp)⟩
def Gf:inS x y k= .bad\/∃i ks vs,x= .str i/\y= .dct ks vs:=by
 cases x<;>try exact .inl rfl
 cases y<;>try exact .inl rfl
 exact .inr ⟨_,_,_,rfl,rfl⟩
def vI(h:op= .Lt\/op= .Gt\/op= .GtE):eS op x y= .bad\/∃i j,x= .int i/\y= .int j:=by
 cases x<;>try (rcases h with rfl|rfl|rfl<;>exact .inl rfl)
 cases y<;>try (rcases h with rfl|rfl|rfl<;>exact .inl rfl)
 exact .inr ⟨_,_,rfl,rfl⟩
def Kk:eS .LtE x y= .bad\/(∃i j,x= .int i/\y= .int j)\/∃i j,x= .str i/\y= .str j:=by
 cases x<;>try exact .inl rfl
 all_goals cases y<;>try exact .inl rfl
 exact .inr (.inl ⟨_,_,rfl,rfl⟩);exact .inr (.inr ⟨_,_,rfl,rfl⟩)
def Kl(h:op= .Is\/op= .IsNot):eS op x y= .bad\/y= .non:=by
 cases y<;>try (rcases h with rfl|rfl<;>exact .inl rfl)
 exact .inr rfl
def gY op(hu:X.A.units+62<cLine):DOp X ad (compareOp op) (eS op):=by
 intro p s q H G x y v w u z Q E I f d b h l a;cases op with
 |Eq=>
  have c:RK X.K ad G H (if i8 x y then R.ok (.bl (deq x y))else oM q7 x y) Q E:=a;by_cases n:i8 x y=qz;rw[if_pos n]at c;obtain⟨o,m,C⟩:=kW n;obtain⟨B,q1⟩:=fQ I f o d h;obtain⟨bs,r⟩:=fQ I f m b l;exact SeqAt.compareEq_reads q1 r (kM o) (kM m) (by rw[lV,lV];lia) (by rw[lW x y o m];exact⟨.bl _,H,I,rfl,c.ok_now f dJ⟩);rw[if_neg n]at c;exact Es (neg:=q7) hu I f d b h l c
 |NotEq=>
  have c:RK X.K ad G H (if i8 x y then R.ok (.bl (!deq x y))else oM qz x y) Q E:=a;by_cases n:i8 x y=qz;rw[if_pos n]at c;obtain⟨o,m,C⟩:=kW n;obtain⟨B,q1⟩:=fQ I f o d h;obtain⟨bs,r⟩:=fQ I f m b l;exact SeqAt.neOverData X.prog X.w X.A X.xe s u z (eZ x) (eZ y) B bs _ q1 r (kM o) (kM m) (by rw[lV,lV];lia) (by rw[lW x y o m];exact⟨.bl _,H,I,rfl,c.ok_now f dJ⟩);rw[if_neg n]at c;exact Es (neg:=qz) hu I f d b h l c
 |Lt=>
  rcases vI (x:=x) (y:=y) (.inl rfl)with e|⟨i,j,rfl,rfl⟩;rw[e]at a;exact a.elim;unfold Rep at d b;subst d;subst b;exact Nt p s q H _ _ u z Q I h l ⟨_,_,rfl,rfl,a.ok_now f dJ⟩
 |LtE=>
  rcases Kk (x:=x) (y:=y)with e|⟨i,j,rfl,rfl⟩|⟨i,j,rfl,rfl⟩;rw[e]at a;exact a.elim;unfold Rep at d b;subst d;subst b;exact Nu p s q H _ _ u z Q I h l ⟨_,_,rfl,rfl,a.ok_now f dJ⟩;unfold Rep at d b;subst d;subst b;obtain⟨t,rfl⟩:=(show ∃t,u=qg i t from h);obtain⟨J,rfl⟩:=(show ∃t,z=qg j t from l);exact PySem.P.le_str ⟨.bl _,H,I,rfl,a.ok_now f dJ⟩
 |Gt=>
  rcases vI (x:=x) (y:=y) (.inr (.inl rfl))with e|⟨i,j,rfl,rfl⟩;rw[e]at a;exact a.elim;unfold Rep at d b;subst d;subst b;exact Nv p s q H _ _ u z Q I h l ⟨_,_,rfl,rfl,a.ok_now f dJ⟩
 |GtE=>
  rcases vI (x:=x) (y:=y) (.inr (.inr rfl))with e|⟨i,j,rfl,rfl⟩;rw[e]at a;exact a.elim;unfold Rep at d b;subst d;subst b;exact Nw p s q H _ _ u z Q I h l ⟨_,_,rfl,rfl,a.ok_now f dJ⟩
 |Is=>
  rcases Kl (x:=x) (y:=y) (.inl rfl)with e|rfl;rw[e]at a;exact a.elim;unfold Rep at b;subst b;exact JN p s q H _ _ u z Q I h l ⟨rfl,by rw[nM d];exact a.ok_now f dJ⟩
 |IsNot=>
  rcases Kl (x:=x) (y:=y) (.inr rfl)with e|rfl;rw[e]at a;exact a.elim;unfold Rep at b;subst b;exact FF p s q H _ _ u z Q I h l ⟨rfl,by rw[nM d];exact a.ok_now f dJ⟩
 |In=>
  have g:RK X.K ad G H (inS x y q7) Q E:=a;rcases Gf (x:=x) (y:=y) (k:=q7)with e|⟨i,ks,vs,rfl,rfl⟩;rw[e]at g;exact g.elim;exact Et (neg:=q7) (by lia) I f d b h l g
 |NotIn=>
  have g:RK X.K ad G H (inS x y qz) Q E:=a;rcases Gf (x:=x) (y:=y) (k:=qz)with e|⟨i,ks,vs,rfl,rfl⟩;rw[e]at g;exact g.elim;exact Et (neg:=qz) (by lia) I f d b h l g
end
def PE.imp(h:PE X e t)(k: ∀σ H Q,t' σ H Q->t σ H Q):PE X e t':=λa s σ H Q I w=>h a s σ H Q I (k σ H Q w)
def PT.imp(h:PT X e t)(k: ∀σ H Q,t' σ H Q->t σ H Q):PT X e t':=λa s σ H Q I w=>h a s σ H Q I (k σ H Q w)
def PW.imp(h:PW X e t)(k: ∀σ H Q,t' σ H Q->t σ H Q):PW X e t':=λb a s σ H Q I w=>h b a s σ H Q I (k σ H Q w)
def PS.imp(h:PS X e t)(k: ∀D σ H,t' D σ H->t D σ H):PS X e t':=λa s σ H D I w=>h a s σ H D I (k D σ H w)
def PSs.imp(h:PSs X e t)(k: ∀D σ H,t' D σ H->t D σ H):PSs X e t':=λa s σ H D I w=>h a s σ H D I (k D σ H w)
def PA.imp(h:PA X es t)(k: ∀σ H Q,t' σ H Q->t σ H Q):PA X es t':=λp a s σ H Q I w=>h p a s σ H Q I (k σ H Q w)
section
variable{X:Cx}{ad:Ad}{cc:cf}{s:Shared}{σ:St}{H G:Hp}{Q:VK}{E:Nat->Hp->Prop}{a b c:Expr}{f g h:F}
def fG{σ}{H}{Q Q'}(hG:Same G H)(hS:SL X.K ad G H ρ σ)(hx:XP X ad σ E)(hr:RK X.K ad G H ((f ρ).bind k) Q E)(q: ∀v d G1 H1,Step G H G1 H1->Rep X.K ad G1 d v->RK X.K ad G1 H1 (k d) Q E->Q' v H1):tE X ad f σ H Q':=by refine⟨G,ρ,E,hG,hS,hx,?_⟩;rcases e:f ρ with d|i|c|_;rw[e]at hr;exact λv G1 H1 a r=>q v d G1 H1 a r (RK.step hr a);rw[e]at hr;intro p j G1 H1 a n m h r;obtain⟨b,st2,g⟩:=dP (X:=X) (ad:=ad) a n m h r;exact q _ _ b H1 st2 g (RK.step hr st2);rw[e]at hr;exact hr;rw[e]at hr;exact hr
def zR(hx:XP X ad σ E)(st:Step G H G1 H1)(hS:SL X.K ad G H ρ σ){Q}(hr:RK X.K ad G1 H1 (f ρ) Q E):tE X ad f σ H1 Q:=⟨G1,ρ,E,st.gh,hS.step st,hx,hr⟩
def Km(ha:ME X ad a f):ME X ad (.UnaryOp .Not a pos) (m7 f):=by
 refine PE.imp (Jz ha) ?_;rintro m H Q ⟨G,l,E,e,c,g,h⟩;refine fG e c g h λv d i j b r k=>?_;cases d<;>try exact ba k
 unfold Rep at r;subst r;exact⟨_,rfl,k.ok_now b.gh dJ⟩
def Kn(ha:ME X ad a f):ME X ad (.UnaryOp .USub a pos) (MP f):=by
 refine PE.imp (Np JM ha) ?_;rintro m H Q ⟨G,l,E,e,c,g,h⟩;refine fG e c g h λv d i j b r k=>?_;cases d<;>try exact ba k
 unfold Rep at r;subst r;exact⟨_,rfl,k.ok_now b.gh bU⟩
def Ko{σ:St}{H}{Q}(h:tE X ad (kC f g) σ H Q):Jw (tE X ad f) (tE X ad g) σ H Q:=by
 obtain⟨G,n,E,i,c,e,j⟩:=h;refine fG i c e j λv d l m a r k=>?_;cases d<;>try exact ba k
 rename_i b;unfold Rep at r;subst r;refine⟨b,rfl,?_⟩;rcases b with _|_;exact B3 (k.ok_now a.gh dJ);exact y9 (zR e a c k)
def NU{σ:St}{H}{Q}(h:tE X ad (rOr f g) σ H Q):OR (tE X ad f) (tE X ad g) σ H Q:=by
 obtain⟨G,n,E,i,c,e,j⟩:=h;refine fG i c e j λv d l m a r k=>?_;cases d<;>try exact ba k
 rename_i b;unfold Rep at r;subst r;refine⟨b,rfl,?_⟩;rcases b with _|_;exact B3 (zR e a c k);exact y9 (k.ok_now a.gh dJ)
def Eu(ha:ME X ad a f)(hb:ME X ad (.BoolOp .And (b::r) pos) g):ME X ad (.BoolOp .And (a::b::r) pos) (kC f g):=PE.imp (Jy ha hb) λ_ _ _ h=>Ko h
def Kp(ha:ME X ad a f)(hb:ME X ad (.BoolOp .Or (b::r) pos) g):ME X ad (.BoolOp .Or (a::b::r) pos) (rOr f g):=PE.imp (Nj ha hb) λ_ _ _ h=>NU h
def Ev(hb:ME X ad b g):ME X ad (.BoolOp op [b] pos) g:=Jx hb
def NV{σ:St}{H}{Q}(h:tT X ad f σ H Q):tE X ad f σ H λx H1=>∃k,x= .bl k/\Q k H1:=by obtain⟨G,c,E,b,a,d,g,e⟩:=h;exact⟨G,c,E,b,a,d,e⟩
def Ew(ha:ME X ad a f)(he: ∀whole,isTrue a X.env whole=(do let v<-whole;standAt a.pos;holding [v] (truthy v))):MT X ad a f:=PT.imp (Ju ha he) λ_ _ _ h=>NV h
def iV{r:R}{k}(h:lX (r.bind k)):(∃d,r= .ok d/\lX (k d))\/(∃xs,r= .ow xs/\lX (k (.lst xs)))\/∃c,r= .ex c:=by rcases r with d|xs|c|_;exact .inl ⟨d,rfl,h⟩;exact .inr (.inl ⟨xs,rfl,h⟩);exact .inr (.inr ⟨c,rfl⟩);rcases h with ⟨_,h⟩|⟨_,h⟩<;>cases h
def dU: ¬lX .bad:=by rintro(⟨_,h⟩|⟨_,h⟩)<;>cases h
def Kq{σ:St}{H}{Q}(h:tT X ad (m7 f) σ H Q):OP (tT X ad f) σ H Q:=by
 obtain⟨G,i,E,o,l,m,g,n⟩:=h;rcases iV g with ⟨d,e,g⟩|⟨w,e,g⟩|⟨c,e⟩;cases d<;>try exact(dU g).elim
 rename_i b;refine⟨G,i,E,o,l,m,.inl ⟨b,e⟩,?_⟩;have a:RK X.K ad G H ((f i).bind λx=>match x with|.bl b=>.ok (.bl (!b))|_=>.bad) (λv j=>∃b,v= .bl b/\Q b j) E:=n;rw[e]at a ⊢;intro v p u t r;unfold Rep at r;subst r;obtain⟨y,s,q⟩:=a (.bl (!b)) p u t dJ;cases s;exact⟨b,rfl,q⟩;exact(dU g).elim;refine⟨G,i,E,o,l,m,.inr ⟨c,e⟩,?_⟩;have a:RK X.K ad G H ((f i).bind λx=>match x with|.bl b=>.ok (.bl (!b))|_=>.bad) (λv j=>∃b,v= .bl b/\Q b j) E:=n;rw[e]at a ⊢;exact a
def Ey(ha:MT X ad a f):MT X ad (.UnaryOp .Not a pos) (m7 f):=PT.imp (Jv ha) λ_ _ _ h=>Kq h
def Kr{σ:St}{H}{Q}(h:tT X ad (kC f g) σ H Q):OO (tT X ad f) (tT X ad g) σ H Q:=by
 obtain⟨G,j,E,p,m,n,i,t⟩:=h;have a:RK X.K ad G H ((f j).bind λx=>match x with|.bl qz=>g j|.bl q7=>.ok (.bl q7)|_=>.bad) (λv u=>∃b,v= .bl b/\Q b u) E:=t;rcases iV i with ⟨d,e,i⟩|⟨y,e,i⟩|⟨c,e⟩;cases d<;>try exact(dU i).elim
 rename_i b;refine⟨G,j,E,p,m,n,.inl ⟨b,e⟩,?_⟩;rw[e]at a ⊢;intro v o w l r;unfold Rep at r;subst r;refine⟨b,rfl,?_⟩;rcases b with _|_;obtain⟨z,s,q⟩:=a (.bl q7) o w l dJ;cases s;exact B3 q;exact y9 ⟨o,j,E,l.gh,m.step l,n,i,RK.step a l⟩;exact(dU i).elim;refine⟨G,j,E,p,m,n,.inr ⟨c,e⟩,?_⟩;rw[e]at a ⊢;exact a
def NW{σ:St}{H}{Q}(h:tT X ad (rOr f g) σ H Q):tOr (tT X ad f) (tT X ad g) σ H Q:=by
 obtain⟨G,j,E,p,m,n,i,t⟩:=h;have a:RK X.K ad G H ((f j).bind λx=>match x with|.bl qz=>.ok (.bl qz)|.bl q7=>g j|_=>.bad) (λv u=>∃b,v= .bl b/\Q b u) E:=t;rcases iV i with ⟨d,e,i⟩|⟨y,e,i⟩|⟨c,e⟩;cases d<;>try exact(dU i).elim
 rename_i b;refine⟨G,j,E,p,m,n,.inl ⟨b,e⟩,?_⟩;rw[e]at a ⊢;intro v o w l r;unfold Rep at r;subst r;refine⟨b,rfl,?_⟩;rcases b with _|_;exact B3 ⟨o,j,E,l.gh,m.step l,n,i,RK.step a l⟩;obtain⟨z,s,q⟩:=a (.bl qz) o w l dJ;cases s;exact y9 q;exact(dU i).elim;refine⟨G,j,E,p,m,n,.inr ⟨c,e⟩,?_⟩;rw[e]at a ⊢;exact a
def Ez(ha:MT X ad a f)(hb:MW X ad (.BoolOp .And (b::r) pos) g):MW X ad (.BoolOp .And (a::b::r) pos) (kC f g):=PW.imp (pw_and ha hb) λ_ _ _ h=>Kr h
def Gg(ha:MT X ad a f)(hb:MW X ad (.BoolOp .Or (b::r) pos) g):MW X ad (.BoolOp .Or (a::b::r) pos) (rOr f g):=PW.imp (pw_or ha hb) λ_ _ _ h=>NW h
def zS(hb:MT X ad b g):MW X ad (.BoolOp op [b] pos) g:=by
 cases op with
 |And=>exact pw_and1 hb
 |Or=>exact pw_or1 hb
def Ks(hu:X.A.units+62<cLine)(ha:ME X ad a f)(hb:ME X ad b g)(hm:behindInMarks op b=q7):ME X ad (.Compare a [op] [b] pos) (bF op f g):=by refine λj s m H Q I c=>c.el λG l E e d h i=>?_;exact wpAny_Compare1 (zH (gY op hu) ha hb I e d h i) hm
def EA(hu:X.A.units+62<cLine)(ha:ME X ad a f)(hb:ME X ad b g)(hm:behindInMarks op b=q7):MT X ad (.Compare a [op] [b] pos) (bF op f g):=by refine λw s J H Q I i=>i.el λG z E t j l y m=>?_;refine wpAny_isTrue_Compare1 (L2.thn (zH (gY op hu) ha hb I t j l m) λv K h=>L2.thn h λu B r=>L2.thn r λc C d=>?_) hm;obtain⟨x,p,n,o,k,e,q⟩:=d;subst e;cases o;exact wpAny_truthy_bool ⟨p,n,q⟩
def isB(r:R):Prop:=(∃k,r= .ok (.bl k))\/r= .bad
def zT:(∃k,eS op x y= .ok (.bl k))\/eS op x y= .bad:=by
 have i: ∀k,isB (inS x y k):=λk=>by
  rcases Gf (x:=x) (y:=y) (k:=k)with e|⟨i,ks,vs,rfl,rfl⟩;exact .inr e;exact .inl ⟨_,rfl⟩
 have e: ∀(p:Prop) [Decidable p] (k:Bool) (r:R),isB r->isB (if p then .ok (.bl k)else r):=λp _ k r h=>by
  by_cases c:p;rw[if_pos c];exact .inl ⟨_,rfl⟩;rw[if_neg c];exact h
 have n: ∀k,isB (oM k x y):=λk=>by
  cases x<;>try exact .inr rfl
  cases y<;>try exact .inr rfl
  exact e _ _ _ (.inr rfl)
 have c: ∀op,(op= .Lt\/op= .Gt\/op= .GtE)->isB (eS op x y):=λop h=>by
  rcases vI (x:=x) (y:=y) h with a|⟨i,j,rfl,rfl⟩;exact .inr a;rcases h with rfl|rfl|rfl<;>exact .inl ⟨_,rfl⟩
 cases op with
 |Eq=>exact e _ _ _ (n _)
 |NotEq=>exact e _ _ _ (n _)
 |In=>exact i _
 |NotIn=>exact i _
 |Lt=>exact c _ (.inl rfl)
 |Gt=>exact c _ (.inr (.inl rfl))
 |GtE=>exact c _ (.inr (.inr rfl))
 |LtE=>
  rcases Kk (x:=x) (y:=y)with a|⟨i,j,rfl,rfl⟩|⟨i,j,rfl,rfl⟩;exact .inr a;exact .inl ⟨_,rfl⟩;exact .inl ⟨_,rfl⟩
 |Is=>cases y<;>first|exact .inr rfl|exact .inl ⟨_,rfl⟩
 |IsNot=>cases y<;>first|exact .inr rfl|exact .inl ⟨_,rfl⟩
def NX{op}{x y}{v w}{u z}(hu:X.A.units+62<cLine)(I:Inv X cc σ H s)(hG:Same G H)(rx:Rep X.K ad G x v)(ry:Rep X.K ad G y w)(ru:bG v u)(rz:bG w z){k}(hr:RK X.K ad G H ((eS op x y).bind k) Q E):X.wp (compareOp op u z) (λd s3=>∃b G' H',d= .bool b/\Step G H G' H'/\Inv X cc σ H' s3/\RK X.K ad G' H' (k (.bl b)) Q E) X.xe s:=by rcases zT (op:=op) (x:=x) (y:=y)with ⟨b,e⟩|e;rw[e]at hr;refine L2.thn (gY op hu cc s σ H G x y v w u z (λq H'=>∃G',Step G H G' H'/\q= .bl b) E I hG rx ry ru rz (by rw[e];exact λq G' H' a r=>⟨G',a,by unfold Rep at r;exact r⟩)) λd s3 c=>?_;obtain⟨q,H',f,g,G',a,h⟩:=c;subst h;cases g;exact⟨b,G',H',rfl,a,f,RK.step hr a⟩;rw[e]at hr;exact hr.elim
def Cz(hu:X.A.units+62<cLine)(ha:ME X ad a f)(hb:ME X ad b g)(hc:ME X ad c h)(hm:lastMarks [op,op'] [b,c]=q7):ME X ad (.Compare a [op,op'] [b,c] pos) (kF op op' f g h):=by
 refine λY s S H Q I U=>U.el λG ρ E O l m C=>?_;refine Compare_chain (L2.thn (ha.thn I O l m C) λv s1 ⟨x,d1,G1,H1,I1,K,st1,q1,L⟩=>chain_link (L2.thn (hb.thn I1 st1.gh (l.step st1) m L) λu s2 ⟨y,d2,G2,H2,I2,o,st2,q,M⟩=>
  L2.thn (NX hu I2 st2.gh (q1.mono st2.sg) q K o M) λd s3 ⟨k,G3,H3,e,i,p,r⟩=>?_)) hm
 subst e;refine wpAny_truthy_bool ?_;rcases k with _|_;exact ite_ff ⟨.bl q7,H3,p,rfl,r.ok_now i.gh dJ⟩;refine ite_tt (chain_last (L2.thn (hc.thn p i.gh (((l.step st1).step st2).step i) m r) λT s4 n=>?_));obtain⟨z,J,w,W,Z,t,j,B,N⟩:=n;exact gY op' hu Y s4 S W w d2 J y z u T Q E Z j.gh ((q.mono i.sg).mono j.sg) B o t N
def CB(hu:X.A.units+62<cLine)(ha:ME X ad a f)(hb:ME X ad b g)(hc:ME X ad c h)(hm:lastMarks [op,op'] [b,c]=q7):MT X ad (.Compare a [op,op'] [b,c] pos) (kF op op' f g h):=by
 refine λcc s Z H Q I h9=>h9.el λG ρ E Y m n ht O=>?_;refine isTrue_chain (L2.thn (ha.thn I Y m n O) λv s1 ⟨x,d1,G1,H1,I1,T,st1,q1,U⟩=>test_link (L2.thn (hb.thn I1 st1.gh (m.step st1) n U) λu s2 ⟨y,d2,G2,H2,I2,o,st2,r,p⟩=>
  L2.thn (NX hu I2 st2.gh (q1.mono st2.sg) r T o p) λd s3 ⟨k,G3,H3,e,i,q,t⟩=>?_)) hm
 subst e;refine wpAny_truthy_bool ?_;rcases k with _|_;obtain⟨k',M,J⟩:=t.ok_now (v:=.bl q7) i.gh dJ;cases M;exact ite_ff ⟨H3,q,J⟩;refine ite_tt (test_last (L2.thn (hc.thn q i.gh (((m.step st1).step st2).step i) n t) λw' s4 j=>?_));obtain⟨K,S,C,H4,I4,z,l,N,W⟩:=j;refine L2.thn (gY op' hu cc s4 Z H4 C d2 S y K u w' _ E I4 l.gh ((r.mono i.sg).mono l.sg) N o z W) λd' s5 j=>?_;obtain⟨z2,B,L,w,p,e2,q5⟩:=j;subst e2;cases w;exact wpAny_truthy_bool ⟨B,L,q5⟩
def zU:MA X ad [] []:=PA.imp eP λg H Q a=>by obtain⟨G,e,E,b,d,f,c⟩:=a;exact c [] G H (Step.refl b) aJ.nil
def oV(ha:ME X ad a f)(hr:MA X ad es fs)(hs:starEach (a::es) X.env=(q7,eval a X.env)::starEach es X.env):MA X ad (a::es) (f::fs):=by
 refine PA.imp (cJ ha hr hs) ?_;rintro z H Q ⟨G,j,E,y,s,t,hr⟩;have b: ∀d,AK X.K ad G H ((args fs j).cons d) Q E->∀v h i,Step G H h i->Rep X.K ad h d v->tA X ad fs z i λu l=>Q (v::u) l:=λd hk v h i g r=>by
  refine⟨h,j,E,g.gh,s.step g,t,?_⟩;rcases e:args fs j with A|c|_;rw[e]at hk;exact λw o l st2 q=>hk (v::w) o l (g.trans st2) (aJ.cons (r.mono st2.sg) q);rw[e]at hk;exact λo l st2=>hk o l (g.trans st2);rw[e]at hk;exact hk
 refine⟨G,j,E,y,s,t,?_⟩;unfold args at hr;rcases e:f j with d|u|c|_;rw[e]at hr;exact λv h i g r=>b d hr v h i g r;rw[e]at hr;intro p w h i g n m x r;obtain⟨o,st2,q⟩:=dP (X:=X) (ad:=ad) g n m x r;exact b _ hr _ o i st2 q;rw[e]at hr;exact hr;rw[e]at hr;exact hr
def fR(h:args fs ρ= .ok ds):ds.length=fs.length:=by
 induction fs generalizing ds with
 |nil=>cases h;rfl
 |cons f fs b=>
  unfold args at h;rcases e:f ρ with d|d|c|_;rw[e]at h;rcases a:args fs ρ with r|c|_;rw[a]at h;cases h;simp[b a];rw[a]at h;cases h;rw[a]at h;cases h;rw[e]at h;rcases a:args fs ρ with r|c|_;rw[a]at h;cases h;simp[b a];rw[a]at h;cases h;rw[a]at h;cases h;rw[e]at h;cases h;rw[e]at h;cases h
def t6{σ}{H}{Q}(hG:Same G H)(hS:SL X.K ad G H ρ σ)(hx:XP X ad σ E)(hr:RK X.K ad G H (lP fs ρ k) Q E)(q: ∀vs ds G1 H1,Step G H G1 H1->aJ X.K ad G1 ds vs->ds.length=fs.length->RK X.K ad G1 H1 (k ds) Q E->Q' vs H1):tA X ad fs σ H Q':=by refine⟨G,ρ,E,hG,hS,hx,?_⟩;unfold lP at hr;rcases e:args fs ρ with ds|c|_;rw[e]at hr;exact λvs G1 H1 a r=>q vs ds G1 H1 a r (fR e) (RK.step hr a);rw[e]at hr;exact hr;rw[e]at hr;exact hr
def Kt(ha:MA X ad es fs)(hl:fs.length<=1000):ME X ad (.Tuple es j pos) (eQ fs):=by refine PE.imp (Ed ha) ?_;rintro t H Q ⟨G,b,E,m,f,g,i⟩;refine⟨G,b,E,m,f,g,?_⟩;have a:RK X.K ad G H ((args fs b).then λl=>.ok (.tup l)) Q E:=i;rcases e:args fs b with o|c|_;rw[e]at a;intro s n q d r;refine⟨?_,λp h=>(RK.step a d).tup_new d.gh r h⟩;have:=r.length;rw[this,fR e];exact om hl (by decide);rw[e]at a;exact a;rw[e]at a;exact a
def EB(ha:MA X ad es fs)(hl:fs.length<=1000):ME X ad (.List es pos) (jV fs):=by refine PE.imp (u9 ha) ?_;rintro s H Q ⟨G,b,E,l,f,g,i⟩;refine⟨G,b,E,l,f,g,?_⟩;have a:RK X.K ad G H ((args fs b).then λj=>.ow j) Q E:=i;rcases e:args fs b with n|c|_;rw[e]at a;intro q m o d r;refine⟨?_,λp h=>(RK.step a d).ow_new d.gh r h⟩;have:=r.length;rw[this,fR e];exact om hl (by decide);rw[e]at a;exact a;rw[e]at a;exact a
def Seq(X:Cx)(ad:Ad)(G H:Hp)(x:D)(v:V):Prop:=Rep X.K ad G x v\/∃a vs ds,x= .lst ds/\v= .ref a/\G a=qw/\H a=pi (.lst vs)/\aJ X.K ad G ds vs
def Seq.step(q:Seq X ad G H x v)(st:Step G H G1 H1):Seq X ad G1 H1 x v:=by rcases q with q|⟨a,vs,ds,e1,e2,h1,h2,h3⟩;exact .inl (q.mono st.sg);refine .inr ⟨a,vs,ds,e1,e2,?_,st.sh _ _ h2,h3.mono st.sg⟩;rcases z:G1 a with _|o;rfl;have:=st.nw a h1 (by rw[z];exact λz=>nomatch z);rw[h2]at this;cases this
theorem Seq.items{x:D}{v:V}{ds:L1 D}(q:Seq X ad G H x v)(hG:Same G H)(e:items x=pi ds): ∃a vs,v= .ref a/\(x= .tup ds/\SqT X.K H a vs\/x= .lst ds/\SqL X.K H a vs)/\aJ X.K ad G ds vs:=by
 rcases q with q|⟨a,vs,ds',e1,e2,d,c,b⟩;cases x with
 |tup _=>cases e;unfold Rep at q;obtain⟨a,vs,d,c,b⟩:=q;exact⟨a,vs,d,.inl ⟨rfl,hG.seqT c⟩,b⟩
 |lst _=>cases e;unfold Rep at q;obtain⟨a,vs,d,c,b⟩:=q;exact⟨a,vs,d,.inr ⟨rfl,hG.seq c⟩,b⟩
 |_=>cases e
 subst e1;cases e;exact⟨a,vs,e2,.inr ⟨rfl,SqL.of c⟩,b⟩
def EC n i:ixD n i=L2.ixN n i:=rfl
def Gh{Ex:ce}{s}{T id}{Q:ce}(hl:typeLookup (.type T) "__getitem__"=pure (pi (.builtin id)))(hs:subscripted slice q7 o i=operate [o,i] (getItem o i))(hT:s.TypeIs o T)(h:wpAny (model prog w) A (getItem o i) Q Ex s):wpAny (model prog w) A (subscriptTail value slice o i) Q Ex s:=by
 unfold subscriptTail;refine aa ?_;rw[getitemInPython_of_ne hT.not_modules];refine aa (wpAny_specialOf hT hl ?_);have b:wpAny (model prog w) A (subscripted slice q7 o i) (λr a=>wpAny (model prog w) A (letTemporaryGo value o r >>= λ_=>pure r) Q Ex a) Ex s:=by
  rw[hs];exact wpAny_operating (wpAny_mono h (λr a c=>aa (wpAny_letTemporaryGo (ac c))) λ_ _ x=>x)
 first
  |exact ac (aa b)
  |exact aa (ac (aa b))
  |exact aa b
def Ku(I:Inv X cc σ H s)(hG:Same G H)(rx:Rep X.K ad G (.dct ks ds) v)(ru:bG v u)(rz:bG (.str k) z)(hs:subscripted b q7 u z=operate [u,z] (getItem u z))(hr:RK X.K ad G H (match bI (ks.zip ds) k with|some d=>.ok d|none=>.bad) Q E):X.wp (subscriptTail a b u z) (EP X cc σ Q) X.xe s:=by unfold Rep at rx;obtain⟨p,o,q,rfl,g,l,n⟩:=rx;cases (show u=qh p from ru);rcases rJ (x:=k) l n with ⟨_,c,_⟩|⟨w,d,i,c,j,_,_⟩;rw[c]at hr;exact hr.elim;rw[c]at hr;obtain⟨y,r,t,f,dd⟩:=jW I.hok (.inr ⟨o,hG _ _ g⟩);have h:=f.val (.inr k);rw[i]at h;obtain⟨B,m,e⟩:=mZ.some_of h;exact Gh PySem.F.slot_dict_getitem.lookup hs dd.typeIs (wpAny_getItem_of (nA (k:=.inr k) rz) dd.mapOf m ⟨w,H,I.tok _,e,hr.ok_now hG j⟩)
def Kv(ha:MLk X ad a f)(hb:ME X ad b g)(hs:y0 b):ME X ad (.Subscript a b pos) (rIx f g):=by
 refine λS s O H Q I h9=>h9.el λG ρ E hG hS hx hr=>?_;refine Subscript_ (L2.thn (ha S s O H G ρ _ Q E I hG hS hx hr) λv s1 q=>?_);obtain⟨x,Y,G1,H1,I1,M,st1,q1,k1⟩:=q;refine L2.thn (hb.thn I1 st1.gh (hS.step st1) hx k1) λu Z q=>?_;obtain⟨y,U,L,m,T,J,st2,t,r⟩:=q;have h:Seq X ad L m Y x:=Seq.step (X:=X) (ad:=ad) q1 st2;unfold dIx at r;rcases e:items Y with _|N;rw[e]at r;have C:RK X.K ad L m (ixS Y U) Q E:=r;cases Y<;>try exact ba C
 case dct ks W=>
  cases U<;>try exact ba C
  rcases h with h|⟨_,_,_,w,_⟩;unfold Rep at t;subst t;exact Ku T st2.gh h M J (hs _ _) C;cases w
 cases U<;>try exact ba C
 rename_i z i;have n:RK X.K ad L m (if z.length<=LIM then(match(ixD z.cps.toList.length i).bind λj=>z.cps.toList[j]? with|some c=>.ok (.str ⟨#[c]⟩)|none=>.bad)else .bad) Q E:=C;unfold Rep at t;subst t;by_cases hc:z.length<=LIM;rw[if_pos hc]at n;rcases o:(ixD z.cps.toList.length i).bind λj=>z.cps.toList[j]? with _|c;rw[o]at n;exact n.elim;rw[o]at n;rcases h with h|⟨_,_,_,w,_⟩;unfold Rep at h;subst h;exact gW a b S Z O m _ _ v u Q T M J ⟨z,i,c,rfl,rfl,om hc (by decide),o,n.ok_now st2.gh eV⟩ (hs _ _);cases w;rw[if_neg hc]at n;exact n.elim;rw[e]at r;cases U<;>try exact r.elim
 rename_i i;unfold Rep at t;subst t;obtain⟨p,W,rfl,A,rq⟩:=h.items st2.gh e;have l:RK X.K ad L m (match(ixD N.length i).bind λj=>N[j]? with|some d=>.ok d|none=>.bad) Q E:=r;rcases o:(ixD N.length i).bind λj=>N[j]? with _|d;rw[o]at l;exact l.elim;rw[o]at l;obtain⟨j,e4,e5⟩:=zBd o;obtain⟨w,e6,r6⟩:=rq.get e5;have B:atI W i=pi w:=by
  unfold atI;rw[rq.length, <-EC,e4];exact e6
 rcases A with ⟨_,A⟩|⟨_,A⟩;exact JQ a b S Z O m _ _ v u Q T M J ⟨p,W,i,w,rfl,rfl,A,B,l.ok_now st2.gh r6⟩ (hs _ _);exact FK a b S Z O m _ _ v u Q T M J ⟨p,W,i,w,rfl,rfl,A,B,l.ok_now st2.gh r6⟩ (hs _ _)
def CC: ∀{ds} {vs} lo hi,aJ X.K ad G ds vs->aJ X.K ad G (FQ ds lo hi) (FJ vs lo hi):=by intro ds vs lo hi r;unfold FQ FJ;rw[r.length];exact(r.drop _).take _
def Pa l u n:du l u 1 n=(pq (dI n n u-dI n 0 l)).map λk=>dI n 0 l+k:=by
 have a: ∀(d:Nat) (v:L7 Int),d<=n->(match v with|none=>(d:Int)|some i=>max 0 (min (if i<0 then i+n else i) (n:Int)))=((dI n d v:Nat):Int):=λd v c=>by
  rcases v with _|i;rfl;show max 0 (min (if i<0 then i+n else i) (n:Int))=(((if i<0 then(i+n).toNat else min i.toNat n):Nat):Int);split<;>lia
 have e:du l u 1 n=sliceRange ((dI n 0 l:Nat):Int) ((dI n n u:Nat):Int) 1:=by
  rw[<-a 0 l (bu _), <-a n u (aj _)];cases l<;>cases u<;>rfl
 rw[e];unfold sliceRange;have b:(if(1:Int) > 0 then(if((dI n 0 l:Nat):Int)<((dI n n u:Nat):Int)then(((dI n n u:Nat):Int)-((dI n 0 l:Nat):Int)+1-1)/1 else 0)else(if((dI n 0 l:Nat):Int) > ((dI n n u:Nat):Int)then(((dI n 0 l:Nat):Int)-((dI n n u:Nat):Int)-1-1)/(-1)else 0):Int).toNat=dI n n u-dI n 0 l:=by
  rw[if_pos (by decide)];split<;>lia
 show(pq (if(1:Int) > 0 then _ else _:Int).toNat).map _=_;rw[b];refine ij λk _=>?_;show(((dI n 0 l:Nat):Int)+1*(k:Int)).toNat=_;lia
theorem jG{α:Type}(xs:L1 α): ∀m a,((pq m).map λk=>a+k).filterMap (xs[·]?)=(xs.drop a).take m
 |0,a=>by simp
 |m+1,a=>by
  rw[List.range_succ,li,List.filterMap_append,jG xs m a,List.take_succ];congr 1;show mn (xs[·]?) [a+m]=_;rw[List.getElem?_drop];cases e:xs[a+m]? <;>simp[e]
def zV z lo hi:Txt.slice z lo hi=⟨(qQ z.cps.toList lo hi).toArray⟩:=by
 have a:z.length=z.cps.toList.length:=by simp[Str.length]
 have g:((du lo hi 1 z.length).filterMap (z.cps[·]?))=qQ z.cps.toList lo hi:=by
  rw[Pa];unfold qQ;rw[<-a, <-jG];refine congrArg (λf=>mn f _) (funext λk=>?_);simp
 unfold Txt.slice;split;rename_i h;have c:(du lo hi 1 z.length).length=z.length:=by simpa using h
 refine PySem.Str.ext' ?_;show z.cps=(qQ z.cps.toList lo hi).toArray;rw[Pa,aq,jl]at c;unfold qQ;rw[<-a,c];have:dI z.length z.length hi<=z.length:=by
  unfold dI;rcases hi with _|v;exact aj _;simp only[];split<;>lia
 by_cases e:z.length=0;have b:z.cps.toList=[]:=List.eq_nil_of_length_eq_zero (by rw[<-a];exact e);rw[b];simpa using b;have d:dI z.length 0 lo=0:=by lia
 rw[d,List.drop_zero,a,kd];rw[g]
def NY(X:Cx)(x:V)(lo hi:L7 Int)(H:Hp)(Q:VK):Prop:=(∃a vs,x= .ref a/\(SqL X.K H a vs/\∀p,H p=qw->Q (.ref p) (upd H p (.lst (FJ vs lo hi)))))\/∃z,x= .str z/\z.length<=LIM/\Q (.str ⟨(qQ z.cps.toList lo hi).toArray⟩) H
def zW(h:IsPart v o): ∃l,v=partValue l/\l.map (·.1)=o:=by
 cases h with
 |none=>exact⟨qw,rfl,rfl⟩
 |int i t=>exact⟨pi (i,t),rfl,rfl⟩
def Gi:SlR X (λx lo hi H Q=>∃z,x= .str z/\z.length<=LIM/\Q (.str ⟨(qQ z.cps.toList lo hi).toArray⟩) H):=by intro p s w H x v n o lo hi r Q I j h g i q;obtain⟨z,rfl,m,q⟩:=q;obtain⟨t,rfl⟩:=(show ∃t,v=qg z t from j);obtain⟨l,rfl,rfl⟩:=zW g;obtain⟨u,rfl,rfl⟩:=zW i;obtain⟨f,b,a,d⟩:=h;refine⟨"str",_,F.slot_str_getitem.lookup,typeIs_str _ _ _,wpAny_getItem_str_slice (l:=l) (u:=u) (st:=qw) ⟨f,b,a,d⟩ rfl ?_⟩;have c:z.length<=sizeLine:=om m (by decide);refine post_val_or_str ⟨om (Txt.slice_le z _ _) c,λe k=>?_⟩;rw[<-zV]at q;exact⟨.str _,H,I.tok k,⟨e,rfl⟩,q⟩
def Kw:SlR X (NY X):=by intro d s l H x v b c m i g Q I h j e f q;obtain⟨a,o,rfl,n,q⟩|q:=q;exact FN d s l H _ v b c m i g Q I h j e f ⟨a,o,rfl,n,q⟩;exact Gi d s l H x v b c m i g Q I h j e f q
def vJ{lo hi}(q:Seq X ad G H x v)(hG:Same G H)(hr:RK X.K ad G H (Cj x lo hi) Q E):
  NY X v lo hi H Q:=by
 cases x with
 |lst c=>
  obtain⟨a,f,rfl,d,h⟩:=q.items hG (rfl:items (.lst c)=pi c);rcases d with ⟨z,_⟩|⟨_,d⟩;cases z;exact .inl ⟨a,f,rfl,d,λp g=>RK.ow_new (xs:=FQ c lo hi) hr hG (CC lo hi h) g⟩
 |str z=>
  have b:RK X.K ad G H (if z.length<=LIM then .ok (.str ⟨(qQ z.cps.toList lo hi).toArray⟩)else .bad) Q E:=hr;by_cases e:z.length<=LIM;rw[if_pos e]at b;rcases q with q|⟨_,_,_,w,_⟩;unfold Rep at q;subst q;exact .inr ⟨z,rfl,e,b.ok_now hG eV⟩;cases w;rw[if_neg e]at b;exact b.elim
 |_=>exact ba hr
def Kx(ha:MLk X ad a f)(hl:match l,fl with|none,qw=>True|some e,pi k=>ME X ad e k|_,_=>False)(hu:match u,fu with|none,qw=>True|some e,pi k=>ME X ad e k|_,_=>False):
  ME X ad (.Subscript a (.Slice l u qw p2) pos) (lQ f fl fu):=by
 refine λi s p H Q I h9=>h9.el λG ρ E hG S L hr=>?_
 have ab: ∀(k:D->R),RK X.K ad G H ((f ρ).bind k) Q E->(∀(i:cf) (M:Shared) (x:V) (d:D) (C n:Hp),Inv X i p n M->Step G H C n->Seq X ad C n d x->RK X.K ad C n (k d) Q E->
   X.wp (evalPart l X.env) (λz U=>X.wp (evalPart u X.env) (λh g=>∃lo hi r,Inv X i p r g/\IsPart z lo/\IsPart h hi/\
    NY X x lo hi r Q) X.xe U) X.xe M)->
   X.wp (eval (.Subscript a (.Slice l u qw p2) pos) X.env) (EP X i p Q) X.xe s:=λk hk go=>by
  refine Subscript_ (L2.thn (ha i s p H G ρ k Q E I hG S L hk) λv M c=>?_);obtain⟨x,d1,C,n,J,r1,st1,q1,B⟩:=c;refine wpAny_Slice (L2.thn (go i M x d1 C n J st1 q1 B) λz U h2=>L2.thn h2 λh g c=>?_);obtain⟨lo,hi,r,I3,pl,pu,Z⟩:=c;rw[evalPart_none];refine ac ?_;have I4:Inv X i p r {g with heap:=g.heap.push {cls:=.type "slice",data:=.fields #[z,h,.none]} }:=I3.kept (t':=g.toks) λb ob q=>ae _ q;obtain⟨T,id,hT,ht,hg⟩:=Kw i {g with heap:=g.heap.push {cls:=.type "slice",data:=.fields #[z,h,.none]} } p r x v z h lo hi g.z Q I4 r1 (Heap.IsSliceOf.new ..) pl pu Z;show X.wp (subscriptTail a (.Slice l u qw p2) v (.ref g.z)) (EP X i p Q) X.xe {g with heap:=g.heap.push {cls:=.type "slice",data:=.fields #[z,h,.none]} };exact tail_any (ops:=[.ref g.z,v]) ht hT hg (by with_unfolding_all rfl)
 unfold lQ at hr;refine ab _ hr λi M x d C n J st1 q1 B=>?_;rcases l with _|e;rcases fl with _|_;rw[evalPart_none];refine ac ?_;rcases u with _|e;rcases fu with _|_;rw[evalPart_none];exact ac ⟨qw,qw,n,J,.none,.none,vJ q1 st1.gh B⟩;exact hu.elim;rcases fu with _|k;exact hu.elim;rw[evalPart_some];refine L2.thn (ME.thn hu J st1.gh (S.step st1) L B) λh U c=>?_;obtain⟨y,Y,G2,H2,N,O,st2,o,m⟩:=c;cases Y<;>try exact ba m
 rename_i j;unfold Rep at o;subst o;obtain⟨t,rfl⟩:=O;exact⟨qw,pi j,H2,N,.none,.int j t,vJ (Seq.step q1 st2) st2.gh m⟩;exact hl.elim;rcases fl with _|k;exact hl.elim;rcases u with _|e';rcases fu with _|_;rw[evalPart_some];refine L2.thn (ME.thn hl J st1.gh (S.step st1) L B) λh U c=>?_;obtain⟨y,Y,G2,H2,N,O,st2,o,m⟩:=c;cases Y<;>try exact ba m
 rename_i j;unfold Rep at o;subst o;obtain⟨t,rfl⟩:=O;rw[evalPart_none];exact ac ⟨pi j,qw,H2,N,.int j t,.none,vJ (Seq.step q1 st2) st2.gh m⟩;exact hu.elim;rcases fu with _|k';exact hu.elim;rw[evalPart_some];refine L2.thn (ME.thn hl J st1.gh (S.step st1) L B) λh U c=>?_;obtain⟨y,Y,G2,H2,N,O,st2,o,m⟩:=c;cases Y<;>try exact ba m
 rename_i j;unfold Rep at o;subst o;obtain⟨t,rfl⟩:=O;rw[evalPart_some];refine L2.thn (ME.thn hu N st2.gh ((S.step st1).step st2) L m) λh g c=>?_;obtain⟨y3,d3,G3,r,I3,r3,W,Z,k3⟩:=c;cases d3<;>try exact ba k3
 rename_i j';unfold Rep at Z;subst Z;obtain⟨t',rfl⟩:=r3;exact⟨pi j,pi j',r,I3,.int j t,.int j' t',vJ (Seq.step (Seq.step q1 st2) W) W.gh k3⟩
end
section
variable{X:Cx}{ad:Ad}{cc:cf}{s:Shared}{σ:St}{H G:Hp}{ρ:Rho}{Q:VK}{E:Nat->Hp->Prop}{p:Pos}{a b c:Expr}{f g h:F}
def RK.impE{K}{r}{E E'}(h:RK K ad G H r Q E)(k: ∀c H',E c H'->E' c H'):RK K ad G H r Q E':=by rcases r with d|e|c|_;exact h;exact h;exact λa H' b=>k c H' (h a H' b);exact h
def LK(X:Cx)(ad:Ad)(G H:Hp)(r:R)(Q:VK)(E:Nat->Hp->Prop):Prop:=match r with
 |.ok d=>∀v G' H',Step G H G' H'->Seq X ad G' H' d v->Q v H'
 |.ow xs=>∀p vs G' H',Step G H G' H'->H p=qw->G' p=qw->H' p=pi (.lst vs)->aJ X.K ad G' xs vs->Q (.ref p) H'
 |.ex c=>∀G' H',Step G H G' H'->E c H'
 |.bad=>False
def tL(X:Cx)(ad:Ad)(f:F):TE:=λσ H Q=>∃G ρ E,Same G H/\SL X.K ad G H ρ σ/\XP X ad σ E/\LK X ad G H (f ρ) Q E
abbrev ML(X:Cx)(ad:Ad)(e:Expr)(f:F):Prop:=PE X e (tL X ad f)
def LK.rk(h:LK X ad G H r Q E):RK X.K ad G H r Q E:=by rcases r with d|f|c|_;exact λv b a e q=>h v b a e (.inl q);exact h;exact h;exact h
def ME.ml(ha:ME X ad a f):ML X ad a f:=PE.imp ha λi H Q b=>by obtain⟨G,e,E,d,c,g,h⟩:=b;exact⟨G,e,E,d,c,g,h.rk⟩
def zX(hV:kT X i x):ML X ad (.Name x pos) (aD i):=by rintro g s j H Q I ⟨G,m,E,h,f,t,a⟩;unfold aD at a;rcases e:m[i]? with _|n;rw[e]at a;exact a.elim;rw[e]at a;rcases n with _|d|o|kvs|kvs|⟨_,_⟩;exact a.elim;obtain⟨w,b,c⟩:=f.sh e;exact bQ hV g s j H Q I ⟨w,b,a w G H (Step.refl h) (.inl c)⟩;obtain⟨p,q,b,c,l,r⟩:=f.ow e;exact bQ hV g s j H Q I ⟨.ref p,b,a (.ref p) G H (Step.refl h) (.inr ⟨p,q,o,rfl,rfl,c,l,r⟩)⟩;exact a.elim;exact a.elim;exact a.elim
def ML.lk(ha:ML X ad a f):MLk X ad a f:=by
 intro w s z H G l k Q E I y t x j;rcases e:f l with d|A|c|_;rw[e]at j;refine L2.thn (ha w s z H (λv g=>∃b,Step G H b g/\Seq X ad b g d v) I ⟨G,l,E,y,t,x,by rw[e];exact λv b g i q=>⟨b,i,q⟩⟩) λu B h=>?_;obtain⟨v,g,o,r,b,i,q⟩:=h;exact⟨v,d,b,g,o,r,i,q,RK.step j i⟩;rw[e]at j;refine L2.thn (ha w s z H (λv g=>∃b,Step G H b g/\Rep X.K ad b (.lst A) v) I ⟨G,l,E,y,t,x,by rw[e];exact λp J b g i n m C q=>dP i n m C q⟩) λu B h=>?_;obtain⟨v,g,o,r,b,i,q⟩:=h;exact⟨v,.lst A,b,g,o,r,i,.inl q,RK.step j i⟩;rw[e]at j;refine L2.thn (ha w s z H (λv g=>False) I ⟨G,l,E,y,t,x,by rw[e];exact j⟩) λu B h=>by obtain⟨v,g,o,r,q⟩:=h;exact q.elim
 rw[e]at j;exact ba j
def zY{σ}{H}{Q Q'}(hG:Same G H)(hS:SL X.K ad G H ρ σ)(hx:XP X ad σ E)(hr:RK X.K ad G H ((f ρ).bind k) Q E)(q: ∀v d G1 H1,Step G H G1 H1->Seq X ad G1 H1 d v->RK X.K ad G1 H1 (k d) Q E->Q' v H1):tL X ad f σ H Q':=by refine⟨G,ρ,E,hG,hS,hx,?_⟩;rcases e:f ρ with d|i|c|_;rw[e]at hr;exact λv G1 H1 a r=>q v d G1 H1 a r (RK.step hr a);rw[e]at hr;intro p j G1 H1 a n m h r;obtain⟨b,st2,g⟩:=dP (X:=X) (ad:=ad) a n m h r;exact q _ _ b H1 st2 (.inl g) (RK.step hr st2);rw[e]at hr;exact hr;rw[e]at hr;exact hr
def vK:lP [f] ρ k=(f ρ).bind λx=>k [x]:=by unfold lP args;cases f ρ<;>rfl
def BOp(X:Cx)(ad:Ad)(fv:Value)(r:Fn):Prop:=
 ∀(cc:cf) (s:Shared) (σ:St) (H G:Hp) (x:D) (v:V) (u:Value) (Q:VK) (E:Nat->Hp->Prop),Inv X cc σ H s->Same G H->Seq X ad G H x v->bG v u->RK X.K ad G H (r [x]) Q E->
  X.wp (call fv [u]) (EP X cc σ Q) X.xe s
def l4{id}(ho:BOp X ad (.builtin id) r)(hg:L2.Gl X x)(hm:X.mg x=qw)(hv:bootBuiltins x=pi (.builtin id))(ha:ML X ad a f)(hn:x≠"__name__")(hdb:(x==gV)=q7)(he:starEach [a] X.env=(q7,eval a X.env)::starEach [] X.env):ME X ad (.Call (.Name x p) [a] [] pos) (aE r [f]):=by rintro h s j H Q I ⟨G,A,E,y,l,m,e⟩;refine wpAny_Call_Name_kw (gR I hg hm hv ?_ hn hdb);unfold aE at e;rw[vK]at e;refine dq (L2.thn (cJ ha eP he pos h s j H (λi c=>∃v d b,i=[v]/\Step G H b c/\Seq X ad b c d v/\RK X.K ad b c (r [d]) Q E) I ?_) λB z ⟨i,c,n,o,v,d,b,t,g,q,k⟩=>?_) he rfl;exact zY y l m e λv d b c g q k=>⟨v,d,b,rfl,g,q,k⟩;subst t;obtain⟨u,rfl,w⟩:=lK o;exact ho h z j c b d v u Q E n g.gh q w k
def vL(ho:BOp X ad (.type T) r)(hg:L2.Gl X x)(hm:X.mg x=qw)(hv:bootBuiltins x=pi (.type T))(ha:ML X ad a f)(hn:x≠"__name__")(hdb:(x==gV)=q7)(he:starEach [a] X.env=(q7,eval a X.env)::starEach [] X.env):ME X ad (.Call (.Name x p) [a] [] pos) (aE r [f]):=by rintro h s j H Q I ⟨G,A,E,y,l,m,e⟩;refine wpAny_Call_Name_kw (gR I hg hm hv ?_ hn hdb);unfold aE at e;rw[vK]at e;refine dt (L2.thn (cJ ha eP he pos h s j H (λi c=>∃v d b,i=[v]/\Step G H b c/\Seq X ad b c d v/\RK X.K ad b c (r [d]) Q E) I ?_) λB z ⟨i,c,n,o,v,d,b,t,g,q,k⟩=>?_) he rfl;exact zY y l m e λv d b c g q k=>⟨v,d,b,rfl,g,q,k⟩;subst t;obtain⟨u,rfl,w⟩:=lK o;exact ho h z j c b d v u Q E n g.gh q w k
def zZ:BOp X ad (.builtin "len") tP:=by
 intro h s j H G x v u Q E I g q i l;have a:RK X.K ad G H (match items x with|some xs=>.ok (.int xs.length)|none=>OZ x) Q E:=l;rcases e:items x with _|o;rw[e]at a;cases x with
 |str z=>
  have b:RK X.K ad G H (if z.length<=100000 then .ok (.int z.length)else .bad) Q E:=a;by_cases c:z.length<=100000;rw[if_pos c]at b;rcases q with q|⟨_,_,_,y,_⟩;unfold Rep at q;subst q;exact qK h s j H _ [u] Q I (.cons i .nil) ⟨_,rfl,om c (by decide),b.ok_now g bU⟩;cases y;rw[if_neg c]at b;exact b.elim
 |_=>exact ba a
 rw[e]at a;obtain⟨p,f,rfl,n,m⟩:=q.items g e;have d:SqL X.K H p f\/SqT X.K H p f:=n.elim (λz=>.inr z.2) λz=>.inl z.2;refine qJ h s j H [.ref p] [u] Q I (.cons i .nil) ⟨p,f,rfl,d,?_⟩;rw[m.length];exact a.ok_now g bU
def Gj:BOp X ad (.type "int") B4:=by
 intro h s j H G x v u Q E I g q f b;cases x<;>try exact ba b
 rcases q with q|⟨_,_,_,z,_⟩;unfold Rep at q;subst q;exact qB h s j H _ [u] Q I (.cons f .nil) (.inr ⟨_,rfl,b.ok_now g bU⟩);cases z;rcases q with q|⟨_,_,_,z,_⟩;unfold Rep at q;subst q;exact qB h s j H _ [u] Q I (.cons f .nil) (.inl ⟨_,rfl,b.ok_now g bU⟩);cases z;rename_i x;rcases q with q|⟨_,_,_,z,_⟩;unfold Rep at q;subst q;obtain⟨t,rfl⟩:=(show ∃t,u=qg x t from f);have a:RK X.K ad G H (match x.cps.toList with|[c]=>if 48<=c/\c<58 then .ok (.int ((c-48:Nat):Int))else .bad|_=>.bad) Q E:=b;split at a;rename_i c ex;by_cases i:48<=c/\c<58;rw[if_pos i]at a;obtain⟨d,l,rfl⟩: ∃d,d<10/\c=48+d:=⟨c-48,by lia,by lia⟩;have e:x=⟨#[48+d]⟩:=PySem.Str.ext' (by rw[<-Array.toList_inj];exact ex);subst e;have m:PySem.intText? ⟨#[48+d]⟩=pi (((48+d-48:Nat):Nat):Int):=(by decide+kernel: ∀d:Fin 10,PySem.intText? ⟨#[48+d.val]⟩=pi (((48+d.val-48:Nat):Nat):Int)) ⟨d,l⟩;exact PySem.W.KIN.call_text m (by show 1<=640;decide) ⟨.int _,H,I.tok _,⟨_,rfl⟩,a.ok_now g bU⟩;rw[if_neg i]at a;exact a.elim;exact a.elim;cases z
def Gk:BOp X ad (.type "str") tQ:=by
 intro g s l H G x v u Q E I j q h c;cases x<;>try exact ba c
 rename_i i;rcases q with q|⟨_,_,_,z,_⟩;unfold Rep at q;subst q;have a:RK X.K ad G H (if 0<=i/\i<10 then .ok (.str ⟨#[48+i.toNat]⟩)else .bad) Q E:=c;by_cases b:0<=i/\i<10;rw[if_pos b]at a;obtain⟨d,f,rfl⟩: ∃d:Nat,d<10/\i=(d:Int):=⟨i.toNat,by lia,by lia⟩;have e:(PySem.Str.ofString (toString ((d:Nat):Int)))=⟨#[48+((d:Nat):Int).toNat]⟩:=(by decide+kernel: ∀d:Fin 10,(PySem.Str.ofString (toString ((d.val:Nat):Int)))=⟨#[48+((d.val:Nat):Int).toNat]⟩) ⟨d,f⟩;refine qC g s l H _ [u] Q I (.cons h .nil) ⟨_,rfl,?_,by rw[e];exact a.ok_now j eV⟩;exact(by decide+kernel: ∀d:Fin 10,((d.val:Nat):Int).natAbs.log2<1920) ⟨d,f⟩;rw[if_neg b]at a;exact a.elim;cases z
def CD:BOp X ad (.type "list") xO:=by intro g s n H G x v u Q E I d q j h;have a:RK X.K ad G H (match items x with|some xs=>.ow xs|none=>.bad) Q E:=h;rcases e:items x with _|o;rw[e]at a;exact a.elim;rw[e]at a;obtain⟨p,c,rfl,m,i⟩:=q.items d e;have b:SqL X.K H p c\/SqT X.K H p c:=m.elim (λz=>.inr z.2) λz=>.inl z.2;exact qM g s n H [.ref p] [u] Q I (.cons j .nil) ⟨p,c,rfl,b,λl f=>a.ow_new d i f⟩
def z9:BOp X ad (.type "tuple") fW:=by intro f s g H G x v u Q E I c q h m;have a:RK X.K ad G H (match items x with|some xs=>.ok (.tup xs)|none=>.bad) Q E:=m;rcases e:items x with _|o;rw[e]at a;exact a.elim;rw[e]at a;obtain⟨p,i,rfl,b,n⟩:=q.items c e;rcases b with ⟨d,b⟩|⟨d,b⟩;refine jA f s g H [.ref p] [u] Q I (.cons h .nil) ⟨p,i,rfl,.inr ⟨b,a.ok_now c ?_⟩⟩;rcases q with q|⟨_,_,_,z,_⟩;rw[d]at q;exact q;rw[d]at z;cases z;exact jA f s g H [.ref p] [u] Q I (.cons h .nil) ⟨p,i,rfl,.inl ⟨b,λl j=>a.tup_new c n j⟩⟩
theorem rL: ∀{ds} {ns} {vs},iR ds=pi ns->aJ X.K ad G ds vs->vs=ns.map V.int
 |[],ns,vs,e,r=>by
  cases e;unfold aJ at r;exact r
 |d::ds,ns,vs,e,r=>by
  cases d<;>try (unfold iR at e;cases e)
  rename_i i;unfold iR at e;obtain⟨g,f,c⟩:=zMd e;subst c;unfold aJ at r;obtain⟨v,h,rfl,a,b⟩:=r;unfold Rep at a;subst a;rw[rL f b];rfl
theorem nO: ∀{ds} {ns} {vs},fX ds=pi ns->aJ X.K ad G ds vs->vs=ns.map V.bl
 |[],ns,vs,e,r=>by
  cases e;unfold aJ at r;exact r
 |d::ds,ns,vs,e,r=>by
  cases d<;>try (unfold fX at e;cases e)
  rename_i i;unfold fX at e;obtain⟨g,f,c⟩:=zMd e;subst c;unfold aJ at r;obtain⟨v,h,rfl,a,b⟩:=r;unfold Rep at a;subst a;rw[nO f b];rfl
def vM{A}(hh:A.handled=qw)(I:Inv X cc σ H s){p}{vs}(hq:SqL X.K H p vs\/SqT X.K H p vs){Ex:ce}{Q':ce}(k: ∀its s2 I' fp wr Stt,cD vs its->Walks X.prog X.w A I' fp wr its.length (λi v=>its[i]? =pi v) Stt->Stt 0 s2.heap->(∀b∈fp,b<s2.heap.objs.size)->s2.os=s.os->s2.gens=s.gens->s2.drawn=s.drawn->
   (∀b o,s.heap.get? b=pi o->b∉wr)->(∀b o,s.heap.get? b=pi o->s2.heap.get? b=pi o)->Q' (.ref I') s2):wpAny (model X.prog X.w) A (pyIter (.ref p)) Q' Ex s:=by
 rcases hq with hq|hq;obtain⟨its,j,g,_⟩:=I.list hq;have f:p<s.heap.objs.size:=by obtain⟨o,n,e,_⟩:=g;exact ah e
 refine wpAny_pyIter_list g.isList (k its _ s.heap.objs.size [s.heap.objs.size,p] [s.heap.objs.size] (λi h=>h.IsListIter s.heap.objs.size p i/\h.IsList p its.toArray) j ?_ (And.intro ⟨_,af _ rfl,rfl,rfl⟩ ?_) ?_ rfl rfl rfl ?_ ?_);have W:=Walks.list (prog:=X.prog) (w:=X.w) hh s.heap.objs.size p (bh f) its.toArray;simpa using W;obtain⟨o,n,e,c,d⟩:=g;exact⟨o,ae _ e,c,n,d.2⟩;intro b a;rcases av.mp a with rfl|a;rw[ai];exact jz _;have:b=p:=by simpa using a
 subst this;rw[ai];exact jm f;intro b o e a;have:b=s.heap.objs.size:=by simpa using a
 subst this;exact absurd (ah e) (nh _);exact λb o e=>ae _ e;obtain⟨its,j,g,_⟩:=I.tuple hq;have f:p<s.heap.objs.size:=g.lt;refine wpAny_pyIter_tuple (show s.heap.IsTuple p its.toArray from g) (k its _ s.heap.objs.size [s.heap.objs.size,p] [s.heap.objs.size] (λi h=>h.IsTupleIter s.heap.objs.size p i/\h.IsTuple p its.toArray) j ?_ (And.intro ⟨_,af _ rfl,rfl,rfl⟩ ?_) ?_ rfl rfl rfl ?_ ?_);have W:=Walks.tuple (prog:=X.prog) (w:=X.w) hh s.heap.objs.size p (bh f) its.toArray;simpa using W;obtain⟨o,e,c⟩:=g;exact⟨o,ae _ e,c⟩;intro b a;rcases av.mp a with rfl|a;rw[ai];exact jz _;have:b=p:=by simpa using a
 subst this;rw[ai];exact jm f;intro b o e a;have:b=s.heap.objs.size:=by simpa using a
 subst this;exact absurd (ah e) (nh _);exact λb o e=>ae _ e
end
section
variable{X:Cx}{ad:Ad}{cc:cf}{s:Shared}{σ:St}{H G:Hp}{Q:VK}{E:Nat->Hp->Prop}{pos p:Pos}{a b c:Expr}{f g:F}
def _root_.L2.Inv.moved{wr}{s2 s'}(I:Inv X cc σ H s)(k1: ∀b o,s.heap.get? b=pi o->s2.heap.get? b=pi o)(k2: ∀b o,s.heap.get? b=pi o->b∉wr)(e1:s2.os=s.os)(e2:s2.gens=s.gens)(e3:s2.drawn=s.drawn)
  (m:Moved wr (λa b=>b=a) s2 s'):Inv X cc σ H s':=by
 have e:s'={s with heap:=s'.heap,toks:=s'.toks}:=by
  obtain⟨i,h,j,g,p⟩:=s';obtain⟨n,f,c,d,l⟩:=m;simp only at f c d ⊢;rw[f,c,d,e1,e2,e3]
 rw[e];exact I.kept λb o q=>m.heap b o (k2 b o q) (k1 b o q)
def Ky{ns:L1 Int}{its}(r:cD (ns.map V.int) its){i:Nat}{v}(e:its[i]? =pi v): ∃t,v= .int (ns.getD i 0) t:=by
 have c:=r.length;have g:i<its.length:=(ay.mp e).1;have a:i<ns.length:=by rw[aq]at c;lia
 have f:(ns.map V.int)[i]? =pi (V.int ns[i]):=by simp[a]
 obtain⟨u,b,t,d⟩:=r.get f;rw[e]at b;cases b;refine⟨t,?_⟩;rw[d];simp[List.getD,a]
def Gm(hh:X.A.handled=qw):BOp X ad (.builtin "sum") B5:=by intro cc s σ H G x v u Q E I j q J y;have a:RK X.K ad G H (match(items x).bind iR with|some xs=>.ok (.int xs.sum)|none=>.bad) Q E:=y;rcases e:items x with _|l;rw[e]at a;exact a.elim;rw[e]at a;have b:RK X.K ad G H (match iR l with|some xs=>.ok (.int xs.sum)|none=>.bad) Q E:=a;rcases g:iR l with _|h;rw[g]at b;exact b.elim;rw[g]at b;obtain⟨p,o,rfl,M,T⟩:=q.items j e;have f:SqL X.K H p o\/SqT X.K H p o:=M.elim (λz=>.inr z.2) λz=>.inl z.2;cases (show u=qh p from J);have ev:=rL g T;subst ev;refine call_sum_walkAnyS (vM (A:=X.A.in1) hh I f λc Z B O L Y n W C d r N t U w=>?_);refine⟨B,O,L,_,c.length,_,_,λi=>h.getD i 0,rfl,W.toS,C,d,λi v e=>Ky n e,λs' S m=>?_⟩;refine⟨.int h.sum,H,I.moved w U r N t m,⟨S,?_⟩,b.ok_now j bU⟩;rw[preSum_getD, <-n.length,aq,kd]
def NZ{ns:L1 Bool}{its}(r:cD (ns.map V.bl) its){i:Nat}{v}(e:its[i]? =pi v):v= .bool (ns.getD i q7):=by
 have c:=r.length;have h:i<its.length:=(ay.mp e).1;have a:i<ns.length:=by rw[aq]at c;lia
 have g:(ns.map V.bl)[i]? =pi (V.bl ns[i]):=by simp[a]
 obtain⟨u,b,d⟩:=r.get g;rw[e]at b;cases b;have f:v= .bool ns[i]:=d;rw[f];simp[List.getD,a]
def Aa(ns:L1 Bool):(pq ns.length).all (λi=>ns.getD i q7)=ns.all id:=by
 induction ns with
 |nil=>rfl
 |cons x a b=>
  rw[bq,List.range_succ_eq_map,List.all_cons,List.all_map,List.all_cons];have:(pq a.length).all ((λi=>(x::a).getD i q7) ∘ Nat.succ)=a.all id:=by
   rw[<-b];rfl
  rw[this];rfl
def Gn(hh:X.A.handled=qw):BOp X ad (.builtin "all") Ja:=by intro cc s σ H G x v u Q E I g q C w;have a:RK X.K ad G H (match(items x).bind fX with|some xs=>.ok (.bl (xs.all id))|none=>.bad) Q E:=w;rcases e:items x with _|h;rw[e]at a;exact a.elim;rw[e]at a;have b:RK X.K ad G H (match fX h with|some xs=>.ok (.bl (xs.all id))|none=>.bad) Q E:=a;rcases f:fX h with _|r;rw[f]at b;exact b.elim;rw[f]at b;obtain⟨p,l,rfl,L,U⟩:=q.items g e;have d:SqL X.K H p l\/SqT X.K H p l:=L.elim (λz=>.inr z.2) λz=>.inl z.2;cases (show u=qh p from C);have ev:=nO f U;subst ev;refine call_all_walkS (vM (A:=X.A.in1) hh I d λc s2 y O J ab j W B S n M o Z t=>?_);refine⟨y,O,J,_,c.length,_,_,λi=>r.getD i q7,rfl,W.toS,B,?_,λT m=>?_⟩;intro i v T Q' E' N Y;rw[NZ j N];exact wpAny_truthy_bool Y;refine⟨.bl _,H,I.moved t Z n M o m,?_,b.ok_now g dJ⟩;rw[<-j.length,aq,Aa];rfl
def P8{α:Type}{ds:L1 α}(h:ds.length=2): ∃d e,ds=[d,e]:=by rcases ds with _|⟨d,r⟩;cases h;rcases r with _|⟨e,r⟩;cases h;rcases r with _|⟨_,_⟩;exact⟨d,e,rfl⟩;simp at h
def Jf{x}{id}{r}{op:Int->Int->Int}(hd: ∀i j,r [.int i,.int j]= .ok (.int (op i j)))(hb0: ∀x y Q E G H,RK X.K ad G H (r [x,y]) Q E->∃i j,x= .int i/\y= .int j)
  (ho:lJ X (.builtin id) (λxs H Q=>∃i j,xs=[.int i,.int j]/\Q (.int (op i j)) H)) (hg:L2.Gl X x) (hm:X.mg x=qw) (hv:bootBuiltins x=pi (.builtin id)) (ha:ME X ad a f) (hb:ME X ad b g) (hn:x≠"__name__")
  (hdb:(x==gV)=q7) (he:starEach [a,b] X.env=(q7,eval a X.env)::starEach [b] X.env) (he2:starEach [b] X.env=(q7,eval b X.env)::starEach [] X.env):ME X ad (.Call (.Name x p) [a,b] [] pos) (aE r [f,g]):=by
 refine PE.imp (vB (id:=id) ho hg hm hv (oV ha (oV hb zU he2) he) hn hdb he (by rw[he2];rfl)) ?_
 rintro N H Q ⟨G,I,E,B,q,t,w⟩;refine t6 B q t w λL J o A z m s k=>?_
 obtain⟨d,e,rfl⟩:=P8 s;obtain⟨i,j,rfl,rfl⟩:=hb0 d e Q E o A k;unfold aJ at m;obtain⟨v,C,rfl,n,l⟩:=m;unfold aJ at l;obtain⟨M,u,rfl,h,c⟩:=l;unfold aJ at c;subst c;unfold Rep at n h;subst n;subst h;rw[hd]at k;exact⟨i,j,rfl,k.ok_now z.gh bU⟩
def xT(K:oe)(ad:Ad)(n:Nat)(F:Fn):Sp:=λvs H Q E=>∃G ds,Same G H/\aJ K ad G ds vs/\ds.length=n/\RK K ad G H (F ds) Q (λc H'=>E (.ref (ad.cls c)) qw H')
def l6{f}{E}(F:FnOk X.prog X.w X.K X.mg X.base CX k f fd ps sp)(hr:Room k X.A)(hb:eA X.K fd ps [])(I:Inv X cc σ H s)(r:cD vs us)(h:sp vs H Q E)(hx: ∀e s',CX X.stack H s E e s'->X.xe e s'):X.wp (call (.ref f) us) (EP X cc σ Q) X.xe s:=by
 have c:(us++[]).length=ps.length:=by rw[k7, <-r.length];exact F.len _ _ _ _ h
 refine wpAny_call (codeAny_mono (F.run X.A X.stack s H ⟨us,[]⟩ us vs Q E hr I.env0 (by have:=hb s us I.kIn c;rwa [k7]at this) r h) λr s' a=>?_);rcases r with e|b;exact hx e s' a;cases b with
 |ret u=>exact I.after a
 |next=>exact ba a
 |brk=>exact ba a
 |cont=>exact ba a
structure FnGood(X:Cx)(ad:Ad)(k:Nat)(x:Str)(n:Nat)(F:Fn)(f:Addr):Prop where
 mg:X.mg x=pi (.ref f)
 kp:mh X.K (.ref f)=qz
 ok: ∃fd ps,FnOk X.prog X.w X.K X.mg X.base (CXe X.prog X.w) k f fd ps (xT X.K ad n F)/\eA X.K fd ps []
def Ab{F}{f}(T:FnGood X ad k x n F f)(hr:Room k X.A)(I:Inv X cc σ H s)(hG:Same G H)(hx:XP X ad σ E)(r:cD vs us)(rq:aJ X.K ad G ds vs)(hl:ds.length=n)(h:RK X.K ad G H (F ds) Q E):X.wp (call (.ref f) us) (EP X cc σ Q) X.xe s:=by obtain⟨j,l,d,a⟩:=T.ok;exact l6 (E:=xk ad E) d hr a I r ⟨G,ds,hG,rq,hl,h.impE λc i e=>⟨c,rfl,e⟩⟩ λe g b=>hx cc H s e g I b
def Go{F}{f}(T:FnGood X ad k x n F f)(hr:Room k X.A)(hg:L2.Gl X x)(hdb:(x==gV)=q7)(ha:MA X ad (a::es) fs)(hn:fs.length=n)(he:starEach (a::es) X.env=(q7,eval a X.env)::starEach es X.env)(hpl:(backTo pos (starEach es X.env)).any (·.1)=q7):ME X ad (.Call (.Name x p) (a::es) [] pos) (aE F fs):=by
 refine λt s v H Q I o=>o.el λG w E u q l h=>?_;refine wpAny_Call_Name_kw (eT I hg T.mg ?_ hdb);refine i0 (h₀:=X.base) I.ok.mod.kin T.kp (L2.thn (ha pos t s v H (λj d=>∃c b,Step G H b d/\aJ X.K ad b c j/\c.length=fs.length/\RK X.K ad b d (F c) Q E) I
  (t6 u q l h λj c b d i g e k=>⟨c,b,i,g,e,k⟩)) λz y ⟨j,d,m,r,c,b,i,g,e,k⟩=>⟨m.kIn,?_⟩) he hpl
 exact Ab T hr m i.gh l r g (e.trans hn) k
structure FnAt(X:Cx)(ad:Ad)(k:Nat)(n:Nat)(F:Fn)(f:Addr):Prop where
 kp:mh X.K (.ref f)=qz
 ok: ∃fd ps,FnOk X.prog X.w X.K X.mg X.base (CXe X.prog X.w) k f fd ps (xT X.K ad n F)/\eA X.K fd ps []
end
noncomputable def l7(cells:L1 (Str×Addr)):L1 (Str×NameKind)->L1 (Str×Addr)->L1 (Str×Addr)
 |[],acc=>acc
 |(x,k)::r,acc=>l7 cells r (if k== .free then(x,(cells.lookup x).getD 0)::acc else acc)
theorem kX{cells}: ∀{ns} {acc} {x} {c},(l7 cells ns acc).lookup x=pi c->(∃k,(x,k)∈ns/\k= .free/\c=(cells.lookup x).getD 0)\/acc.lookup x=pi c
 |[],acc,x,c,h=>.inr h
 |(y,k)::r,acc,x,c,h=>by
  rcases kX (ns:=r) h with ⟨f,b,g,d⟩|h;exact .inl ⟨f,.tail _ b,g,d⟩;by_cases hk:(k==nu)=qz;rw[if_pos hk,ke]at h;rcases a:x==y with _|_;rw[a]at h;exact .inr h;rw[a]at h;have e:x=y:=eq_of_beq a;subst e;exact .inl ⟨k,.head _,eq_of_beq hk,(ku h).symm⟩;rw[if_neg hk]at h;exact .inr h
theorem vN{cells}: ∀{ns} {acc} {x},(acc.lookup x).isSome=qz->((l7 cells ns acc).lookup x).isSome=qz
 |[],_,_,h=>h
 |(y,k)::r,acc,x,h=>by
  refine vN (ns:=r) ?_;by_cases hk:(k==nu)=qz;rw[if_pos hk,ke];rcases x==y with _|_;exact h;rfl;rw[if_neg hk];exact h
theorem kY{cells}: ∀{ns} {acc} {x},(x,nu)∈ns->((l7 cells ns acc).lookup x).isSome=qz
 |[],_,_,h=>nomatch h
 |(y,k)::r,acc,x,h=>by
  rcases av.mp h with e|h;cases e;refine vN (ns:=r) ?_;rw[if_pos (by rfl),ke,beq_self_eq_true];rfl;exact kY (ns:=r) h
def jY(h: ∀x,(x,nu)∈sc.names->(env.cells.lookup x).isSome=qz):closureFor sc env=pure (l7 env.cells sc.names []):=by
 have n: ∀(d:L1 (Str×NameKind)) (a:L1 (Str×Addr)),(∀x,(x,nu)∈d->(env.cells.lookup x).isSome=qz)->
   (forIn d a (λ(p:Str×NameKind) (b:L1 (Str×Addr))=>if p.2== .free then do let c<-cellOf env p.1;pure (lj ((p.1,c)::b))else pure (lj b)):Sem (L1 (Str×Addr)))=pure (l7 env.cells d a):=by
  intro d;induction d with
  |nil=>intro a _;rfl
  |cons p r l=>
   intro a f;obtain⟨x,k⟩:=p;rw[lm];by_cases hk:(k==nu)=qz;have m:k= .free:=eq_of_beq hk;subst m;obtain⟨c,j⟩:=eh.mp (f x (.head _));have o:cellOf env x=pure c:=by unfold cellOf;rw[j]
   have g:=l ((x,c)::a) λy i=>f y (.tail _ i);simp only[beq_self_eq_true,if_true,o];show(forIn r ((x,c)::a) _:Sem (L1 (Str×Addr)))=_;rw[g];show pure _=pure (l7 env.cells r (if(nu==nu)=qz then(x,(env.cells.lookup x).getD 0)::a else a));rw[if_pos (by rfl),j];rfl;simp only[hk];show(forIn r a _:Sem (L1 (Str×Addr)))=_;rw[l a λy i=>f y (.tail _ i)];show pure _=pure (l7 env.cells r (if(k==nu)=qz then _ else a));rw[if_neg hk]
 have e:=n sc.names [] h;have g:closureFor sc env=((forIn sc.names ([]:L1 (Str×Addr)) (λ(p:Str×NameKind) (b:L1 (Str×Addr))=>if p.2== .free then do let c<-cellOf env p.1;pure (lj ((p.1,c)::b))else pure (lj b)):Sem (L1 (Str×Addr))) >>= λb=>pure b):=rfl;rw[g,e];rfl
theorem cR{env:qm}{x}: ∀{names:L1 (Str×NameKind)},(names.map λ(n,k)=>if(k==nu&&env.scope.kind== .function&&env.kindOf n==pi .cell)then(n,ny)else(n,k)).lookup x=
  (names.lookup x).map λk=>if(k==nu&&env.scope.kind== .function&&env.kindOf x==pi .cell)then ny else k
 |[]=>rfl
 |(n,k)::r=>by
  rw[ni];have c:= @cR env x r;show ph x ((if(k==nu&&env.scope.kind== .function&&env.kindOf n==pi .cell)=qz then(n,ny)else(n,k))::_)=_;by_cases a:(k==nu&&env.scope.kind== .function&&env.kindOf n==pi .cell)=qz;rw[if_pos a,ke,ke];rcases b:x==n with _|_;exact c;have e:x=n:=eq_of_beq b;subst e;simp only[qe,a,if_true];rw[if_neg a,ke,ke];rcases b:x==n with _|_;exact c;have e:x=n:=eq_of_beq b;subst e;simp only[qe];rw[if_neg a]
def MY:Nat->Nat->TGs
 |_,0=>Nn
 |j,n+1=>FA (lH j) (MY (j+1) n)
noncomputable def iL:Nat->L1 V->St->St
 |_,[],σ=>σ
 |j,v::r,σ=>iL (j+1) r (σ.set j (pi v))
theorem Ac: ∀{vs} {j} {σ} {H} {Q:St->Hp->Prop},Q (iL j vs σ) H->MY j vs.length vs σ H Q
 |[],_,_,_,_,h=>⟨rfl,h⟩
 |v::r,j,σ,H,Q,h=>⟨v,r,rfl,Ac (vs:=r) (j:=j+1) (σ:=σ.set j (pi v)) h⟩
theorem gE: ∀{vs} {j} {σ},(iL j vs σ).length=σ.length
 |[],_,_=>rfl
 |v::r,j,σ=>by
  show(iL (j+1) r (σ.set j (pi v))).length=_;rw[gE (vs:=r),lg]
theorem l8: ∀{vs} {j i} {σ},j+vs.length<=i\/i<j->(iL j vs σ)[i]? =σ[i]?
 |[],_,_,_,_=>rfl
 |v::r,j,i,σ,h=>by
  show(iL (j+1) r (σ.set j (pi v)))[i]? =_;simp only[bq]at h;rw[l8 (vs:=r) (by lia),bc (by lia)]
theorem rM: ∀{vs} {j i} {σ} {v},vs[i]? =pi v->j+vs.length<=σ.length->(iL j vs σ)[j+i]? =pi (pi v)
 |[],_,_,_,_,h,_=>by simp at h
 |w::r,j,0,σ,v,h,hl=>by
  simp at h;subst h;show(iL (j+1) r (σ.set j (pi w)))[j]? =_;rw[l8 (vs:=r) (.inr (by lia)),bj (by simp only[bq]at hl;lia)]
 |w::r,j,i+1,σ,v,h,hl=>by
  show(iL (j+1) r (σ.set j (pi w)))[j+(i+1)]? =_;have e:j+(i+1)=(j+1)+i:=by lia
  rw[e];exact rM (vs:=r) (by simpa using h) (by simp only[bq,lg]at hl ⊢;lia)
section
variable{X:Cx}
theorem rN(hN:X.N.Nodup): ∀{es} {xs} {j},eM (λe=>match e with|.Name x _=>pi x|_=>qw) es=pi xs->(∀i x,xs[i]? =pi x->X.N[j+i]? =pi x/\X.env.scope.names.lookup x=pi .local)->PGs X es (MY j xs.length)
 |[],xs,j,e,_=>by
  cases e;exact yT
 |a::es,xs,j,e,h=>by
  unfold eM at e;cases a<;>try (cases e)
  rename_i x n;simp only at e;obtain⟨r,m,g⟩:=zMd e;subst g;obtain⟨c,b⟩:=h 0 x rfl;refine u7 (lI hN (by simpa using c) (.inl b) (.inr b)) (rN hN m λi y l=>?_) rfl;obtain⟨d,f⟩:=h (i+1) y (by simpa using l);exact⟨by rw[<-d];congr 1;lia,f⟩
def gTg(K:oe)(k:Nat):TG:=match k with
 |0=>lH 0
 |n+1=>JB K (n+1) (MY 0 (n+1))
def N0{tg}(hc:X.calm=qz)(hN:X.N.Nodup)(e:cF tg=pi (xs,k))(h: ∀(i:Nat) x,xs[i]? =pi x->X.N[i]? =pi x/\X.env.scope.names.lookup x=pi .local):PG X tg (gTg X.K k):=by
 cases tg<;>try (cases e)
 rename_i x t;obtain⟨g,d⟩:=h 0 x rfl;exact lI hN g (.inl d) (.inr d);rename_i m j t;unfold cF at e;obtain⟨A,c,f⟩:=zBd e;by_cases l:2<=A.length;rw[if_pos l]at f;cases f;have P:=rN (X:=X) hN (j:=0) c λi x q=>by
  obtain⟨g,d⟩:=h i x q;exact⟨by rw[Nat.zero_add];exact g,d⟩
 have b:(assignEach m X.env).length=xs.length/\(assignEach m X.env).findIdx? (·.1)=qw:=by
  clear P l h e;induction m generalizing xs with
  |nil=>cases c;exact⟨rfl,rfl⟩
  |cons a r y=>
   unfold eM at c;cases a<;>try (cases c)
   rename_i z o;simp only at c;obtain⟨C,s,B⟩:=zMd c;subst B;obtain⟨w,v⟩:=y s;have u:assignEach (Expr.Name z o::r) X.env=(q7,assign (.Name z o) X.env)::assignEach r X.env:=rfl;rw[u];refine⟨by simp[w],?_⟩;rw[iz];simp[v]
 obtain⟨n,p⟩: ∃n,xs.length=n+1:=⟨xs.length-1,by lia⟩;rw[p]at P ⊢;exact Ea hc P (by rw[<-p];exact b.1) b.2;rw[if_neg l]at f;cases f
end
structure ItH(X:Cx)(ad:Ad)(J:It)(G H:Hp)(ds:List D):Prop where
 go: ∀(i:Nat) (G1 H1:Hp) (d:D),Step G H G1 H1->ds[i]? =pi d->J.go i H1/\∀x H2,J.yld i H1 x H2->∃G2,Step G1 H1 G2 H2/\Rep X.K ad G2 d x
 stop: ∀(G1 H1:Hp),Step G H G1 H1->J.stop ds.length H1
 few:ds.length<=sizeLine
def IK(X:Cx)(ad:Ad)(G H:Hp)(r:R)(W:It->Hp->Prop)(E:Nat->Hp->Prop):Prop:=match r with
 |.ok d=>∃ds,iK d=pi ds/\∀J G' H',Step G H G' H'->ItH X ad J G' H' ds->W J H'
 |.ow xs=>∀J G' H',Step G H G' H'->ItH X ad J G' H' xs->W J H'
 |.ex c=>∀G' H',Step G H G' H'->E c H'
 |.bad=>False
def tI(X:Cx)(ad:Ad)(f:F):TI:=λσ H W=>∃G ρ E,Same G H/\SL X.K ad G H ρ σ/\XP X ad σ E/\IK X ad G H (f ρ) W E
abbrev MI(X:Cx)(ad:Ad)(tg e:Expr)(f:F):Prop:=PI X tg e (tI X ad f)
def Cel(sc:Scope):Prop:=q9 sc=[]\/∃x,q9 sc=[x]/\sc.names.lookup x=pi .cell
theorem cf0: ∀{ns} {a} {acc},(ns.filter λp=>p.2== .cell).map (·.1)=[]->cellsFrom a ns acc=acc/\∀h,pushCells h ns=h
 |[],_,_,_=>⟨rfl,λ_=>rfl⟩
 |(y,k)::r,a,acc,e=>by
  by_cases hk:(k==ny)=qz;simp[kc,hk]at e;have d:(r.filter λp=>p.2== .cell).map (·.1)=[]:=by simpa[kc,hk]using e
  obtain⟨b,c⟩:=cf0 (a:=a) (acc:=acc) d;unfold cellsFrom pushCells;exact⟨by rw[if_neg hk];exact b,λh=>by rw[if_neg hk];exact c h⟩
theorem cf1: ∀{ns} {a} {acc} {x},(ns.filter λp=>p.2== .cell).map (·.1)=[x]->cellsFrom a ns acc=(x,a)::acc/\∀h,pushCells h ns=h.push {cls:=.type "cell",data:=.cell qw}
 |[],_,_,_,e=>by simp at e
 |(y,k)::r,a,acc,x,e=>by
  by_cases hk:(k==ny)=qz;have b:y=x/\(r.filter λp=>p.2== .cell).map (·.1)=[]:=by simpa[kc,hk]using e
  obtain⟨rfl,b⟩:=b;obtain⟨c,d⟩:=cf0 (a:=a+1) (acc:=(y,a)::acc) b;unfold cellsFrom pushCells;exact⟨by rw[if_pos hk];exact c,λh=>by rw[if_pos hk];exact d _⟩;have b:(r.filter λp=>p.2== .cell).map (·.1)=[x]:=by simpa[kc,hk]using e
  obtain⟨c,d⟩:=cf1 (a:=a) (acc:=acc) b;unfold cellsFrom pushCells;exact⟨by rw[if_neg hk];exact c,λh=>by rw[if_neg hk];exact d h⟩
def clC(X:Cx)(sc:Scope)(L:Addr):L1 (Str×Addr):=cellsFrom (L+1) sc.names (l7 X.env.cells sc.names [])
def gF(hc:Cel sc)(h:(clC X sc L).lookup y=pi c):(q9 sc=[y]/\c=L+1)\/(l7 X.env.cells sc.names []).lookup y=pi c:=by unfold clC at h;rcases hc with e|⟨x,e,_⟩;rw[(cf0 e).1]at h;exact .inr h;rw[(cf1 e).1,ke]at h;rcases q:y==x with _|_;rw[q]at h;exact .inr h;rw[q]at h;rw[eq_of_beq q];exact .inl ⟨e,(ku h).symm⟩
def Ae(e:q9 sc=[x]):(clC X sc L).lookup x=pi (L+1):=by unfold clC;rw[(cf1 e).1,ke,beq_self_eq_true]
def vO(hc:Cel sc)(hy:sc.names.lookup y=pi .free)(h:(l7 X.env.cells sc.names []).lookup y=pi c):(clC X sc L).lookup y=pi c:=by unfold clC;rcases hc with e|⟨x,e,hx⟩;rw[(cf0 e).1];exact h;rw[(cf1 e).1,ke];rcases q:y==x with _|_;exact h;rw[eq_of_beq q,hx]at hy;cases hy
def cX(X:Cx)(N':L1 Str)(sc:Scope)(s3:Shared)(H3:Hp)(fp:L1 Addr)(cc:cf):Cx:=
 {X with N:=N',s₀:=s3,H₀:=H3,env:=compEnvC sc (clC X sc s3.z) s3.z X.env,outer:=X.stack,stack:=X.stack,ex:=fp,fn:=λy=>decide (q9 sc=[y]),pn:=X.pn++cc,xe:=λ_ _=>False}
section
variable{ad:Ad}{σ:St}{fp:L1 Addr}
def CF{σ}(h:Y.xe=λ_ _=>False):XP Y ad σ (λ_ _=>False):=by intro g H s e j I a;obtain⟨f,b,i,d,B,_,_,_,_,_,_,_,_,_,c,_,z⟩:=a;exact z.elim
def Un.sameBut(u:Un fs ex H H' h h1)(sb:oq C h1 h2)(hC:h.objs.size<=C):Un fs ex H H' h h2:=by
 have d: ∀b o,h.get? b=pi o->b≠C:=λb o e z=>by
  subst z;exact absurd (bg (ah e) hC) (nh _)
 refine⟨λb o e n c a=>?_,λb o e n c a=>?_,u.free,λb o e a=>?_,u.tups,u.frzs,u.tbls⟩;exact(sb.2 b (d b o e)).trans (u.keep b o e n c a);obtain⟨f,z⟩:=u.slot b o e n c a;exact⟨f,(sb.2 b (d b o e)).trans z⟩;obtain⟨g,z⟩:=u.there b o e a;exact⟨g,(sb.2 b (d b o e)).trans z⟩
def CG{fpO: ∀b∈fp,oJ X cc H3 b}(I:Inv X cc σ H3 s3)(hk:sc.kind= .function)(hc:Cel sc)(hfree: ∀x,(x,nu)∈sc.names->X.env.kindOf x=pi .cell\/X.env.kindOf x=pi .free)(hnd: ∀x,(x,nu)∈sc.names->sc.names.lookup x=pi .free)(hfo: ∀b∈fp,b<s3.heap.objs.size)(hns:h4.Ns s3.heap.objs.size m)(hkeep: ∀b o,s3.heap.get? b=pi o->h4.get? b=pi o)(hnew: ∀x,q9 sc=[x]->h4.IsCell (s3.heap.objs.size+1) qw){σc:St}(hl:σc.length=N'.length)(hσ: ∀(i:Nat) x v,N'[i]? =pi x->σc[i]? =pi (pi v)->∃j:Nat,X.N[j]? =pi x/\σ[j]? =pi (pi v)/\(x,nu)∈sc.names):
  Inv (cX X N' sc s3 H3 fp cc) [] σc H3 {s3 with heap:=h4,toks:=t'}:=by
 have f: ∀x c,(l7 X.env.cells sc.names []).lookup x=pi c->(x,nu)∈sc.names/\X.env.cells.lookup x=pi c:=λx c e=>by
  rcases kX e with ⟨k,A,s,S⟩|h
  .subst s;refine⟨A,?_⟩;obtain⟨c',g⟩:=I.ok.has x (hfree x A);rw[g]at S;rw[S];exact g
  .cases h
 have J: ∀x c,(l7 X.env.cells sc.names []).lookup x=pi c->c<s3.heap.objs.size:=λx c e=>by
  obtain⟨v,o,H,_⟩:=I.cell x c (f x c e).2;exact ah H
 have L: ∀b,b∈frs X.stack->b=X.env.locals\/b∈X.fs:=λb t=>av.mp (I.stkSub b t)
 refine⟨⟨I.ok.mod,hk,I.ok.glob,I.ok.blt,aj _,λx y c A s=>?_,λx hx=>?_,λx c A s=>?_,I.ok.hd,I.ok.frames,.inl rfl,λb t=>?_,I.bs,om I.ok.bsz I.sz,λb o e t=>?_,λb t ad=>?_,I.stack,I.stkFree⟩,
  rfl,I.bare,Un.kept hkeep,⟨m,hns,λi x v A s S=>?_⟩,λx c h=>?_,I.hok.fresh (aj _),λx c h=>?_,λq hq=>?_,I.hok.kept hkeep,hl⟩
 .rcases gF hc A with ⟨W,O⟩|O
  .rcases gF hc s with ⟨K,E⟩|E
   .rw[W]at K;exact(nr K).1
   .have:=J y c E
    rw[O]at this;exact absurd this (Nat.not_lt.mpr (pj _))
  .rcases gF hc s with ⟨K,E⟩|E
   .have:=J x c O
    rw[E]at this;exact absurd this (Nat.not_lt.mpr (pj _))
   .exact I.ok.inj x y c (f x c O).2 (f y c E).2
 .
  have e:(sc.names.lookup x).map (λk=>if(k==nu&&X.env.scope.kind== .function&&X.env.kindOf x==pi .cell)then ny else k)=pi .cell\/(sc.names.lookup x).map (λk=>if(k==nu&&X.env.scope.kind== .function&&X.env.kindOf x==pi .cell)then ny else k)=pi .free:=by
   rw[<-cR];exact hx
  cases q:sc.names.lookup x with
  |none=>rw[q]at e;rcases e with e|e<;>cases e
  |some k=>
   have hm:=ii q
   by_cases B:k= .free
   .subst B;obtain⟨c,g⟩:=eh.mp (kY (cells:=X.env.cells) (acc:=[]) hm);exact⟨c,vO hc q g⟩
   .have ab:(k==nu)=q7:=by simpa using B
    rw[q]at e;simp only[qe,ab,Bool.false_and]at e;rcases e with e|e
    .have ag:k= .cell:=by simpa using e
     subst ag;have p:x∈q9 sc:=au.mpr ⟨(x,.cell),kz.mpr ⟨hm,by simp⟩,rfl⟩
     have C:q9 sc=[x]:=by
      rcases hc with z|⟨y,z,_⟩
      .rw[z]at p;cases p
      .rw[z]at p ⊢;rw[i3.mp p]
     exact⟨_,Ae C⟩
    .exact absurd (by simpa using e) B
 .have C:q9 sc=[x]:=of_decide_eq_true A
  have:=s.symm.trans (Ae C)
  cases this;exact pj _
 .obtain⟨f0,Q,Z,U,f4,f5⟩:=fpO b t;refine⟨bh (hfo b t),λx c h=>?_⟩
  rcases gF hc h with ⟨_,z⟩|z
  .rw[z];exact(bh (jm (hfo b t))).symm
  .exact f4 x c (f x c z).2
 .obtain⟨f0,Q,Z,U,f4,f5⟩:=fpO b t;rcases U with z|z
  .exact I.ok.noex b o e z
  .exact absurd (bg (ah e) (om I.ok.bsz z)) (nh _)
 .obtain⟨f0,Q,Z,U,f4,f5⟩:=fpO b t;rcases L b ad with z|z
  .exact Q z
  .exact Z z
 .obtain⟨j,j1,j2,M⟩:=hσ i x v A s;obtain⟨m0,am,T⟩:=I.loc;have G:=hfree x M
  have Y:Vis X.env.scope x:=by
   rcases G with z|z
   .exact .inr (.inl z)
   .exact .inr (.inr z)
  obtain⟨u,r,l⟩:=T j x v j1 j2 Y;refine⟨u,r,.inr ?_⟩;rcases l with ⟨z,_⟩|⟨_,c,al,w⟩
  .rcases G with z'|z'
   .have:X.env.kindOf x=pi .local:=z
    rw[z']at this;cases this
   .have:X.env.kindOf x=pi .local:=z
    rw[z']at this;cases this
  .refine⟨?_,c,?_,?_⟩
   .have W:(relabel sc X.env).names.lookup x=(sc.names.lookup x).map (λk=>if(k==nu&&X.env.scope.kind== .function&&X.env.kindOf x==pi .cell)then ny else k):=cR
    have K:(relabel sc X.env).names.lookup x=pi .cell\/(relabel sc X.env).names.lookup x=pi .free:=by
     rw[W,hnd x M];simp only[qe];split
     .exact .inl rfl
     .exact .inr rfl
    exact K
   .obtain⟨c',g⟩:=eh.mp (kY (cells:=X.env.cells) (acc:=[]) M)
    have:=(f x c' g).2
    rw[al]at this;cases this;exact vO hc (hnd x M) g
   .obtain⟨o,H,hd⟩:=w;exact⟨o,hkeep _ _ H,hd⟩
 .rcases gF hc h with ⟨e,z⟩|z
  .rw[z];exact⟨qw,hnew x e⟩
  .obtain⟨v,o,H,hd⟩:=I.cell x c (f x c z).2;exact⟨v,o,hkeep _ _ H,hd⟩
 .rcases gF hc h with ⟨e,z⟩|z
  .rw[z];exact I.hok.fresh (pj _)
  .exact I.freeC x c (f x c z).2
 .have ak:q∈X.pn++cc:=by
   have s:q∈(X.pn++cc)++[]:=hq
   rwa [k7]at s
  obtain⟨e,n,ne,nf,d⟩:=I.pin q ak;refine⟨hkeep _ _ e,n,bh (ah e),λz=>?_,d⟩
  rcases L _ z with z|z
  .exact ne z
  .exact nf z
def ED{fpO: ∀b∈fp,oJ X cc H3 b}{σc:St}(I:Inv X cc σ H3 s3)(J:Inv (cX X N' sc s3 H3 fp cc) pn' σc H' s')(sb:oq s3.z s'.heap h'):Inv X cc σ H' {s' with heap:=h'}:=by
 have a:H' s3.z=qw:=J.free;refine I.call' (ch:=fp) (s':={s' with heap:=h'}) J.os (Un.sameBut J.base sb (aj _)) (λb u e=>?_) J.bare λb f=>?_;refine(J.hok b u e).stay (λc v g q=>?_) (λ_ q=>q) λ_ _ q=>q;have l:c≠s3.z:=by
  rintro rfl;rcases g with z|z;rw[<-z]at e;rw[a]at e;cases e;rw[a]at z;cases z
 exact(sb.2 c l).trans q;obtain⟨n,d,m,j,h,i⟩:=fpO b f;exact⟨j,d,h,i⟩
def t7(Iv:Nat->Shared->Prop)(turn: ∀n s,Iv n s->wpAny (model prog w) A (pyNext it) (λr s₁=>match r with
   |none=>Rr (.ok .next) s₁
   |some v=>wpAny (model prog w) A (letOwnedTupleGo target it v) (λ_ s₁'=>wpAny (model prog w) A (assign target env v) (λ_ s₂=>
     wpAny (model prog w) A (forIn ifs qz λc r=>if r=qz then do let ok<-isTrue c env (eval c env);pure (lj ok)else pure (lj r)) (λok s₃=>
      if ok=qz then wpAny (model prog w) A (eval elt env) (λx s₄=>
       wpAny (model prog w) A (call (.builtin "list.append") [acc,x]) (λ_ s₅=>∃m,m<n/\Iv m s₅) (λ_ _=>False) s₄) (λ_ _=>False) s₃
      else ∃m,m<n/\Iv m s₃) (λ_ _=>False) s₂) (λ_ _=>False) s₁') (λ_ _=>False) s₁) (λ_ _=>False) s)n(h:Iv n s):
  codeAny (model prog w) A (.compLoop (.ListComp elt [⟨target,iter,ifs,0⟩] scope pos) 0 it acc env) Rr s:=by
 refine codeAny_loop rfl Iv (λn s j=>?_) n h;show wpAny _ A ((compTurn (.ListComp elt [⟨target,iter,ifs,0⟩] scope pos) 0 it acc env).onRaise (λx=>do noteFrame x env;theTreesLotGoes x)) _ _ s;refine wpAny_noted (wpAny_noRaise ?_);rw[compTurn_list];refine aa (wpAny_standAt (aa (wpAny_mono (turn n s j) (λr s₁ d=>?_) λ_ _ a=>a)));rcases r with _|v;exact ac d;refine aa (wpAny_mono d (λ_ s₁' e=>?_) λ_ _ a=>a);refine aa (wpAny_mono e (λ_ s₂ g=>aa (wpAny_mono g (λok s₃ b=>?_) λ_ _ a=>a)) λ_ _ a=>a);rcases ok with _|_;exact ac ⟨rfl,b⟩;exact aa (aa (wpAny_mono b (λx s₄ i=>aa (wpAny_mono i (λ_ s₅ f=>ac (ac ⟨rfl,f⟩)) λ_ _ a=>a)) λ_ _ a=>a))
def l9(h:bC f (d::r)=pi all):(f d=pi qw/\bC f r=pi all)\/∃x all',f d=pi (pi x)/\bC f r=pi all'/\all=x::all':=by unfold bC at h;rcases e:f d with _|o;rw[e]at h;cases h;rw[e]at h;rcases o with _|x;exact .inl ⟨rfl,h⟩;obtain⟨a,b,c⟩:=zMd h;exact .inr ⟨x,a,rfl,b,c.symm⟩
def Af{K}{ts cs:L1 Slot}{σ}(h:SL K ad G H (ts++cs) σ):SL K ad G H (ao ts.length .no++cs) σ:=by
 refine⟨by rw[<-h.len];simp,λi c e=>?_⟩;by_cases a:i<ts.length;rw[bx (by simpa using a),eu,if_pos a]at e;cases e;have b:i<σ.length:=by rw[<-h.len,bo];lia
 exact⟨σ[i],by simp[b],trivial⟩;rw[bn (by simpa using a),gj]at e;refine h.at_ i c ?_;rw[bn (by lia)];exact e
def EE{K}{cs:L1 Slot}{σ}(h:SL K ad G H (ao n .no++cs) σ)(r:aJ K ad G ds vs)(hn:ds.length=n):SL K ad G H (ds.map Slot.sh++cs) (iL 0 vs σ):=by have q:=r.length;have l:=h.len;rw[bo,gj]at l;refine⟨by rw[gE,bo,aq];lia,λi c e=>?_⟩;by_cases p:i<n;rw[bx (by rw[aq];lia),ji]at e;rcases a:ds[i]? with _|d;rw[a]at e;cases e;rw[a]at e;cases e;obtain⟨v,o,f⟩:=r.get a;refine⟨pi v,?_,v,rfl,f⟩;have:=rM (j:=0) (σ:=σ) o (by lia);rwa [Nat.zero_add]at this;rw[bn (by rw[aq];lia),aq,hn]at e;obtain⟨g,b,m⟩:=h.at_ i c (by rw[bn (by rw[gj];lia),gj];exact e);exact⟨g,by rw[l8 (.inl (by lia))];exact b,m⟩
def Kz{K}{ts cs:L1 Slot}{σ}{W:St->Hp->Prop}(e:tgt k d=pi ts)(hn:n=if k=0 then 1 else k)(hG:Same G H)(r:Rep K ad G d v)(h:SL K ad G Hs (ao n .no++cs) σ)(q: ∀σ',σ'.length=σ.length->SL K ad G Hs (ts++cs) σ'->W σ' H):ts.length=n/\gTg K k v σ H W:=by
 rcases k with _|k;cases e;subst hn;refine⟨rfl,q _ (by rw[lg]) ?_⟩;have:=EE (ds:=[d]) (vs:=[v]) h (aJ.cons r aJ.nil) rfl;exact this;unfold tgt at e;cases d<;>try (cases e)
 rename_i ds;simp only at e;by_cases b:ds.length=k+1;rw[if_pos b]at e;cases e;rw[if_neg (by lia)]at hn;subst hn;unfold Rep at r;obtain⟨a,vs,rfl,g,c⟩:=r;refine⟨by rw[aq];exact b,a,vs,rfl,hG.seqT g,by rw[c.length];exact b,?_⟩;have f:vs.length=k+1:=by rw[c.length];exact b
 have:=Ac (vs:=vs) (j:=0) (σ:=σ) (H:=H) (Q:=W) (q _ gE (EE h c b));rwa [f]at this;rw[if_neg b]at e;cases e
end
section
variable{X:Cx}{ad:Ad}{cc:cf}{s2 s3:Shared}{σ:St}{H H2 H3 G2:Hp}{pos:Pos}{sc:Scope}{N':L1 Str}{fp:L1 Addr}{tg it elt:Expr}{ifs:L1 Expr}{k nt:Nat}{cs:L1 Slot}{fc:L7 F}{fe:F}
theorem gG{x}: ∀{N} {i},idx x N=pi i->N[i]? =pi x
 |[],_,e=>by cases e
 |y::r,i,e=>by
  unfold idx at e;by_cases h:x=y;rw[if_pos h]at e;cases e;subst h;rfl;rw[if_neg h]at e;obtain⟨j,b,a⟩:=zMd e;subst a;simpa using gG b
def MTs(X:Cx)(ad:Ad)(ifs:L1 Expr)(fc:L7 F):Prop:=match ifs,fc with
 |[],qw=>True
 |[c],pi f=>MT X ad c f
 |_,_=>False
def ME.val(ha:ME X ad a f)(I:Inv X cc σ H s)(hG:Same G H)(hS:SL X.K ad G H ρ σ)(hx:XP X ad σ E)(hf:f ρ= .ok x\/∃l,f ρ= .ow l/\x= .lst l):
  X.wp (eval a X.env) (λu s1=>∃v G1 H1,Inv X cc σ H1 s1/\bG v u/\Step G H G1 H1/\Rep X.K ad G1 x v) X.xe s:=by
 rcases hf with e|⟨l,e,rfl⟩;exact L2.thn (ha cc s σ H (λv H1=>∃G1,Step G H G1 H1/\Rep X.K ad G1 x v) I ⟨G,ρ,E,hG,hS,hx,by rw[e];exact λv G1 H1 c q=>⟨G1,c,q⟩⟩) λu s1 b=>by obtain⟨v,H1,d,g,G1,c,q⟩:=b;exact⟨v,G1,H1,d,g,c,q⟩
 exact L2.thn (ha cc s σ H (λv H1=>∃G1,Step G H G1 H1/\Rep X.K ad G1 (.lst l) v) I ⟨G,ρ,E,hG,hS,hx,by
  rw[e];intro p h G1 H1 c n m j q;have i:=q.mono (Same.upd_new (o:=.lst h) m);exact⟨upd G1 p (.lst h),c.share n m j,by unfold Rep;exact⟨p,h,rfl,SqL.of aH,i⟩⟩⟩) λu s1 b=>by obtain⟨v,H1,d,g,G1,c,q⟩:=b;exact⟨v,G1,H1,d,g,c,q⟩
def MT.val{k}(ha:MT X ad a f)(I:Inv X cc σ H s)(hG:Same G H)(hS:SL X.K ad G H ρ σ)(hx:XP X ad σ E)(hf:f ρ= .ok (.bl k)):
  X.wp (isTrue a X.env (eval a X.env)) (λb s1=>b=k/\∃G1 H1,Inv X cc σ H1 s1/\Step G H G1 H1) X.xe s:=by
 exact L2.thn (ha cc s σ H (λb H1=>b=k/\∃G1,Step G H G1 H1) I ⟨G,ρ,E,hG,hS,hx,.inl ⟨k,hf⟩,by rw[hf];exact λv G1 H1 c q=>⟨k,by unfold Rep at q;exact q,rfl,G1,c⟩⟩) λb s1 d=>by obtain⟨H1,g,e,G1,c⟩:=d;exact⟨e,G1,H1,g,c⟩
def jH{G1 H1 G2 H2}{D}(st:Step G1 H1 G2 H2)(g:G1 D=qw)(h:H1 D=pi (.lst vs)):G2 D=qw/\H2 D=pi (.lst vs):=by refine⟨?_,st.sh _ _ h⟩;rcases z:G2 D with _|o;rfl;have:=st.nw D g (by rw[z];exact λz=>nomatch z);rw[h]at this;cases this
def rO{G1 H1 G2 H2}{D}(st:Step G1 H1 G2 H2)(n:H1 D=qw)(g:G2 D=qw):Step G1 H1 G2 (upd H2 D o):=by
 refine⟨st.sg,λb u e=>?_,λb u e=>?_,st.nw⟩;have a:b≠D:=λz=>by subst z;rw[g]at e;cases e
 rw[aC a];exact st.gh b u e;have a:b≠D:=λz=>by subst z;rw[n]at e;cases e
 rw[aC a];exact st.sh b u e
noncomputable def hid(D:Addr)(H:Hp):Hp:=λb=>if b=D then qw else H b
def mB{D b}{H}(h:b≠D):hid D H b=H b:=by unfold hid;rw[if_neg h]
def hX{D}{H}:hid D H D=qw:=by unfold hid;rw[if_pos rfl]
def Ag{D}{H}:Same (hid D H) H:=λb o e=>by
 by_cases z:b=D;subst z;rw[hX]at e;cases e;rwa [mB z]at e
def Ah{D}{H}:hid D (upd H D o)=hid D H:=by funext b;by_cases z:b=D;subst z;rw[hX,hX];rw[mB z,mB z,aC z]
def KA{D}{H}(h:H D=qw):hid D H=H:=by funext b;by_cases z:b=D;subst z;rw[hX,h];rw[mB z]
def kZ{G1 H1 G2 H2}{D}(st:Step G1 H1 G2 H2)(g:G2 D=qw):Step G1 (hid D H1) G2 (hid D H2):=by
 refine⟨st.sg,λb u e=>?_,λb u e=>?_,λb c d=>?_⟩;have a:b≠D:=λz=>by subst z;rw[g]at e;cases e
 rw[mB a];exact st.gh b u e;have a:b≠D:=λz=>by subst z;rw[hX]at e;cases e
 rw[mB a]at e ⊢;exact st.sh b u e;by_cases z:b=D;subst z;exact hX;rw[mB z];exact st.nw b c d
theorem SL.up{K}{G H H'}{σ}(h:SL K ad G H ρ σ)(s:Same H H'):SL K ad G H' ρ σ:=by refine⟨h.len,λi m e=>?_⟩;obtain⟨o,n,f⟩:=h.at_ i m e;refine⟨o,n,?_⟩;rcases m with _|d|w|kvs|kvs|⟨C,r⟩;trivial;exact f;obtain⟨a,u,c,b,g,j⟩:=f;exact⟨a,u,c,b,s _ _ g,j⟩;obtain⟨a,l,c,b,g,j⟩:=f;exact⟨a,l,c,b,s _ _ g,j⟩;obtain⟨a,l,c,b,g,j⟩:=f;exact⟨a,l,c,b,s _ _ g,j⟩;obtain⟨p,v,d,q,t,c,b⟩:=f;exact⟨p,v,d,q,t,c,b.up s⟩
def CH{Ex:ce}{s:Shared}{sc}(hc:Cel sc)(h: ∀h4,h4.Ns s.z (λ_=>qw)->(∀b ob,s.heap.get? b=pi ob->h4.get? b=pi ob)->(∀x,q9 sc=[x]->h4.IsCell (s.z+1) qw)->
   Q (newEnv sc s.z gl (cellsFrom (s.z+1) sc.names cl) q qw .none (pi o) builtinsNs) {s with heap:=h4}):
  wpAny M A (newFunctionEnv sc gl cl [] q qw .none (pi o)) Q Ex s:=by
 simp only[newFunctionEnv,Option.isSome_some,if_true];refine aa (wpAny_alloc ?_);refine aa (wpAny_layCells _ (λj c g=>by cases f:c==ny<;>simp[f]) _ _ _ _ ?_);have i:(s.heap.push {cls:=.type "dict",data:=.dict #[]}).Ns s.z (λ_=>qw):=Heap.Ns.new s.heap (.type "dict");have d: ∀b ob,s.heap.get? b=pi ob->(pushCells (s.heap.push {cls:=.type "dict",data:=.dict #[]}) sc.names).get? b=pi ob:=λb ob e=>pushCells_keeps _ _ b ob (ae _ e);have l:(s.heap.push {cls:=.type "dict",data:=.dict #[]}:Heap).objs.size=s.z+1:=ai ..;rw[mo];refine aa (ac (ac ?_));have:=h _ (i.keeps (pushCells_keeps _ _)) d λx e=>by
  rw[(cf1 (a:=0) (acc:=[]) e).2];refine⟨{cls:=.type "cell",data:=.cell qw},?_,rfl⟩;rw[<-l];exact af _ rfl
 rw[<-l]at this;exact this
def rP{J}{ds all}{itA}{tn}{RR:Value->Addr->Result->Shared->Prop}{Ex:ce}(hc:X.calm=qz)(I2:Inv X cc σ H2 s2)(T:Turn X.prog X.w X.K tg J fp itA tn)(st2:tn 0 s2.heap)
  (f2: ∀b∈fp,oJ X cc H2 b) (hit:ItH X ad J G2 H2 ds) (hgo:bC (dQ k cs fc fe) ds=pi all) (hG2:Same G2 H2)
  (hk:sc.kind= .function) (hC:Cel sc)
  (hfree: ∀x,(x,nu)∈sc.names->X.env.kindOf x=pi .cell\/X.env.kindOf x=pi .free) (hnd: ∀x,(x,nu)∈sc.names->sc.names.lookup x=pi .free)
  {σc} (hl:σc.length=N'.length) (hσ: ∀(i:Nat) x v,N'[i]? =pi x->σc[i]? =pi (pi v)->∃j:Nat,X.N[j]? =pi x/\σ[j]? =pi (pi v)/\(x,nu)∈sc.names)
  (hnt:nt=if k=0 then 1 else k) (hsl:SL X.K ad G2 H2 (ao nt .no++cs) σc)
  (hg: ∀s3 H3 pins',PG (cX X N' sc s3 H3 fp pins') tg (gTg X.K k)) (hts: ∀s3 H3 pins',MTs (cX X N' sc s3 H3 fp pins') ad ifs fc) (he: ∀s3 H3 pins',ME (cX X N' sc s3 H3 fp pins') ad elt fe)
  (hEnd: ∀s3 s' H3 H' G' (σ':St) D vs,Inv X cc σ H3 s3->(∀b∈fp,oJ X cc H3 b)->Inv (cX X N' sc s3 H3 fp cc) [] σ' H' s'->Step G2 H2 G' H'->H2 D=qw->G' D=qw->H' D=pi (.lst vs)->aJ X.K ad G' all vs->RR (.ref D) s3.heap.objs.size (.ok .next) s'):
  X.wp (newList []) (λacc s₃=>X.wp (newFunctionEnv sc X.env.globals (l7 X.env.cells sc.names []) [] X.env.qual qw .none (pi X.env)) (λcenv s₄=>
   codeAny (model X.prog X.w) X.A (.compStart (.ListComp elt [⟨tg,it,ifs,0⟩] sc pos) 0 (.ref itA) acc {cenv with scope:=relabel sc X.env}) (RR acc cenv.locals) s₄) Ex s₃) Ex s2:=by
 refine wpAny_newObj_type ?_
 have hD:H2 s2.heap.objs.size=qw:=I2.fresh
 have I3:Inv X cc σ (upd H2 s2.heap.objs.size (.lst [])) {s2 with heap:=s2.heap.push {cls:=.type "list",data:=.seq ([]:L1 Value).toArray} }:=I2.lnew (t':=s2.toks) .nil (bu _)
 generalize e3:({s2 with heap:=s2.heap.push {cls:=.type "list",data:=.seq ([]:L1 Value).toArray} }:Shared)=s3 at I3
 have a1:s3.heap.objs.size=s2.heap.objs.size+1:=by rw[<-e3];exact ai ..
 have da: ∀b o,s2.heap.get? b=pi o->s3.heap.get? b=pi o:=λb o e=>by rw[<-e3];exact ae _ e
 generalize eD:s2.heap.objs.size=D at hD I3 a1 ⊢;generalize eH:upd H2 D (.lst [])=H3 at I3
 have b2:H3 D=pi (.lst []):=by rw[<-eH];exact aH
 have a3:Step G2 H2 G2 H3:=by rw[<-eH];exact Step.own hG2 hD
 have a5: ∀b∈fp,b<D:=λb p=>by
  obtain⟨o,e,_⟩:=T.obj 0 _ st2 b p;rw[<-eD];exact ah e
 have f3: ∀b∈fp,oJ X cc H3 b:=λb p=>by
  obtain⟨f0,fr⟩:=f2 b p;refine⟨?_,fr⟩;rw[<-eH,aC (bh (a5 b p))];exact f0
 refine CH hC λh4 cw M b1=>?_
 have I4:Inv (cX X N' sc s3 H3 fp cc) [] σc H3 {s3 with heap:=h4}:=
  CG (t':=s3.toks) (fpO:=f3) I3 hk hC hfree hnd (λb p=>bg (a5 b p) (by rw[a1];exact pj _)) cw M b1 hl hσ
 have ca:tn 0 h4:=T.keep _ _ _ st2 λb p o e=>M b o (da b o e)
 have few:=hit.few
 have ak: ∀{H':Hp},(∀b∈fp,H' b=qw)->∀b∈fp,oJ (cX X N' sc s3 H3 fp cc) [] H' b:=λ{H'} hn b p=>by
  obtain⟨f0,f1,c1,df,f4,f5⟩:=f3 b p;refine⟨hn b p,?_,λz=>?_,.inl p,λx c h=>?_,λq hq=>?_⟩
  .have bv:D<=s3.heap.objs.size:=by rw[a1];exact pj _
   exact bh (bg (a5 b p) bv)
  .rcases av.mp (I3.stkSub b z)with z|z
   .exact f1 z
   .exact c1 z
  .rcases gF hC h with ⟨_,z⟩|h'
   .have bv:D<=s3.heap.objs.size:=by rw[a1];exact pj _
    rw[z];exact(bh (jm (bg (a5 b p) bv))).symm
   rcases kX h' with ⟨kk,h1,h2,h3⟩|h
   .subst h2;obtain⟨c',b4⟩:=I3.ok.has x (hfree x h1);rw[b4]at h3
    have e:c=c':=h3
    rw[e];exact f4 x c' b4
   .cases h
  .have h2:q∈(X.pn++cc)++[]:=hq;rw[k7]at h2;exact f5 q h2
 have a7: ∀s4:Shared,s4={s3 with heap:=h4}->
   codeAny (model X.prog X.w) X.A (.compLoop (.ListComp elt [⟨tg,it,ifs,0⟩] sc pos) 0 (.ref itA) (.ref D) (cX X N' sc s3 H3 fp cc).env) (RR (.ref D) s3.heap.objs.size) s4:=by
  rintro s4 rfl
  obtain⟨Iv,bw⟩: ∃Iv:Nat->Shared->Prop, ∀n s',Iv n s'↔ ∃(i:Nat) (σ':St) (H' G':Hp) (ys dO:L1 SK.D) (vs:L1 V),Inv (cX X N' sc s3 H3 fp cc) [] σ' H' s'/\tn i s'.heap/\(∀b∈fp,H' b=qw)/\Step G2 H2 G' H'/\G' D=qw/\H' D=pi (.lst vs)/\aJ X.K ad G' ys vs/\
   bC (dQ k cs fc fe) (ds.drop i)=pi dO/\ys++dO=all/\i<=ds.length/\n=ds.length-i/\ys.length<=i/\SL X.K ad G' (hid D H') (ao nt .no++cs) σ':=⟨_,λ_ _=>Iff.rfl⟩
  refine t7 Iv ?_ ds.length
   ((bw _ _).mpr ⟨0,σc,H3,G2,[],all,[],I4,ca,λb p=>(f3 b p).1,a3,rC hG2 hD,b2,aJ.nil,hgo,rfl,bu _,rfl,aj _,by rw[<-eH,Ah,KA hD];exact hsl⟩)
  intro n s5 ct;obtain⟨i,as,H5,G5,ys,dO,vs,I5,b6,b5,ap,cj,b3,r5,al,an,db,rfl,dg,cv⟩:=(bw _ _).mp ct
  by_cases ch:i<ds.length
  .
   have ed:ds[i]? =pi ds[i]:=by simp[ch]
   generalize ds[i]=d at ed
   have br:ds.drop i=d::ds.drop (i+1):=by
    rw[dz ch]
    congr 1
    have:=ay.mp ed
    exact this.2
   rw[br]at al;obtain⟨go,yl⟩:=hit.go i G5 H5 d ap ed;refine L2.thn (T.item (cX X N' sc s3 H3 fp cc) rfl rfl rfl hc i [] s5 as H5 (λ_ _=>False) I5 (ak b5) b6 go) λr s6 f=>?_
   obtain⟨u,hr,h6⟩:=f;subst hr;refine L2.thn h6 λ_ s7 f=>?_
   obtain⟨x,H7,I7,r7,y7,bz,c8⟩:=f;obtain⟨G7,E,cn⟩:=yl x H7 y7;have cr:=I7.pinned (ak c8) (T.obj _ _ bz);obtain⟨b0,b8⟩:=jH E cj b3;have cm:=cv.step (kZ E b0)
   have be: ∃C,tgt k d=pi C:=by
    cases z:tgt k d with
    |some C=>exact⟨C,rfl⟩
    |none=>
     exfalso;rcases l9 al with ⟨e,_⟩|⟨U,_,e,_,_⟩<;>(unfold dQ at e;rw[z]at e;cases e)
   obtain⟨C,bp⟩:=be;obtain⟨cl,gt⟩:=Kz (W:=λσ' H'=>H'=H7/\SL X.K ad G7 (hid D H7) (C++cs) σ') bp hnt E.gh cn cm (λσ' _ q=>⟨rfl,q⟩)
   refine L2.thn (hg s3 H3 cc _ s7 as H7 x u _ cr r7 gt) λ_ s8 f=>?_
   obtain⟨I,H8,I8,e8,ar⟩:=f;subst e8
   have L: ∀{s9:Shared} {S Y:Hp} {ab G:L1 SK.D} {a4:L1 V},Inv (cX X N' sc s3 H3 fp cc) ([]++iI fp s7.heap) I S s9->Step G2 H2 Y S->Y D=qw->S D=pi (.lst a4)->aJ X.K ad Y ab a4->bC (dQ k cs fc fe) (ds.drop (i+1))=pi G->ab++G=all->ab.length<=i+1->
     SL X.K ad Y (hid D S) (C++cs) I->∃m,m<ds.length-i/\Iv m s9:=by
    intro s9 S Y ab G a4 I9 g H ag r9 c6 cz c3 a0;refine⟨ds.length-(i+1),by lia,(bw _ _).mpr ⟨i+1,I,S,Y,ab,G,a4,I9.unpinned,T.keep _ _ _ bz λb p o e=>(I9.pin (b,o) (bt _ (bt _ (fV p e)))).1,λb p=>?_,g,H,ag,r9,c6,cz,by lia,rfl,c3,?_⟩⟩
    .obtain⟨o,e,d'⟩:=T.obj _ _ bz b p;exact(I9.pin (b,o) (bt _ (bt _ (fV p e)))).2.1
    .have:=Af a0
     rwa [cl]at this
   have bm:XP (cX X N' sc s3 H3 fp cc) ad I (λ_ _=>False):=CF rfl
   have ck:Step G2 H2 G7 H8:=ap.trans E
   have a6: ∀{s9:Shared} {S Y:Hp} (U:SK.D) (s:L1 SK.D),Inv (cX X N' sc s3 H3 fp cc) ([]++iI fp s7.heap) I S s9->Step G7 H8 Y S->(fe (C++cs)= .ok U\/∃l,fe (C++cs)= .ow l/\U= .lst l)->bC (dQ k cs fc fe) (ds.drop (i+1))=pi s->dO=U::s->
     X.wp (eval elt (cX X N' sc s3 H3 fp cc).env) (λx s₄=>X.wp (call (.builtin "list.append") [.ref D,x]) (λ_ b7=>∃m,m<ds.length-i/\Iv m b7) (λ_ _=>False) s₄) (λ_ _=>False) s9:=by
    intro s9 S Y U s I9 g hf t B;obtain⟨H,ag⟩:=jH g b0 b8;have a0:=ar.step (kZ g H);refine L2.thn (ME.val (X:=cX X N' sc s3 H3 fp cc) (he s3 H3 cc) I9 g.gh (a0.up Ag) bm hf) λcp c7 f=>?_
    obtain⟨Q,a2,Z,cy,cu,O,c5⟩:=f;obtain⟨am,cd⟩:=jH O H ag
    have cg:vs.length<sizeLine:=by
     have:=r5.length
     lia
    refine L2.thn (qN (X:=cX X N' sc s3 H3 fp cc) _ c7 I Z (.ref D) [Q] (.ref D) [cp] (λ_ H'=>H'=upd Z D (.lst (vs++[Q]))) cy rfl (.cons cu .nil) ⟨D,vs,Q,rfl,rfl,cd,cg,rfl⟩) λ_ de f=>?_
    obtain⟨_,dh,cx,_,c4⟩:=f;subst c4;have cq:Step G2 H2 a2 Z:=(ck.trans g).trans O;have c9:Step G2 H2 a2 (upd Z D (.lst (vs++[Q]))):=rO cq hD am;have rA:aJ X.K ad a2 (ys++[U]) (vs++[Q]):=((r5.mono E.sg).mono g.sg).mono O.sg |>.append (aJ.cons c5 aJ.nil)
    have c2:SL X.K ad a2 (hid D (upd Z D (.lst (vs++[Q])))) (C++cs) I:=by
     rw[Ah];exact a0.step (kZ O am)
    refine L cx c9 am aH rA t ?_ (by simp;lia) c2
    rw[jo];rw[B]at an;exact an
   rcases l9 al with ⟨e,t⟩|⟨U,s,e,t,B⟩
   .
    unfold dQ at e;rw[bp]at e
    cases fc with
    |none=>
     exfalso
     simp only at e
     cases z:fe (C++cs)<;>rw[z]at e<;>cases e
    |some f0=>
     simp only at e
     have y:=hts s3 H3 cc
     match ifs,y with
     |[c0],y=>
      have hv:f0 (C++cs)= .ok (.bl q7):=by
       cases z:f0 (C++cs)with
       |ok dd=>
        rw[z]at e
        cases dd<;>try (cases e)
        rename_i bb
        cases bb with
        |false=>rfl
        |true=>
         exfalso
         simp only at e
         cases z':fe (C++cs)<;>rw[z']at e<;>cases e
       |ow _=>rw[z]at e;cases e
       |ex _=>rw[z]at e;cases e
       |bad=>rw[z]at e;cases e
      refine wpAny_tests_one (L2.thn (MT.val (X:=cX X N' sc s3 H3 fp cc) y I8 E.gh (ar.up Ag) bm hv) λok s9 f=>?_)
      obtain⟨eb,Y,S,I9,g⟩:=f;subst eb;obtain⟨H,ag⟩:=jH g b0 b8;exact B3 (L I9 (ck.trans g) H ag ((r5.mono E.sg).mono g.sg) t an (by lia) (ar.step (kZ g H)))
     |[],y=>exact y.elim
     |_::_::_,y=>exact y.elim
   .
    unfold dQ at e;rw[bp]at e
    cases fc with
    |none=>
     have y:=hts s3 H3 cc
     match ifs,y with
     |[],_=>
      refine wpAny_tests_nil (y9 ?_);refine a6 U s I8 (Step.refl E.gh) ?_ t B
      simp only at e
      cases z:fe (C++cs)with
      |ok dd=>rw[z]at e;cases e;exact .inl rfl
      |ow l=>rw[z]at e;cases e;exact .inr ⟨l,rfl,rfl⟩
      |ex _=>rw[z]at e;cases e
      |bad=>rw[z]at e;cases e
     |_::r1,y=>cases r1<;>exact ba y
    |some f0=>
     simp only at e
     have y:=hts s3 H3 cc
     match ifs,y with
     |[c0],y=>
      have hv:f0 (C++cs)= .ok (.bl qz)/\(fe (C++cs)= .ok U\/∃l,fe (C++cs)= .ow l/\U= .lst l):=by
       cases z:f0 (C++cs)with
       |ok dd=>
        rw[z]at e
        cases dd<;>try (cases e)
        rename_i bb
        cases bb with
        |false=>simp only at e;cases e
        |true=>
         simp only at e
         refine⟨rfl,?_⟩
         cases z':fe (C++cs)with
         |ok dd=>rw[z']at e;cases e;exact .inl rfl
         |ow l=>rw[z']at e;cases e;exact .inr ⟨l,rfl,rfl⟩
         |ex _=>rw[z']at e;cases e
         |bad=>rw[z']at e;cases e
       |ow _=>rw[z]at e;cases e
       |ex _=>rw[z]at e;cases e
       |bad=>rw[z]at e;cases e
      refine wpAny_tests_one (L2.thn (MT.val (X:=cX X N' sc s3 H3 fp cc) y I8 E.gh (ar.up Ag) bm hv.1) λok s9 f=>?_)
      obtain⟨eb,Y,S,I9,g⟩:=f;subst eb;exact y9 (a6 U s I9 g hv.2 t B)
     |[],y=>exact y.elim
     |_::_::_,y=>exact y.elim
  .
   have ei:i=ds.length:=by lia
   subst ei;rw[kg]at al;cases al;rw[k7]at an;subst an;refine L2.thn (T.done (cX X N' sc s3 H3 fp cc) rfl rfl rfl hc ds.length [] s5 as H5 (λ_ _=>False) I5 (ak b5) b6 (hit.stop G5 H5 ap)) λr s6 f=>?_
   obtain⟨hr,I6⟩:=f;subst hr;exact hEnd s3 s6 H3 H5 G5 as D vs I3 f3 I6 ap hD cj b3 r5
 exact codeAny_compStart_list (a7 _ rfl) (T.self _ 0 _ _ _ ca (a7 _ rfl))
def nQ{cs}{nt}(hxs:xs.length=nt)(hN:X.N=C.N)(hcs:eM (λx=>fZ C x) (bE sc)=pi cs)(hfr: ∀x∈bE sc,(x,nu)∈sc.names)(hS:SL X.K ad G H ρ σ)(hlen:σ.length=X.N.length):
  ∃σc,σc.length=(xs++bE sc).length/\(∀(i:Nat) x v,(xs++bE sc)[i]? =pi x->σc[i]? =pi (pi v)->∃j:Nat,X.N[j]? =pi x/\σ[j]? =pi (pi v)/\(x,nu)∈sc.names)/\
   SL X.K ad G H (ao nt .no++kG cs ρ) σc:=by
 have s: ∀(g:L1 Str) (l:L1 Nat),eM (λx=>fZ C x) g=pi l->l.length=g.length/\∀(i:Nat) (y:Str),g[i]? =pi y->∃j,l[i]? =pi j/\C.N[j]? =pi y:=by
  intro g;induction g with
  |nil=>intro l e;cases e;exact⟨rfl,λi y h=>by simp at h⟩
  |cons y r W=>
   intro l e;unfold eM at e;rcases c:fZ C y with _|j;rw[c]at e;cases e;rw[c]at e;obtain⟨p,T,I⟩:=zMd e;subst I;obtain⟨O,M⟩:=W p T;refine⟨by simp[O],λi z h=>?_⟩;rcases i with _|i;simp at h;subst h;refine⟨j,rfl,?_⟩;have m:idx y C.N=pi j:=by
    unfold fZ at c;split at c;exact c;exact c;cases c
   exact gG m;obtain⟨S,d,b⟩:=M i z (by simpa using h);exact⟨S,by simpa using d,b⟩
 obtain⟨U,E⟩:=s (bE sc) cs hcs;refine⟨ao nt qw++cs.map (λj=>(σ[j]?).getD qw),by simp[U,hxs],λi x v d b=>?_,?_,λi w e=>?_⟩;by_cases a:i<nt;rw[bx (by simpa using a),eu,if_pos a]at b;cases b;rw[bn (by simpa using a),gj,ji]at b;rw[bn (by lia),hxs]at d;obtain⟨j,B,A⟩:=E (i-nt) x d;rw[B]at b;have n:(σ[j]?).getD qw=pi v:=ku b;refine⟨j,by rw[hN];exact A,?_,hfr x (List.mem_of_getElem? d)⟩;rcases q:σ[j]? with _|L;rw[q]at n;cases n;rw[q]at n;exact congrArg pi n;simp[kG];by_cases a:i<nt;rw[bx (by simpa using a),eu,if_pos a]at e;cases e;refine⟨qw,?_,trivial⟩;rw[bx (by simpa using a),eu,if_pos a];rw[bn (by simpa using a),gj]at e;unfold kG at e;rw[ji]at e;rcases q:cs[i-nt]? with _|j;rw[q]at e;cases e;rw[q]at e;have o:(ρ[j]?).getD .no=w:=ku e;refine⟨(σ[j]?).getD qw,?_,?_⟩;rw[bn (by simpa using a),gj,ji,q];rfl;rcases t:ρ[j]? with _|f;rw[t]at o;subst o;trivial;rw[t]at o;have u:f=w:=o;subst u;obtain⟨L,Q,J⟩:=hS.at_ j f t;rw[Q];exact J
end
open PySem.W
def Its(x:Str):It:=⟨λi _=>i<x.cps.size,λi H v H'=>H'=H/\∃c,x.cps[i]? =pi c/\v= .str ⟨#[c]⟩,λi _=>x.cps.size<=i⟩
def CI{K}{tg}it(hty:ty="str_ascii_iterator"\/ty="str_iterator"):Turn P w K tg (Its x) [it] it (λi h=>h.IsStrIter it ty x t i) where
 mem:=by simp
 obj:=λi h g b a=>by
  have e:b=it:=by simpa using a
  subst e;obtain⟨o,e,c,d⟩:=g;exact⟨o,e,λv z=>by rw[d]at z;cases z⟩
 keep:=λi h f g k=>by
  obtain⟨o,e,r⟩:=g;exact⟨o,k it (by simp) o e,r⟩
 item:=by
  intro X hP Y Z T i U s O H E I J g S;subst hP Y Z;have n:i<x.cps.size:=S;obtain⟨N,C,f2,G,L,M⟩:=J it (by simp);have B: ∀(f:Heap),f.IsStrIter it ty x t (i+1)->(∀b o,b≠it->s.heap.get? b=pi o->f.get? b=pi o)->∀(p:Nat) (u:Tok), ∃u',(pi (qg ⟨#[x.cps[i]]⟩ u):L7 Value)=pi u'/\X.wp (letOwnedTupleGo tg (.ref it) u') (λ_ s2=>∃y H',Inv X U O H' s2/\bG y u'/\(Its x).yld i H y H'/\s2.heap.IsStrIter it ty x t (i+1)/\∀b∈[it],H' b=qw) E {s with heap:=f,toks:=p}:=by
   intro f q sb p u;have I1:Inv X U O H {s with heap:=f,toks:=p}:=I.turned (t':=p) (λb o a e=>sb b o a e) N C G L M;obtain⟨o,e,c,d⟩:=id q;refine⟨_,rfl,yV (s:={s with heap:=f,toks:=p}) e c d (by rcases hty with rfl|rfl<;>decide) ⟨.str ⟨#[x.cps[i]]⟩,H,I1,⟨u,rfl⟩,⟨rfl,_,by simp[n],rfl⟩,q,λb a=>(J b a).1⟩⟩
  rcases hty with rfl|rfl;exact wpAny_pyNext_ascii_item g (c:=x.cps[i]) (by simp[n]) λf j m=>B f j (λb o a e=>m.extBut b o a e) _ _;exact wpAny_pyNext_wide_item g (c:=x.cps[i]) (by simp[n]) λf j m=>B f j (λb o a e=>m.extBut b o a e) _ _
 done:=by
  intro X hP Y Z T i U s O H E I J g S;subst hP Y Z;have n:x.cps.size<=i:=S;obtain⟨N,C,f2,G,L,M⟩:=J it (by simp);rcases hty with rfl|rfl;exact wpAny_pyNext_ascii_end (I.ok.hd T) g (by simp[n]) λf l=>⟨rfl,I.turned (t':=s.toks) (λb o a e=>l b o a e) N C G L M⟩;exact wpAny_pyNext_wide_end (I.ok.hd T) g (by simp[n]) λf l=>⟨rfl,I.turned (t':=s.toks) (λb o a e=>l b o a e) N C G L M⟩
 self:=λA i s Q E g h=>by
  rcases hty with rfl|rfl;exact wpAny_pyIter_striter_ascii g h;exact wpAny_pyIter_striter_wide g h
def Itk(a:Addr)(o:Obj)(es:L1 (Key×V)):It:=⟨λi H=>i<es.length/\H a=pi (.frz o (.dK es)),λi H v H'=>H'=H/\∃e,es[i]? =pi e/\v=kV e.1,λi H=>es.length<=i/\H a=pi (.frz o (.dK es))⟩
theorem jZ{α β}{R:α->β->Prop}: ∀{l} {m},Paired R l m->∀{i:Nat} {a},l[i]? =pi a->∃b,m[i]? =pi b/\R a b
 |_,_,.nil,i,b,h=>by simp at h
 |_,_,.cons r t,0,b,h=>by simp at h;subst h;exact⟨_,rfl,r⟩
 |_,_,.cons r t,i+1,b,h=>by
  obtain⟨a,e,r⟩:=jZ t (i:=i) (a:=b) (by simpa using h);exact⟨a,by simpa using e,r⟩
def Ai{σ:St}(I:Inv X cc σ H s)(ha:H a=pi (.frz o (.dK es))):(a==sysModules)=q7/\∃vs ep,KV es vs/\s.heap.DictAt (bJ X.prog X.w) a vs ep/\∃ar,o.data= .dict ar ep:=by obtain⟨e,z,f,vs,d,h,ar,ep,c,g,b,r⟩:=I.hok a _ ha;rw[e]at c;cases c;exact⟨f,vs,ep,d,⟨o,ar,e,g,b,r⟩,ar,b⟩
def CJ{K}{tg}it:Turn P w K tg (Itk a o es) [it] it (λi h=>∃ep ar,o.data= .dict ar ep/\h.IsKeyIter it a i es.length ep) where
 mem:=by simp
 obj:=λi h g b p=>by
  have e:b=it:=by simpa using p
  subst e;obtain⟨_,_,_,o,e,c,d⟩:=g;exact⟨o,e,λv z=>by rw[d]at z;cases z⟩
 keep:=λi h A g k=>by
  obtain⟨ep,ar,d,g⟩:=g;exact⟨ep,ar,d,g.at λo e=>k it (by simp) o e⟩
 item:=by
  intro X G T Y hc i cc s σ H E I B g N;subst G T Y;obtain⟨hi,ha⟩:=N;obtain⟨ep,ar,l,g⟩:=g;obtain⟨hd,vs,S,m,da,O,f⟩:=Ai I ha;rw[l]at f;cases f;obtain⟨f0,C,f2,L,U,f5⟩:=B it (by simp);obtain⟨e,he⟩: ∃e,es[i]? =pi e:=⟨es[i],by simp[hi]⟩;obtain⟨q,hq,r1,r2⟩:=jZ m he;have u:es.length=vs.length:=KV.length m;obtain⟨qk,qv⟩:=q;refine wpAny_pyNext_dict_item (knd:=bJ X.prog X.w) (by rw[<-u];exact g) da hq λM A y n Z=>?_;have I1:Inv X cc σ H {s with heap:=A}:=I.turned (t':=s.toks) (λb o p e=>(Z.2 b p).trans e) f0 C L U f5;obtain⟨oi,e1,c,d⟩:=id n;refine⟨_,rfl,yV (s:={s with heap:=A}) e1 c d rfl ⟨kV e.1,H,I1,?_,⟨rfl,e,he,rfl⟩,⟨ep,ar,l,by rw[u];exact n⟩,λb p=>(B b p).1⟩⟩;have J:e.1=qk:=r1;rw[J];have r:sZ qk M=qz:=y;rcases bY r with ⟨j,t,rfl,rfl⟩|⟨x,t,rfl,rfl⟩<;>exact⟨t,rfl⟩
 done:=by
  intro X G T Y hc i cc s σ H E I B g N;subst G T Y;obtain⟨hi,ha⟩:=N;obtain⟨ep,ar,l,g⟩:=g;obtain⟨hd,vs,S,m,da,O,f⟩:=Ai I ha;rw[l]at f;cases f;have u:es.length=vs.length:=KV.length m;obtain⟨f0,C,f2,L,U,f5⟩:=B it (by simp);exact wpAny_pyNext_dict_end (knd:=bJ X.prog X.w) (I.ok.hd hc) (by rw[<-u];exact g) da (List.getElem?_eq_none (by rw[<-u];exact hi)) λA Q=>⟨rfl,I.turned (t':=s.toks) (λb o p e=>Q b o p e) f0 C L U f5⟩
 self:=λ_ _ _ _ _ g h=>by
  obtain⟨_,_,_,g⟩:=g;exact wpAny_pyIter_keyiter g h
section
variable{X:Cx}{ad:Ad}{H G:Hp}
def Gp(hG:Same G H)(few:x.cps.size<=1000):ItH X ad (Its x) G H (tN x):=by
 have g:(tN x).length=x.cps.size:=by simp[tN]
 refine⟨λi b j d f e=>?_,λb j f=>by rw[g];exact aj _,by rw[g];exact om few (by decide)⟩;have l: ∃c,x.cps.toList[i]? =pi c/\D.str ⟨#[c]⟩=d:=by simpa[tN]using e
 obtain⟨c,n,rfl⟩:=l;have h:x.cps[i]? =pi c:=by simpa using n
 refine⟨(Array.getElem?_eq_some_iff.mp h).1,λv o m=>?_⟩;obtain⟨rfl,p,a,rfl⟩:=m;rw[h]at a;cases a;exact⟨b,Step.refl f.gh,by unfold Rep;rfl⟩
def Gq{ks:L1 Str}{es:L1 (Key×V)}{i:Nat}(h:es.map (·.1)=ks.map qt)(e:(ks.map D.str)[i]? =pi d): ∃q,es[i]? =pi q/\∃x,q.1=qt x/\d= .str x:=by rw[ji]at e;obtain⟨k,f,b⟩:=zMd e;have a:=congrArg (λl:L1 Key=>l[i]?) h;simp only[ji,f,Option.map_some]at a;obtain⟨q,q1,c⟩:=zMd a;exact⟨q,q1,k,c,b.symm⟩
def Gr{a}{o}{ks:L1 Str}{es}(ha:G a=pi (.frz o (.dK es)))(h:es.map (·.1)=ks.map qt)(hG:Same G H)(few:ks.length<=1000):ItH X ad (Itk a o es) G H (ks.map D.str):=by
 have l:es.length=ks.length:=by have:=congrArg pp h;simpa using this
 refine⟨λi f j d b e=>?_,λf j b=>⟨by rw[aq,l];exact aj _,b.sh _ _ (hG _ _ ha)⟩,by rw[aq];exact om few (by decide)⟩;obtain⟨q,q1,x,g,rfl⟩:=Gq h e;refine⟨⟨(ay.mp q1).1,b.sh _ _ (hG _ _ ha)⟩,λv n m=>?_⟩;obtain⟨rfl,p,c,rfl⟩:=m;rw[q1]at c;cases c;rw[g];exact⟨f,Step.refl b.gh,by unfold Rep;rfl⟩
end
section
variable{X:Cx}{ad:Ad}{s3:Shared}{H H2 H3 G G2:Hp}{ρ:Rho}{Q:VK}{E:Nat->Hp->Prop}{pos:Pos}{sc:Scope}{fp:L1 Addr}{tg it elt:Expr}{ifs:L1 Expr}{k:Nat}{xs:L1 Str}{cs:L1 Nat}{fc:L7 F}{fi fe:F}
def Aj(h: ∀a b c,it≠ .Set a b c): ∀x,foldedSetIterable it X.env x=pure x:=by intro x;cases it<;>first|rfl|exact absurd rfl (h _ _ _)
structure CompSc(X:Cx)(C:Ctx)(sc:Scope)(xs:List Str)(cs:List Nat):Prop where
 kind:sc.kind= .function
 cell:Cel sc
 names: ∀y∈sc.names,y.2= .local->sc.names.lookup y.1=pi .local
 fre: ∀x,(x,nu)∈sc.names->X.env.kindOf x=pi .cell\/X.env.kindOf x=pi .free
 frl: ∀x,(x,nu)∈sc.names->sc.names.lookup x=pi .free
 N:X.N=C.N
 cs:eM (λx=>fZ C x) (bE sc)=pi cs
def rQ(h:x∈bE sc):(x,nu)∈sc.names:=by
 unfold bE at h;obtain⟨p,b,rfl⟩:=au.mp h;obtain⟨a,d⟩:=kz.mp b;obtain⟨y,c⟩:=p;have:c= .free:=by simpa using d
 subst this;exact a
def KB{W}(hr:RK X.K ad G H (a8 k cs fi fc fe ρ) Q E)
  (q: ∀J G2 H2 ds all,Step G H G2 H2->ItH X ad J G2 H2 ds->bC (dQ k (kG cs ρ) fc fe) ds=pi all->RK X.K ad G2 H2 (.ow all) Q E->W J H2):IK X ad G H (fi ρ) W E:=by
 unfold a8 at hr;rcases e:fi ρ with d|l|c|_;rw[e]at hr;have b:RK X.K ad G H (match iK d with|some ds=>(match bC (dQ k (kG cs ρ) fc fe) ds with|some xs=>.ow xs|none=>.bad)|none=>.bad) Q E:=hr;rcases m:iK d with _|ds;rw[m]at b;exact b.elim;rw[m]at b;have a:RK X.K ad G H (match bC (dQ k (kG cs ρ) fc fe) ds with|some xs=>.ow xs|none=>.bad) Q E:=b;rcases f:bC (dQ k (kG cs ρ) fc fe) ds with _|all;rw[f]at a;exact a.elim;rw[f]at a;exact⟨ds,m,λJ j h g i=>q J j h ds all g i f (a.step g)⟩;rw[e]at hr;have a:RK X.K ad G H (match bC (dQ k (kG cs ρ) fc fe) l with|some xs=>.ow xs|none=>.bad) Q E:=hr;rcases f:bC (dQ k (kG cs ρ) fc fe) l with _|all;rw[f]at a;exact a.elim;rw[f]at a;exact λJ j h g i=>q J j h l all g i f (a.step g);rw[e]at hr;exact hr;rw[e]at hr;exact hr
def Gu{C}(hc:X.calm=qz)(S:CompSc X C sc xs cs)(hi:MI X ad tg it fi)(hset: ∀a b c,it≠ .Set a b c)(hxs:xs.length=if k=0 then 1 else k)
  (hg: ∀fp s3 H3 pins',PG (cX X (xs++bE sc) sc s3 H3 fp pins') tg (gTg X.K k)) (hts: ∀fp s3 H3 pins',MTs (cX X (xs++bE sc) sc s3 H3 fp pins') ad ifs fc) (he: ∀fp s3 H3 pins',ME (cX X (xs++bE sc) sc s3 H3 fp pins') ad elt fe):
  ME X ad (.ListComp elt [⟨tg,it,ifs,0⟩] sc pos) (a8 k cs fi fc fe):=by
 rintro cc s σ H Q I ⟨G,y,E,hG,u,l,Z⟩;rw[eval_ListComp]
 have j:closureFor sc X.env=pure (l7 X.env.cells sc.names []):=jY λx l=>by
  obtain⟨c,h⟩:=I.ok.has x (S.fre x l);rw[h];rfl
 refine wpAny_comprehension_free (use:=qw) rfl (Aj hset) j S.kind S.names ?_;show X.wp (eval it X.env) _ X.xe s
 refine L2.thn (hi cc s σ H _ I ⟨G,y,E,hG,u,l,KB (W:=λJ g=>∃f i all,Step G H f g/\ItH X ad J f g i/\bC (dQ k (kG cs y) fc fe) i=pi all/\RK X.K ad f g (.ow all) Q E) Z λJ f g i all a b c d=>⟨f,i,all,a,b,c,d⟩⟩) λv s1 O=>
  L2.thn O λak s2 p=>?_
 obtain⟨ab,fp,tn,J,g,e,M,T,st2,f2,f,i,all,z,hit,q,r⟩:=p;subst e;obtain⟨σc,U,l2,l3⟩:=nQ (xs:=xs) (sc:=sc) (nt:=if k=0 then 1 else k) hxs S.N S.cs (λx h=>rQ h) (u.step z) M.len
 refine rP (σc:=σc) hc M T st2 f2 hit q z.gh S.kind S.cell S.fre S.frl U l2 rfl l3 (hg fp) (hts fp) (he fp) λs3 s' H3 B Y ag D vs I3 f3 L o hD gD n r'=>?_
 obtain⟨m,t,_⟩:=L.loc;refine⟨m,t,λh' sb=>⟨.ref D,B,ED (fpO:=f3) I3 L sb,rfl,r D vs Y B o hD gD n r'⟩⟩
def Gv(hq:SqT X.K H a vs)(r:aJ X.K ad G ds vs)(hG:Same G H)(few:vs.length<=sizeLine):ItH X ad (Itt X.K a) G H ds:=by refine⟨λi c h d b e=>?_,λc h b=>⟨vs,b.sh.seqT hq,by rw[r.length];exact aj _⟩,by rw[<-r.length];exact few⟩;obtain⟨v,f,g⟩:=r.get e;refine⟨⟨vs,v,b.sh.seqT hq,f⟩,?_⟩;rintro x j ⟨rfl,y⟩;have:=y vs (b.sh.seqT hq);rw[f]at this;cases this;exact⟨c,Step.refl b.gh,g.mono b.sg⟩
def Gw(hq:SqL X.K H a vs)(r:aJ X.K ad G ds vs)(hG:Same G H)(few:vs.length<=sizeLine):ItH X ad (Itl X.K a) G H ds:=by refine⟨λi c h d b e=>?_,λc h b=>⟨vs,b.sh.seq hq,by rw[r.length];exact aj _⟩,by rw[<-r.length];exact few⟩;obtain⟨v,f,g⟩:=r.get e;refine⟨⟨vs,v,b.sh.seq hq,f⟩,?_⟩;rintro x j ⟨rfl,y⟩;have:=y vs (b.sh.seq hq);rw[f]at this;cases this;exact⟨c,Step.refl b.gh,g.mono b.sg⟩
def Ak(ha:ML X ad a f):MI X ad tg a f:=by
 rintro Q s O H W I ⟨G,ρ,E,hG,hS,hx,N⟩
 have S: ∀(d:D) (y:L1 D),items d=pi y->(∀J G' H',Step G H G' H'->ItH X ad J G' H' y->W J H')->∀u g v h i,Inv X Q O h g->bG v u->Step G H i h->Seq X ad i h d v->X.wp (pyIter u) (PIE X Q O tg W) X.xe g:=by
  intro d y e M u g v h i j L r q;obtain⟨p,vs,rfl,Y,rq⟩:=q.items r.gh e;cases (show u=qh p from L);rcases Y with ⟨_,Y⟩|⟨_,Y⟩;obtain⟨Z,rv,pt,hz⟩:=j.tuple Y;refine wpAny_pyIter_tuple (show g.heap.IsTuple p Z.toArray from pt) ?_;refine⟨g.z,[g.z],_,_,h,rfl,j.kept (t':=g.toks) λb o e=>ae _ e,xF p _,⟨_,af _ rfl,rfl,rfl⟩,λb T=>?_,M _ i h r (Gv Y rq r.gh hz)⟩;have e:b=g.z:=by simpa using T
  subst e;exact j.fpOk (aj _) (j.hok.fresh (aj _));obtain⟨Z,rv,pt,hz⟩:=j.list Y;refine wpAny_pyIter_list pt.isList ?_;refine⟨g.z,[g.z],_,_,h,rfl,j.kept (t':=g.toks) λb o e=>ae _ e,p8 p _,⟨_,af _ rfl,rfl,rfl⟩,λb T=>?_,M _ i h r (Gw Y rq r.gh hz)⟩;have e:b=g.z:=by simpa using T
  subst e;exact j.fpOk (aj _) (j.hok.fresh (aj _))
 have ab: ∀(d:D) (y:L1 D),iK d=pi y->(∀J G' H',Step G H G' H'->ItH X ad J G' H' y->W J H')->∀u g v h i,Inv X Q O h g->bG v u->Step G H i h->Seq X ad i h d v->X.wp (pyIter u) (PIE X Q O tg W) X.xe g:=by
  intro d y e M u g v h i j L r q;cases d with
  |tup xs=>exact S (.tup xs) y (show items (.tup xs)=pi y from e) M u g v h i j L r q
  |lst xs=>exact S (.lst xs) y (show items (.lst xs)=pi y from e) M u g v h i j L r q
  |str x=>
   have C:(if x.cps.size<=1000 then pi (tN x)else qw)=pi y:=e;by_cases U:x.cps.size<=1000;rw[if_pos U]at C;cases C;have q':Rep X.K ad i (.str x) v:=by
    rcases q with q|⟨_,_,_,z,_⟩;exact q;cases z
   unfold Rep at q';subst q';obtain⟨t,rfl⟩:=(show ∃t,u=qg x t from L);have go: ∀(ty:String) (o:Obj),(ty="str_ascii_iterator"\/ty="str_iterator")->(g.heap.push o).IsStrIter g.z ty x t 0->PIE X Q O tg W (.ref g.z) {g with heap:=g.heap.push o}:=λty o ak al=>by
    refine⟨g.z,[g.z],_,_,h,rfl,j.kept (t':=g.toks) λb o e=>ae _ e,CI _ ak,al,λb T=>?_,M _ i h r (Gp r.gh U)⟩;have e:b=g.z:=by simpa using T
    subst e;exact j.fpOk (aj _) (j.hok.fresh (aj _))
   cases hA:x.cps.all (· <128);exact wpAny_pyIter_wide hA (go _ _ (.inr rfl) ⟨_,af _ rfl,rfl,rfl⟩);exact wpAny_pyIter_ascii hA (go _ _ (.inl rfl) ⟨_,af _ rfl,rfl,rfl⟩);rw[if_neg U]at C;cases C
  |dct ks vs=>
   have C:(if ks.length<=1000 then pi (ks.map D.str)else qw)=pi y:=e;by_cases U:ks.length<=1000;rw[if_pos U]at C;cases C;have q':Rep X.K ad i (.dct ks vs) v:=by
    rcases q with q|⟨_,_,_,z,_⟩;exact q;cases z
   unfold Rep at q';obtain⟨a,o,es,rfl,ga,a1,a2⟩:=q';cases (show u=qh a from L);obtain⟨hd,an,ep,am,da,ar,ag⟩:=Ai j (r.gh _ _ ga);refine wpAny_pyIter_dict (knd:=bJ X.prog X.w) hd da ?_;refine⟨g.z,[g.z],_,_,h,rfl,j.kept (t':=g.toks) λb o e=>ae _ e,CJ _,⟨ep,ar,ag,_,af _ rfl,rfl,by rw[KV.length am];rfl⟩,λb T=>?_,M _ i h r (Gr ga a1 r.gh U)⟩;have e:b=g.z:=by simpa using T
   subst e;exact j.fpOk (aj _) (j.hok.fresh (aj _));rw[if_neg U]at C;cases C
  |_=>cases e
 rcases e:f ρ with d|l|c|_;rw[e]at N;obtain⟨y,e2,M⟩:=N;exact L2.thn (ha Q s O H (λv h=>∃i,Step G H i h/\Seq X ad i h d v) I ⟨G,ρ,E,hG,hS,hx,by rw[e];exact λv i h r q=>⟨i,r,q⟩⟩) λu g B=>by obtain⟨v,h,j,L,i,r,q⟩:=B;exact ab d y e2 M u g v h i j L r q
 rw[e]at N;exact L2.thn (ha Q s O H (λv h=>∃i,Step G H i h/\Rep X.K ad i (.lst l) v) I ⟨G,ρ,E,hG,hS,hx,by rw[e];exact λp vs i h r n m C q=>dP r n m C q⟩) λu g B=>by obtain⟨v,h,j,L,i,r,q⟩:=B;exact ab (.lst l) l rfl N u g v h i j L r (.inl q)
 rw[e]at N;exact L2.thn (ha Q s O H (λv h=>False) I ⟨G,ρ,E,hG,hS,hx,by rw[e];exact N⟩) λu g B=>by obtain⟨v,h,j,L,q⟩:=B;exact q.elim
 rw[e]at N;exact ba N
def Gx{lo}(hG:Same G H)(few:n<=sizeLine):ItH X ad (Itr lo n) G H ((pq n).map λ(i:Nat)=>D.int (lo+(i:Int))):=by refine⟨λi a g d b e=>?_,λa g b=>by simp[Itr],by simpa using few⟩;rw[ji]at e;rcases q:(pq n)[i]? with _|j;rw[q]at e;cases e;rw[q]at e;obtain⟨c,f⟩:=ay.mp q;rw[jl]at c;rw[List.getElem_range]at f;subst f;cases e;refine⟨c,?_⟩;rintro x h ⟨rfl,rfl⟩;exact⟨a,Step.refl b.gh,bU⟩
def Al n:qR n=(pq n).map λ(i:Nat)=>D.int (0+(i:Int)):=by unfold qR;congr 1;funext i;rw[Int.zero_add]
def uA{k}(hG:Same G H)(hS:SL X.K ad G H ρ σ)(hx:XP X ad σ E)(hr:IK X ad G H ((f ρ).bind k) W E)(q: ∀v d G1 H1,Step G H G1 H1->Rep X.K ad G1 d v->IK X ad G1 H1 (k d) W E->Q' v H1):tE X ad f σ H Q':=by
 have g: ∀{r:R} {G1 H1:Hp},IK X ad G H r W E->Step G H G1 H1->IK X ad G1 H1 r W E:=λ{r G1 H1} h b=>by
  rcases r with d|l|c|_;obtain⟨w,e,h⟩:=h;exact⟨w,e,λJ i j a o=>h J i j (b.trans a) o⟩;exact λJ i j a o=>h J i j (b.trans a) o;exact λi j a=>h i j (b.trans a);exact h
 refine⟨G,ρ,E,hG,hS,hx,?_⟩;rcases e:f ρ with d|x|c|_;rw[e]at hr;exact λv G1 H1 b r=>q v d G1 H1 b r (g hr b);rw[e]at hr;intro p y G1 H1 b n m t r;obtain⟨u,st2,s⟩:=dP (X:=X) (ad:=ad) b n m t r;exact q _ _ u H1 st2 s (g hr st2);rw[e]at hr;exact hr;rw[e]at hr;exact hr
def CK(hg:L2.Gl X "range")(hm:X.mg "range"=qw)(ha:ME X ad a f)(hs:starEach [a] X.env=(q7,eval a X.env)::starEach [] X.env):MI X ad tg (.Call (.Name "range" p) [a] [] pos) (cW f):=by
 rintro o s m H W I ⟨G,x,E,w,n,q,t⟩;refine p9 (ta:=tH (tE X ad f) IZ) hg hm (cJ ha eP hs) hs o s m H W I ?_;show tE X ad f m H λv c=>∃j:Int,[v]=[.int j]/\ -(2^62)<=j/\j<2^62/\W (Itr 0 j.toNat) c;refine uA w n q t λv d g c l r k=>?_;cases d<;>try exact ba k
 rename_i i;unfold Rep at r;subst r;have b:IK X ad g c (if -100000<=i/\i<=100000 then .ok (.lst (qR i.toNat))else .bad) W E:=k;by_cases h: -100000<=i/\i<=100000;rw[if_pos h]at b;obtain⟨y,e,u⟩:=b;cases e;refine⟨i,rfl,by lia,by lia,u _ g c (Step.refl l.gh) ?_⟩;rw[Al];exact Gx l.gh (by rw[sizeLine_eq];lia);rw[if_neg h]at b;exact b.elim
end
def iA(H:Hp)(ρ:Rho)(σ:St)(i:Nat)(as:L1 Addr):Prop:= ∃C r p dx d l1 l2,ρ[i]? =pi (Slot.rk C r)/\σ[i]? =pi (pi (V.ref p))/\H p=pi (HO.ins C dx [("held",V.ref d),("done",V.ref l1),("undone",V.ref l2)])/\as=[p,dx,d,l1,l2]
structure RS(H₀ H:Hp)(ρ:Rho)(σ:St):Prop where
 h0: ∀i as,iA H ρ σ i as->∀a∈as,H₀ a=qw
 ow: ∀i as,iA H ρ σ i as->∀a∈as, ∀(j:Nat) (sl:Slot),ρ[j]? =pi sl->sl.owns=qz->σ[j]? ≠pi (pi (.ref a))
 rr: ∀i j as as' a,iA H ρ σ i as->iA H ρ σ j as'->a∈as->a∈as'->i=j
section
variable{K:oe}{ad:Ad}
def iA.in(h:SL K ad G H ρ σ)(f:iA H ρ σ i as): ∃C r p dx d l1 l2,ρ[i]? =pi (.rk C r)/\σ[i]? =pi (pi (V.ref p))/\RackIn K ad C G H p r dx d l1 l2/\as=[p,dx,d,l1,l2]:=by obtain⟨C,r,p,dx,d,l1,l2,c,b,l,m⟩:=f;obtain⟨o,g,n,e,j,q1,a⟩:=h.rk c;rw[b]at q1;cases q1;have:=a.ins;rw[l]at this;cases this;exact⟨C,r,p,dx,d,l1,l2,c,b,a,m⟩
theorem iA.at(h:SL K ad G H ρ σ)(f:iA H ρ σ i as): ∀a∈as,G a=qw/\H a≠qw:=by obtain⟨C,r,p,u,d,j,n,w,v,q,rfl⟩:=f.in h;obtain⟨kvs,c,s⟩:=q.held;obtain⟨o,b,g⟩:=q.done;obtain⟨l,e,t⟩:=q.undone;intro a m;simp only[av,kh,or_false]at m;rcases m with rfl|rfl|rfl|rfl|rfl;exact⟨q.gp,by rw[q.ins];exact λz=>nomatch z⟩;exact⟨q.gx,by rw[q.own];exact λz=>nomatch z⟩;exact⟨q.gd,by rw[c];exact λz=>nomatch z⟩;exact⟨q.g1,by rw[b];exact λz=>nomatch z⟩;exact⟨q.g2,by rw[e];exact λz=>nomatch z⟩
def iA.back(h:SL K ad G H ρ σ)(s:Same H H1)(f:iA H1 ρ σ i as):iA H ρ σ i as:=by obtain⟨C,r,p,o,d,j,l,c,b,n,q⟩:=f;obtain⟨u,g,t,e,m,q1,a⟩:=h.rk c;rw[b]at q1;cases q1;have:=s _ _ a.ins;rw[n]at this;cases this;exact⟨C,r,p,o,d,j,l,c,b,a.ins,q⟩
def RS.same(R:RS H₀ H ρ σ)(h:SL K ad G H ρ σ)(s:Same H H1):RS H₀ H1 ρ σ:=
 ⟨λi b f=>R.h0 i b (f.back h s),λi b f=>R.ow i b (f.back h s),λi j b c a f d=>R.rr i j b c a (f.back h s) (d.back h s)⟩
def iA.unset(w:sn.isRk=q7)(f:iA H (ρ.set i sn) (σ.set i ov) k as):k≠i/\iA H ρ σ k as:=by
 obtain⟨C,r,p,l,d,e,g,a,c,j,m⟩:=f;have b:k≠i:=λz=>by
  subst z;have h:k<ρ.length:=by have:=(ay.mp a).1;rwa [lg]at this
  rw[bj h]at a;cases a;cases w
 rw[bc (qu b)]at a c;exact⟨b,C,r,p,l,d,e,g,a,c,j,m⟩
theorem RS.set(R:RS H₀ H ρ σ)(w:sn.isRk=q7)(n: ∀a,sn.owns=qz->ov=pi (.ref a)->∀k as,iA H ρ σ k as->a∉as):RS H₀ H (ρ.set i sn) (σ.set i ov):=by
 refine⟨λk as f=>R.h0 k as (f.unset w).2,λk as f a h j p b g c=>?_,λk o as e a f m=>R.rr k o as e a (f.unset w).2 (m.unset w).2⟩;by_cases z:j=i;subst z;have l:j<ρ.length:=by have:=(ay.mp b).1;rwa [lg]at this
 have d:j<σ.length:=by have:=(ay.mp c).1;rwa [lg]at this
 rw[bj l]at b;rw[bj d]at c;cases b;cases c;exact n a g rfl k as (f.unset w).2 h;rw[bc (qu z)]at b c;exact R.ow k as (f.unset w).2 a h j p b g c
def iA.reset(w:sn.isRk=q7)(f:iA H (ρ.set i sn) σ k as):iA H ρ σ k as:=by
 obtain⟨C,r,p,j,d,b,c,a,l,h,m⟩:=f;have g:k≠i:=λz=>by
  subst z;have e:k<ρ.length:=by have:=(ay.mp a).1;rwa [lg]at this
  rw[bj e]at a;cases a;cases w
 rw[bc (qu g)]at a;exact⟨C,r,p,j,d,b,c,a,l,h,m⟩
def RS.re(R:RS H₀ H ρ σ)(w:sn.isRk=q7)(e:ρ[i]? =pi sl₀)(w₀:sl₀.owns=qz):RS H₀ H (ρ.set i sn) σ:=by refine⟨λk b f=>R.h0 k b (f.reset w),λk b f a d j o h l g=>?_,λk n b c a f m=>R.rr k n b c a (f.reset w) (m.reset w)⟩;by_cases z:j=i;subst z;exact R.ow k b (f.reset w) a d j sl₀ e w₀ g;rw[bc (qu z)]at h;exact R.ow k b (f.reset w) a d j o h l g
def RackIn.ups(h:RackIn K ad C G H p r dx d l1 l2)(ha:a∉[p,dx,d,l1,l2]):RackIn K ad C G (upd H a o) p r dx d l1 l2:=by simp only[av,kh,or_false,not_or]at ha;obtain⟨j,i,b,t,l⟩:=ha;obtain⟨kvs,q,m⟩:=h.held;obtain⟨g,e,c⟩:=h.done;obtain⟨f,s,n⟩:=h.undone;exact⟨by rw[aC (qu j)];exact h.ins,by rw[aC (qu i)];exact h.own,⟨kvs,by rw[aC (qu b)];exact q,m⟩,⟨g,by rw[aC (qu t)];exact e,c⟩,⟨f,by rw[aC (qu l)];exact s,n⟩,h.ne,h.gp,h.gx,h.gd,h.g1,h.g2⟩
def RackIn.shr(h:RackIn K ad C G H p r dx d l1 l2)(ha:a∉[p,dx,d,l1,l2])(le:Same G (upd G a o)):RackIn K ad C (upd G a o) H p r dx d l1 l2:=by simp only[av,kh,or_false,not_or]at ha;obtain⟨j,i,b,t,l⟩:=ha;obtain⟨kvs,q,m⟩:=h.held;obtain⟨g,e,c⟩:=h.done;obtain⟨f,s,n⟩:=h.undone;exact⟨h.ins,h.own,⟨kvs,q,m.mono le⟩,⟨g,e,c.mono le⟩,⟨f,s,n.mono le⟩,h.ne,by rw[aC (qu j)];exact h.gp,by rw[aC (qu i)];exact h.gx,by rw[aC (qu b)];exact h.gd,by rw[aC (qu t)];exact h.g1,by rw[aC (qu l)];exact h.g2⟩
end
structure SS(X:Cx)(ad:Ad)(G₀ G H:Hp)(ρ:Rho)(σ:St):Prop where
 st:Step G₀ X.H₀ G H
 sl:SL X.K ad G H ρ σ
 ow: ∀(i:Nat) (sl:Slot) (a:Addr),ρ[i]? =pi sl->sl.owns=qz->σ[i]? =pi (pi (.ref a))->X.H₀ a=qw
 dj: ∀(i j:Nat) (sl sl':Slot) (a:Addr),ρ[i]? =pi sl->ρ[j]? =pi sl'->sl.owns=qz->sl'.owns=qz->σ[i]? =pi (pi (.ref a))->σ[j]? =pi (pi (.ref a))->i=j
 rs:RS X.H₀ H ρ σ
def OKo(X:Cx)(ad:Ad)(G₀:Hp)(o:Out)(D':Ends)(E:St->Nat->Hp->Prop):Prop:=match o with
 |.nx ρ=>∀σ G H,SS X ad G₀ G H ρ σ->D'.nx σ H
 |.bk ρ=>∀σ G H,SS X ad G₀ G H ρ σ->D'.bk σ H
 |.ct ρ=>∀σ G H,SS X ad G₀ G H ρ σ->D'.ct σ H
 |.ex c ρ=>∀σ G H,SS X ad G₀ G H ρ σ->E σ c H
 |.rt (.ok d)=>∀v G H,Step G₀ X.H₀ G H->Rep X.K ad G d v->D'.rt v H
 |.rt (.ow xs)=>∀p vs G H,Step G₀ X.H₀ G H->X.H₀ p=qw->G p=qw->H p=pi (.lst vs)->aJ X.K ad G xs vs->D'.rt (.ref p) H
 |.rt _=>False
def XA(X:Cx)(ad:Ad)(Z:(St->Nat->Hp->Prop)->Prop)(E:St->Nat->Hp->Prop):Prop:=(∀σ,XP X ad σ (E σ))/\Z E
def tS(X:Cx)(ad:Ad)(Z:(St->Nat->Hp->Prop)->Prop)(g:FS):TS:=λD' σ H=>∃G₀ G ρ E,SS X ad G₀ G H ρ σ/\XA X ad Z E/\OKo X ad G₀ (g ρ) D' E
abbrev MS(X:Cx)(ad:Ad)(Z:(St->Nat->Hp->Prop)->Prop)(st:Stmt)(g:FS):Prop:=PS X st (tS X ad Z g)
abbrev MSs(X:Cx)(ad:Ad)(Z:(St->Nat->Hp->Prop)->Prop)(st:L1 Stmt)(g:FS):Prop:=PSs X st (tS X ad Z g)
section
variable{X:Cx}{ad:Ad}{σ:St}{H G G₀:Hp}{ρ:Rho}{st:Stmt}
theorem SS.step(S:SS X ad G₀ G H ρ σ)(t:Step G H G1 H1):SS X ad G₀ G1 H1 ρ σ:=⟨S.st.trans t,S.sl.step t,S.ow,S.dj,S.rs.same S.sl t.sh⟩
def j0{G₀ Gs G H H₀ Hs}(a:Step G₀ H₀ Gs Hs)(b:Step Gs H₀ G H):Step G₀ H₀ G H:=
 ⟨a.sg.trans b.sg,b.gh,b.sh,λx c d=>by
  rcases q:Gs x with _|o;exact b.nw x q d;exact a.nw x c (by rw[q];exact λz=>nomatch z)⟩
def SS.up(a:Step G₀ X.H₀ Gs Hs)(S:SS X ad Gs G H ρ σ):SS X ad G₀ G H ρ σ:=⟨j0 a S.st,S.sl,S.ow,S.dj,S.rs⟩
def SS.here(S:SS X ad G₀ G H ρ σ):SS X ad G G H ρ σ:=⟨⟨Same.refl _,S.st.gh,S.st.sh,λb a c=>absurd a c⟩,S.sl,S.ow,S.dj,S.rs⟩
def OKo.rebase(h:OKo X ad G₀ o D' E)(a:Step G₀ X.H₀ Gs Hs):OKo X ad Gs o D' E:=by rcases o with g|r|g|g|⟨c,g⟩;exact λb G H S=>h b G H (S.up a);rcases r with d|j|c|_;exact λv G H f q=>h v G H (j0 a f) q;exact λp i G H f n m e q=>h p i G H (j0 a f) n m e q;exact h;exact h;exact λb G H S=>h b G H (S.up a);exact λb G H S=>h b G H (S.up a);exact λb G H S=>h b G H (S.up a)
def f8(S:SS X ad G₀ G H ρ σ)(hx:XA X ad Z E)(hr:OKo X ad G₀ (fN ρ (f ρ) k) D' E)(q: ∀v d G1 H1,Step G H G1 H1->Rep X.K ad G1 d v->OKo X ad G₀ (k d) D' E->Q' v H1):tE X ad f σ H Q':=by refine⟨G,ρ,E σ,S.st.gh,S.sl,hx.1 σ,?_⟩;unfold fN at hr;rcases e:f ρ with d|h|c|_;rw[e]at hr;exact λv G1 H1 st r=>q v d G1 H1 st r hr;rw[e]at hr;intro p i G1 H1 st n m g r;obtain⟨a,st2,b⟩:=dP (X:=X) (ad:=ad) st n m g r;exact q _ _ a H1 st2 b hr;rw[e]at hr;exact λG1 H1 st=>hr σ G1 H1 (S.step st);rw[e]at hr;exact hr
def Gy:MS X ad Z (.Pass pos) aX:=PS.imp yS λe c H a=>by obtain⟨b,G,f,E,S,g,d⟩:=a;exact d c G H S
def oW:MSs X ad Z [] aX:=PSs.imp lG λe c H a=>by obtain⟨b,G,f,E,S,g,d⟩:=a;exact d c G H S
def Am(h1:MS X ad Z st g):MSs X ad Z [st] g:=oH h1
def oX(h1:MS X ad Z st g)(h2:MSs X ad Z sts h):MSs X ad Z (st::sts) (aY g h):=by refine PSs.imp (i9 h1 h2) ?_;rintro o p H ⟨d,G,f,E,S,i,a⟩;refine⟨d,G,f,E,S,i,?_⟩;unfold aY at a;rcases e:g f with b|r|b|b|⟨c,b⟩;rw[e]at a;exact λm j n l=>⟨d,j,b,E,l,i,a⟩;rw[e]at a;cases r<;>exact a;rw[e]at a;exact a;rw[e]at a;exact a;rw[e]at a;exact a
def vP(he:ME X ad e f):MS X ad Z (.Return (pi e) pos) (eB f):=by refine PS.imp (u6 he) ?_;rintro s h H ⟨j,G,i,E,S,l,a⟩;refine⟨G,i,E h,S.st.gh,S.sl,l.1 h,?_⟩;unfold eB at a;rcases e:f i with d|t|c|_;rw[e]at a;exact λv b g st r=>a v b g (S.st.trans st) r;rw[e]at a;exact λp q b g st n m o r=>a p q b g (S.st.trans st) (S.st.sh.free n) m o r;rw[e]at a;exact λb g st=>a h b g (S.step st);rw[e]at a;exact a
def Gz(he:ME X ad e f)(hs:swapsWith e qw pos.line X.env=pure q7):MS X ad Z (.Expr e pos) (iT f):=by refine PS.imp (oI he hs) ?_;rintro l i H ⟨a,G,m,E,S,h,j⟩;exact f8 S h j λv d b g c r k=>k i b g (S.step c)
theorem SS.set(S:SS X ad G₀ G H ρ σ)(r:Rep X.K ad G d v):SS X ad G₀ G H (ρ.set i (.sh d)) (σ.set i (pi v)):=by
 have b: ∀(j:Nat) (sl:Slot),(ρ.set i (.sh d))[j]? =pi sl->(j=i/\sl= .sh d/\i<ρ.length)\/(j≠i/\ρ[j]? =pi sl):=λj sl e=>by
  by_cases z:j=i;subst z;have c:j<ρ.length:=by have:=(ay.mp e).1;rwa [lg]at this
  rw[bj c]at e;cases e;exact .inl ⟨rfl,rfl,c⟩;rw[bc (qu z)]at e;exact .inr ⟨z,e⟩
 refine⟨S.st,⟨by rw[lg,lg];exact S.sl.len,λj sl e=>?_⟩,λj l a e w h=>?_,λj n l s a e g w o h m=>?_,S.rs.set rfl λ_ z=>nomatch z⟩;rcases b j sl e with ⟨rfl,rfl,c⟩|⟨z,e⟩;exact⟨pi v,bj (by rw[<-S.sl.len];exact c),v,rfl,r⟩;obtain⟨q,p,t⟩:=S.sl.at_ j sl e;exact⟨q,by rw[bc (qu z)];exact p,t⟩;rcases b j _ e with ⟨_,z,_⟩|⟨z,e⟩;subst z;exact(bf w).elim;rw[bc (qu z)]at h;exact S.ow j l a e w h;rcases b j _ e with ⟨_,z,_⟩|⟨z,e⟩;subst z;exact(bf w).elim;rcases b n _ g with ⟨_,f,_⟩|⟨f,g⟩;subst f;exact(bf o).elim;rw[bc (qu z)]at h;rw[bc (qu f)]at m;exact S.dj j n l s a e g w o h m
def SL.own_at{K}{j:Nat}(h:SL K ad G H ρ σ)(e:ρ[j]? =pi sl)(w:sl.owns=qz)(hj:σ[j]? =pi (pi (.ref p))):G p=qw/\H p≠qw:=by obtain⟨n,i,g⟩:=h.at_ j sl e;rw[hj]at i;cases i;rcases sl with _|d|l|l|l|⟨_,_⟩;exact(bf w).elim;exact(bf w).elim;obtain⟨a,m,b,f,c,_⟩:=g;cases b;exact⟨f,by rw[c];exact λz=>nomatch z⟩;obtain⟨a,m,b,f,c,_⟩:=g;cases b;exact⟨f,by rw[c];exact λz=>nomatch z⟩;obtain⟨a,m,b,f,c,_⟩:=g;cases b;exact⟨f,by rw[c];exact λz=>nomatch z⟩;exact(bf w).elim
def SS.setNew{i:Nat}{sn:Slot}{p:Addr}{G1 H1:Hp}(S:SS X ad G₀ G H ρ σ)(st:Step G H G1 H1)(n:H p=qw)(r:SLi X.K ad G1 H1 sn (pi (.ref p)))(wr:sn.isRk=q7:=by rfl):
  SS X ad G₀ G1 H1 (ρ.set i sn) (σ.set i (pi (.ref p))):=by
 have x:=S.step st
 have c: ∀(j:Nat) (sl:Slot),(ρ.set i sn)[j]? =pi sl->(j=i/\sl=sn/\i<ρ.length)\/(j≠i/\ρ[j]? =pi sl):=λj sl e=>by
  by_cases z:j=i
  .subst z;have d:j<ρ.length:=by have:=(ay.mp e).1;rwa [lg]at this
   rw[bj d]at e;cases e;exact .inl ⟨rfl,rfl,d⟩
  .rw[bc (qu z)]at e;exact .inr ⟨z,e⟩
 have b: ∀(j:Nat) (sl:Slot),ρ[j]? =pi sl->sl.owns=qz->σ[j]? ≠pi (pi (.ref p)):=λj sl I w L=>(S.sl.own_at I w L).2 n
 refine⟨x.st,⟨by rw[lg,lg];exact S.sl.len,λj sl o=>?_⟩,λj t a o w h=>?_,λj s t E a M C A B g l=>?_,x.rs.set wr λa _ z k N f m=>by
  cases z;exact((f.back S.sl st.sh).at S.sl p m).2 n⟩
 .rcases c j sl o with ⟨q1,q,d⟩|⟨z,o⟩
  .rw[q1,q];exact⟨pi (.ref p),bj (by rw[<-S.sl.len];exact d),r⟩
  .obtain⟨J,g,l⟩:=x.sl.at_ j sl o;exact⟨J,by rw[bc (qu z)];exact g,l⟩
 .rcases c j _ o with ⟨q1,_,d⟩|⟨z,o⟩
  .rw[q1,bj (by rw[<-S.sl.len];exact d)]at h
   cases h;exact S.st.sh.free n
  .rw[bc (qu z)]at h;exact S.ow j t a o w h
 .rcases c j _ M with ⟨q1,_,d⟩|⟨z,y⟩
  .rcases c s _ C with ⟨q,_,_⟩|⟨v,u⟩
   .rw[q1,q]
   .rw[q1,bj (by rw[<-S.sl.len];exact d)]at g
    cases g;rw[bc (qu v)]at l;exact absurd l (b s E u B)
  .rcases c s _ C with ⟨q,_,d⟩|⟨v,u⟩
   .rw[q,bj (by rw[<-S.sl.len];exact d)]at l
    cases l;rw[bc (qu z)]at g;exact absurd g (b j t y A)
   .rw[bc (qu z)]at g;rw[bc (qu v)]at l;exact S.dj j s t E a y u A B g l
def SS.setOw(S:SS X ad G₀ G H ρ σ)(st:Step G H G1 H1)(n:H p=qw)(m:G1 p=qw)(e:H1 p=pi (.lst vs))(r:aJ X.K ad G1 xs vs):
  SS X ad G₀ G1 H1 (ρ.set i (.ow xs)) (σ.set i (pi (.ref p))):=S.setNew st n ⟨p,vs,rfl,m,e,r⟩
def KC(S:SS X ad G₀ G H ρ σ)(hx:XA X ad Z E)(hr:OKo X ad G₀ (xP i f ρ) D' E):tE X ad f σ H λv H1=>D'.nx (σ.set i (pi v)) H1:=by refine⟨G,ρ,E σ,S.st.gh,S.sl,hx.1 σ,?_⟩;unfold xP at hr;rcases e:f ρ with d|g|c|_;rw[e]at hr;exact λv a H1 st r=>hr _ a H1 ((S.step st).set r);rw[e]at hr;exact λp h a H1 st n m b r=>hr _ a H1 (S.setOw st n m b r);rw[e]at hr;exact λa H1 st=>hr σ a H1 (S.step st);rw[e]at hr;exact hr
def GA(hc:MT X ad c f)(ha:MSs X ad Z a g)(hb:MSs X ad Z b h):MS X ad Z (.If c a b pos) (sIf f g h):=by
 refine PS.imp (JA hc ha hb) ?_;rintro q m H ⟨j,G,l,E,S,o,i⟩;unfold sIf at i;rcases e:f l with d|s|k|_;rw[e]at i;cases d<;>try exact i.elim
 rename_i k;refine⟨G,l,E m,S.st.gh,S.sl,o.1 m,.inl ⟨k,e⟩,?_⟩;rw[e];intro v n p st r;unfold Rep at r;subst r;refine⟨k,rfl,?_⟩;rcases k with _|_;exact B3 ⟨j,n,l,E,S.step st,o,i⟩;exact y9 ⟨j,n,l,E,S.step st,o,i⟩;rw[e]at i;exact i.elim;rw[e]at i;refine⟨G,l,E m,S.st.gh,S.sl,o.1 m,.inr ⟨k,e⟩,?_⟩;rw[e];exact λn p st=>i m n p (S.step st);rw[e]at i;exact i.elim
def SS.shareG{i:Nat}{sl₀ sn:Slot}{a:Addr}{o:HO}(S:SS X ad G₀ G H ρ σ)(e:ρ[i]? =pi sl₀)(w₀:sl₀.owns=qz)(h1:σ[i]? =pi (pi (.ref a)))(h3:H a=pi o)(hst:Step G₀ X.H₀ (upd G a o) H)(wn:sn.owns=q7)
  (r:SLi X.K ad (upd G a o) H sn (pi (.ref a))) (wr:sn.isRk=q7:=by rfl):SS X ad G₀ (upd G a o) H (ρ.set i sn) σ:=by
 have Z:G a=qw:=(S.sl.own_at e w₀ h1).1;have u:Same G (upd G a o):=Same.upd_new Z;have W:i<ρ.length:=(ay.mp e).1;have l: ∀(j:Nat) (sl:Slot),(ρ.set i sn)[j]? =pi sl->(j=i/\sl=sn)\/(j≠i/\ρ[j]? =pi sl):=λj sl e=>by
  by_cases z:j=i;subst z;rw[bj W]at e;cases e;exact .inl ⟨rfl,rfl⟩;rw[bc (qu z)]at e;exact .inr ⟨z,e⟩
 refine⟨hst,⟨by show(ρ.set i _).length=_;rw[lg];exact S.sl.len,λj sl f=>?_⟩,λj t b f w h=>?_,λj U t zs b M Q J N n s=>?_,S.rs.re wr e w₀⟩;rcases l j sl f with ⟨q1,q2⟩|⟨z,f⟩;rw[q1,q2];exact⟨pi (.ref a),h1,r⟩;obtain⟨ov,n,s⟩:=S.sl.at_ j sl f;refine⟨ov,n,?_⟩;rcases sl with _|d|t|t|t|⟨C,r⟩;trivial;obtain⟨v,c,g⟩:=s;exact⟨v,c,g.mono u⟩;obtain⟨b,x,c,g,A,y⟩:=s;have B:b≠a:=λq=>by
  subst q;subst c;exact z (S.dj j i _ _ b f e rfl w₀ n h1)
 exact⟨b,x,c,by rw[aC B];exact g,A,y.mono u⟩;obtain⟨b,x,c,g,A,y,O⟩:=s;have B:b≠a:=λq=>by
  subst q;subst c;exact z (S.dj j i _ _ b f e rfl w₀ n h1)
 exact⟨b,x,c,by rw[aC B];exact g,A,y.mono u,O⟩;obtain⟨b,x,c,g,A,y,O⟩:=s;have B:b≠a:=λq=>by
  subst q;subst c;exact z (S.dj j i _ _ b f e rfl w₀ n h1)
 exact⟨b,x,c,by rw[aC B];exact g,A,y.mono u,O⟩;obtain⟨p,E,d,I,L,c,g⟩:=s;have Y:iA H ρ σ j [p,E,d,I,L]:=⟨C,r,p,E,d,I,L,f,by rw[n,c],g.ins,rfl⟩;exact⟨p,E,d,I,L,c,g.shr (λm=>S.rs.ow j _ Y a m i sl₀ e w₀ h1) u⟩;rcases l j _ f with ⟨_,z⟩|⟨z,f⟩;rw[z,wn]at w;exact(bf w).elim;exact S.ow j t b f w h;rcases l j _ M with ⟨_,z⟩|⟨z,M⟩;rw[z,wn]at J;exact(bf J).elim;rcases l U _ Q with ⟨_,T⟩|⟨T,Q⟩;rw[T,wn]at N;exact(bf N).elim;exact S.dj j U t zs b M Q J N n s
end
section
variable{X:Cx}{ad:Ad}{cc:cf}{s:Shared}{σ:St}{H G G₀:Hp}{ρ:Rho}{E:St->Nat->Hp->Prop}{e:Expr}{f:F}{st:Stmt}
def SS.updG{i:Nat}{sl₀ sn:Slot}{a:Addr}{o:HO}(S:SS X ad G₀ G H ρ σ)(e:ρ[i]? =pi sl₀)(w₀:sl₀.owns=qz)(h1:σ[i]? =pi (pi (.ref a)))(r:SLi X.K ad G (upd H a o) sn (pi (.ref a)))(wr:sn.isRk=q7:=by rfl):SS X ad G₀ G (upd H a o) (ρ.set i sn) σ:=by
 have n0:X.H₀ a=qw:=S.ow i sl₀ a e w₀ h1;have h2:G a=qw:=(S.sl.own_at e w₀ h1).1;have hl:i<ρ.length:=(ay.mp e).1;have n: ∀(j:Nat) (sl:Slot),(ρ.set i sn)[j]? =pi sl->(j=i/\sl=sn)\/(j≠i/\ρ[j]? =pi sl):=λj sl e=>by
  by_cases z:j=i;subst z;rw[bj hl]at e;cases e;exact .inl ⟨rfl,rfl⟩;rw[bc (qu z)]at e;exact .inr ⟨z,e⟩
 refine⟨rO S.st n0 h2,⟨by rw[lg];exact S.sl.len,λj sl Y=>?_⟩,λj E b Y w h=>?_,λj W E M b e1 e2 w1 w2 t u=>?_,?_⟩;rcases n j sl Y with ⟨q1,y⟩|⟨z,g⟩;rw[q1,y];exact⟨pi (.ref a),h1,r⟩;obtain⟨ov,t,u⟩:=S.sl.at_ j sl g;refine⟨ov,t,?_⟩;rcases sl with _|d|E|E|E|⟨C,r⟩;trivial;exact u;obtain⟨b,l,s,x,O,N⟩:=u;have B:b≠a:=λq=>by
  subst q;subst s;exact z (S.dj j i _ _ b g e rfl w₀ t h1)
 exact⟨b,l,s,x,by rw[aC B];exact O,N⟩;obtain⟨b,l,s,x,O,N⟩:=u;have B:b≠a:=λq=>by
  subst q;subst s;exact z (S.dj j i _ _ b g e rfl w₀ t h1)
 exact⟨b,l,s,x,by rw[aC B];exact O,N⟩;obtain⟨b,l,s,x,O,N⟩:=u;have B:b≠a:=λq=>by
  subst q;subst s;exact z (S.dj j i _ _ b g e rfl w₀ t h1)
 exact⟨b,l,s,x,by rw[aC B];exact O,N⟩;obtain⟨p,U,d,I,L,s,x⟩:=u;have ft:iA H ρ σ j [p,U,d,I,L]:=⟨C,r,p,U,d,I,L,g,by rw[t,s],x.ins,rfl⟩;exact⟨p,U,d,I,L,s,x.ups (λm=>S.rs.ow j _ ft a m i sl₀ e w₀ h1)⟩;rcases n j _ Y with ⟨q1,y⟩|⟨z,g⟩;rw[q1,h1]at h;cases h;exact n0;exact S.ow j E b g w h;rcases n j _ e1 with ⟨q1,_⟩|⟨z,g⟩;rcases n W _ e2 with ⟨y,_⟩|⟨z',A⟩;rw[q1,y];rw[q1]at t ⊢;exact S.dj i W _ M b e A w₀ w2 t u;rcases n W _ e2 with ⟨y,_⟩|⟨z',A⟩;rw[y]at u ⊢;exact S.dj j i E _ b g e w1 w₀ t u;exact S.dj j W E M b g A w1 w2 t u;refine RS.re (H:=upd H a o) ?_ wr e w₀;have bk: ∀{k:Nat} {v:L1 Addr},iA (upd H a o) ρ σ k v->iA H ρ σ k v:=λ{k v} f=>by
  obtain⟨C,r,p,U,d,I,L,g,A,f3,f4⟩:=f;obtain⟨p',J,d',T,Q,q1,y⟩:=S.sl.rk g;rw[A]at q1;cases q1;have ft:iA H ρ σ k [p,J,d',T,Q]:=⟨C,r,p,J,d',T,Q,g,A,y.ins,rfl⟩;have B:p≠a:=λz=>S.rs.ow k _ ft p (by simp) i sl₀ e w₀ (by rw[z];exact h1);rw[aC B]at f3;exact⟨C,r,p,U,d,I,L,g,A,f3,f4⟩
 exact⟨λk v f=>S.rs.h0 k v (bk f),λk v f=>S.rs.ow k v (bk f),λk k' v Z c f f'=>S.rs.rr k k' v Z c (bk f) (bk f')⟩
def HR.rep{K}(h:HR K ad G kvs es):es.map (·.1)=(kvs.map (·.1)).map qt/\aJ K ad G (kvs.map (·.2)) (es.map (·.2)):=by
 unfold HR at h;induction h with
 |nil=>exact⟨rfl,aJ.nil⟩
 |@cons p q d e h t c=>
  obtain⟨b,a⟩:=c;refine⟨?_,aJ.cons h.2 a⟩;rw[ni,ni,ni,h.1,b]
def GB{K}(g:G a=pi (.frz o (.dK es)))(h:HR K ad G kvs es):Rep K ad G (.dct (kvs.map (·.1)) (kvs.map (·.2))) (.ref a):=by obtain⟨b,c⟩:=h.rep;unfold Rep;exact⟨a,o,es,rfl,g,b,c⟩
def Inv.frzD(I:Inv X cc σ H s)(e:H a=pi (.dK es)): ∃o,Inv X cc σ (upd H a (.frz o (.dK es))) s:=by obtain⟨z,d,f,b,dd⟩:=zI I.hok e;obtain⟨o,c⟩: ∃o,s.heap.get? a=pi o:=let ⟨o,_,_,h,_⟩:=dd;⟨o,h⟩;exact⟨o,jX (h':=s.heap) (t':=s.toks) I (by rw[e];exact qa) ⟨rfl,λ_ _=>rfl⟩ ⟨o,c⟩ ⟨c,nJ z d b dd⟩⟩
theorem SS.frz1(S:SS X ad G₀ G H ρ σ)(I:Inv X cc σ H s): ∃G' H',SS X ad G₀ G' H' (SK.frz1 i ρ) σ/\Same G G'/\Inv X cc σ H' s:=by unfold SK.frz1;rcases e:ρ[i]? with _|sl;exact⟨G,H,S,Same.refl _,I⟩;rcases sl with _|d|v|kvs|d|⟨_,_⟩;exact⟨G,H,S,Same.refl _,I⟩;exact⟨G,H,S,Same.refl _,I⟩;obtain⟨a,m,b,c,g,h⟩:=S.sl.ow e;have f:Same G (upd G a (.lst m)):=Same.upd_new c;exact⟨_,H,S.shareG e rfl b g (S.st.share (S.ow i _ a e rfl b) c g) rfl ⟨.ref a,rfl,by unfold Rep;exact⟨a,m,rfl,SqL.of aH,h.mono f⟩⟩,f,I⟩;obtain⟨a,j,b,c,g,h,q⟩:=S.sl.dc e;obtain⟨o,t⟩:=Inv.frzD I g;have r:i<ρ.length:=(ay.mp e).1;have l:SS X ad G₀ G (upd H a (sdO a (o,j))) (ρ.set i (.sd kvs)) σ:=S.updG e rfl b ⟨a,(o,j),rfl,c,aH,h,q⟩;have u:(ρ.set i (.sd kvs))[i]? =pi (.sd kvs):=bj r;have f:Same G (upd G a (sdO a (o,j))):=Same.upd_new c;have n:=l.shareG (sn:=Slot.sh (D.dct (kvs.map λp:Str×D=>p.1) (kvs.map λp:Str×D=>p.2))) u rfl b aH (l.st.shareO (S.ow i _ a e rfl b) c aH) rfl ⟨.ref a,rfl,GB aH (h.mono f)⟩;rw[List.set_set]at n;exact⟨_,_,n,f,t⟩;exact⟨G,H,S,Same.refl _,I⟩;exact⟨G,H,S,Same.refl _,I⟩
theorem SS.frz{is}: ∀{ρ} {G H},SS X ad G₀ G H ρ σ->Inv X cc σ H s->∃G' H',SS X ad G₀ G' H' (SK.frz is ρ) σ/\Same G G'/\Inv X cc σ H' s:=by
 induction is with
 |nil=>intro ρ G H S I;exact⟨G,H,S,Same.refl _,I⟩
 |cons i is g=>
  intro ρ G H S I;obtain⟨l,m,d,a,c⟩:=S.frz1 (i:=i) I;obtain⟨e,b,j,h,f⟩:=g d c;exact⟨e,b,j,a.trans h,f⟩
def iM(h1:MS X ad Z st g):MS X ad Z st (fF is g):=by rcases is with _|⟨i,is⟩;exact h1;rintro c s m H b I ⟨a,G,n,E,S,d,f⟩;obtain⟨e,h,l,_,j⟩:=S.frz (is:=i::is) I;exact h1 c s m h b j ⟨a,e,_,E,l,d,f⟩
theorem SS.upd(S:SS X ad G₀ G H ρ σ)(e:ρ[i]? =pi (.ow xs))(h1:σ[i]? =pi (pi (.ref a)))(h2:G a=qw)(r:aJ X.K ad G ys ws):SS X ad G₀ G (L2.upd H a (.lst ws)) (ρ.set i (.ow ys)) σ:=
 S.updG e rfl h1 ⟨a,ws,rfl,h2,aH,r⟩
def iB(hs:starEach [e] X.env=(q7,eval e X.env)::starEach [] X.env):((backTo cpos (starEach [e] X.env)).all (fun x=> !x.1)&&(backToKw cpos (keywordEach [] X.env)).all (fun x=>x.1.isSome)
   &&decide ([e].length+([]:L1 Keyword).length+(if([]:L1 Keyword).isEmpty then 0 else 1)<30))=qz:=by
 rw[hs];rfl
structure ItG(X:Cx)(ad:Ad)(J:It)(G:Hp)(ds:List D):Prop where
 go: ∀(i:Nat) (G1 H1:Hp) (d:D),Same G G1->Same G1 H1->ds[i]? =pi d->J.go i H1/\∀x H2,J.yld i H1 x H2->∃G2,Step G1 H1 G2 H2/\Rep X.K ad G2 d x
 stop: ∀(G1 H1:Hp),Same G G1->Same G1 H1->J.stop ds.length H1
def IGK(X:Cx)(ad:Ad)(G H:Hp)(r:R)(W:It->Hp->Prop)(E:Nat->Hp->Prop):Prop:=match r with
 |.ok d=>∃ds,kH d=pi ds/\∀J G' H',Step G H G' H'->ItG X ad J G' ds->W J H'
 |.ow xs=>∀J G' H',Step G H G' H'->ItG X ad J G' xs->W J H'
 |.ex c=>∀G' H',Step G H G' H'->E c H'
 |.bad=>False
def tIG(X:Cx)(ad:Ad)(f:F):TI:=λσ H W=>∃G ρ E,Same G H/\SL X.K ad G H ρ σ/\XP X ad σ E/\IGK X ad G H (f ρ) W E
abbrev MIG(X:Cx)(ad:Ad)(tg e:Expr)(f:F):Prop:=PI X tg e (tIG X ad f)
def GC(hq:SqL X.K G a vs)(r:aJ X.K ad G ds vs):ItG X ad (Itl X.K a) G ds:=by refine⟨λi f j d c b e=>?_,λf j c b=>⟨vs,b.seq (c.seq hq),by rw[r.length];exact aj _⟩⟩;obtain⟨v,g,h⟩:=r.get e;refine⟨⟨vs,v,b.seq (c.seq hq),g⟩,?_⟩;rintro x l ⟨rfl,y⟩;have:=y vs (b.seq (c.seq hq));rw[g]at this;cases this;exact⟨f,Step.refl b,h.mono c⟩
def GD{lo}:ItG X ad (Itr lo n) G ((pq n).map λ(i:Nat)=>D.int (lo+(i:Int))):=by refine⟨λi b g d h a e=>?_,λb g h a=>by simp[Itr]⟩;rw[ji]at e;rcases q:(pq n)[i]? with _|j;rw[q]at e;cases e;rw[q]at e;obtain⟨c,f⟩:=ay.mp q;rw[jl]at c;rw[List.getElem_range]at f;subst f;cases e;refine⟨c,?_⟩;rintro x l ⟨rfl,rfl⟩;exact⟨b,Step.refl a,bU⟩
def uB{tg a}{f}(ha:ME X ad a f):MIG X ad tg a f:=by
 rintro L s C H W I ⟨G,M,E,Q,N,O,x⟩;have B: ∀(d:D) (z:L1 D),kH d=pi z->(∀J G' H',Step G H G' H'->ItG X ad J G' z->W J H')->∀u i v g h,Inv X L C g i->bG v u->Step G H h g->Rep X.K ad h d v->X.wp (pyIter u) (PIE X L C tg W) X.xe i:=by
  intro d z e S u i v g h t y r q;cases d<;>try (cases e;done)
  cases e;unfold Rep at q;obtain⟨p,vs,rfl,T,rq⟩:=q;cases (show u=qh p from y);obtain⟨Z,rv,pt,hz⟩:=t.list (r.gh.seq T);refine wpAny_pyIter_list pt.isList ?_;refine⟨i.z,[i.z],_,_,g,rfl,t.kept (t':=i.toks) λb o e=>ae _ e,p8 p _,⟨_,af _ rfl,rfl,rfl⟩,λb U=>?_,S _ h g r (GC T rq)⟩;have e:b=i.z:=by simpa using U
  subst e;exact t.fpOk (aj _) (t.hok.fresh (aj _))
 rcases e:f M with d|l|c|_;rw[e]at x;obtain⟨z,e2,S⟩:=x;exact L2.thn (ha L s C H (λv g=>∃h,Step G H h g/\Rep X.K ad h d v) I ⟨G,M,E,Q,N,O,by rw[e];exact λv h g r q=>⟨h,r,q⟩⟩) λu i j=>by obtain⟨v,g,t,y,h,r,q⟩:=j;exact B d z e2 S u i v g h t y r q
 rw[e]at x;exact L2.thn (ha L s C H (λv g=>∃h,Step G H h g/\Rep X.K ad h (.lst l) v) I ⟨G,M,E,Q,N,O,by rw[e];exact λp vs h g r n m Y q=>dP r n m Y q⟩) λu i j=>by obtain⟨v,g,t,y,h,r,q⟩:=j;exact B (.lst l) l rfl x u i v g h t y r q
 rw[e]at x;exact L2.thn (ha L s C H (λv g=>False) I ⟨G,M,E,Q,N,O,by rw[e];exact x⟩) λu i j=>by obtain⟨v,g,t,y,q⟩:=j;exact q.elim
 rw[e]at x;exact ba x
def An{tg a}{f}(hg:L2.Gl X "range")(hm:X.mg "range"=qw)(ha:ME X ad a f)(hs:starEach [a] X.env=(q7,eval a X.env)::starEach [] X.env):MIG X ad tg (.Call (.Name "range" p) [a] [] pos) (cW f):=by
 rintro u s o H W I ⟨G,n,E,z,t,w,b⟩;refine p9 (ta:=tH (tE X ad f) IZ) hg hm (cJ ha eP hs) hs u s o H W I ?_;show tE X ad f o H λv h=>∃j:Int,[v]=[.int j]/\ -(2^62)<=j/\j<2^62/\W (Itr 0 j.toNat) h;refine⟨G,n,E,z,t,w,?_⟩;unfold cW at b;rcases e:f n with d|l|c|_;rw[e]at b;cases d<;>try exact ba b
 rename_i i;have g:IGK X ad G H (if -100000<=i/\i<=100000 then .ok (.lst (qR i.toNat))else .bad) W E:=b;by_cases m: -100000<=i/\i<=100000;rw[if_pos m]at g;obtain⟨A,e,x⟩:=g;cases e;intro v q h y r;unfold Rep at r;subst r;refine⟨i,rfl,by lia,by lia,x _ q h y ?_⟩;rw[Al];exact GD;rw[if_neg m]at g;exact g.elim;rw[e]at b;exact ba b;rw[e]at b;exact b;rw[e]at b;exact b
end
def gIs:L1 Nat->TGs
 |[]=>Nn
 |i::is=>FA (lH i) (gIs is)
noncomputable def CL:L1 Nat->L1 V->St->St
 |i::is,v::vs,σ=>CL is vs (σ.set i (pi v))
 |_,_,σ=>σ
theorem vQ: ∀{is} {vs} {σ} {H} {Q:St->Hp->Prop},vs.length=is.length->Q (CL is vs σ) H->gIs is vs σ H Q
 |[],[],_,_,_,_,h=>⟨rfl,h⟩
 |i::is,v::vs,σ,H,Q,e,h=>⟨v,vs,rfl,vQ (is:=is) (vs:=vs) (by simpa using e) h⟩
 |[],_::_,_,_,_,e,_=>by simp at e
 |_::_,[],_,_,_,e,_=>by simp at e
def gTs(K:oe)(k:Nat)(is:L1 Nat):TG:=match k,is with
 |0,[i]=>lH i
 |k,is=>JB K is.length (gIs is)
def MZ(X:Cx)(x:Str)(i:Nat):Prop:=X.N[i]? =pi x/\Loc X.env.scope x/\(X.fn x=qz\/X.env.scope.names.lookup x=pi .local)
inductive NmsOk(X:Cx):List Str->List Nat->Prop
 |nil:NmsOk X [] []
 |cons {x:Str} {i:Nat} {xs:List Str} {is:List Nat}:MZ X x i->NmsOk X xs is->NmsOk X (x::xs) (i::is)
section
variable{X:Cx}{ad:Ad}{Z:(St->Nat->Hp->Prop)->Prop}{σ:St}{H G G₀:Hp}{ρ:Rho}{D':Ends}{E:St->Nat->Hp->Prop}{e tg:Expr}{f:F}{g h:FS}
theorem NmsOk.len: ∀{xs} {is},NmsOk X xs is->is.length=xs.length
 |_,_,.nil=>rfl
 |_,_,.cons _ h=>by simp[NmsOk.len h]
theorem Ao(hN:X.N.Nodup): ∀{es} {xs} {is},eM (λe=>match e with|.Name x _=>pi x|_=>qw) es=pi xs->NmsOk X xs is->PGs X es (gIs is)
 |[],xs,is,e,h=>by
  cases e;cases h;exact yT
 |a::es,xs,is,e,h=>by
  unfold eM at e;cases a<;>try (cases e)
  rename_i x g;simp only at e;obtain⟨r,f,d⟩:=zMd e;subst d;cases h with
  |cons b c=>exact u7 (lI hN b.1 b.2.1 b.2.2) (Ao hN f c) rfl
theorem j4: ∀{es} {xs},eM (λe=>match e with|.Name x _=>pi x|_=>qw) es=pi xs->(assignEach es X.env).length=xs.length/\(assignEach es X.env).findIdx? (·.1)=qw
 |[],xs,e=>by cases e;exact⟨rfl,rfl⟩
 |a::es,xs,e=>by
  unfold eM at e;cases a<;>try (cases e)
  rename_i x b;simp only at e;obtain⟨r,g,f⟩:=zMd e;subst f;obtain⟨c,d⟩:=j4 g;have q:assignEach (.Name x b::es) X.env=(q7,assign (.Name x b) X.env)::assignEach es X.env:=rfl;rw[q];refine⟨by simp[c],?_⟩;rw[iz];simp[d]
def CM(hc:X.calm=qz)(hN:X.N.Nodup)(e:cF tg=pi (xs,k))(h:NmsOk X xs is):PG X tg (gTs X.K k is)/\(k=0/\is.length=1\/k≠0/\k=is.length):=by
 cases tg<;>try (cases e)
 rename_i x c;cases h with
 |cons b m=>
  cases m;exact⟨lI hN b.1 b.2.1 b.2.2,.inl ⟨rfl,rfl⟩⟩
 rename_i o j c;unfold cF at e;obtain⟨g,f,a⟩:=zBd e;by_cases d:2<=g.length;rw[if_pos d]at a;cases a;obtain⟨q1,l⟩:=j4 (X:=X) f;have hk:=h.len;refine⟨?_,.inr ⟨by lia,hk.symm⟩⟩;have P:=Ea (pos:=c) (k:=j) (n:=is.length) hc (Ao hN f h) (by rw[q1,hk]) l;have:gTs X.K xs.length is=JB X.K is.length (gIs is):=by
  unfold gTs;rcases is with _|⟨i,is⟩;simp at hk;lia;rcases p:xs.length with _|n;lia;rfl
 rw[this];exact P;rw[if_neg d]at a;cases a
theorem SS.setN: ∀{is} {ds} {vs} {ρ} {σ},SS X ad G₀ G H ρ σ->aJ X.K ad G ds vs->SS X ad G₀ G H (SK.setN is ds ρ) (CL is vs σ)
 |[],ds,vs,ρ,σ,S,r=>by
  have f:SK.setN [] ds ρ=ρ:=by cases ds<;>rfl
  have c:CL [] vs σ=σ:=by cases vs<;>rfl
  rw[f,c];exact S
 |i::is,[],vs,ρ,σ,S,r=>by
  unfold aJ at r;subst r;exact S
 |i::is,d::ds,vs,ρ,σ,S,r=>by
  unfold aJ at r;obtain⟨v,b,rfl,a,e⟩:=r;exact SS.setN (is:=is) (ds:=ds) (vs:=b) (ρ:=ρ.set i (.sh d)) (σ:=σ.set i (pi v)) (S.set a) e
def EF{Q:St->Hp->Prop}(hk:k=0/\is.length=1\/k≠0/\k=is.length)(e:q8 is (k==0) d ρ=pi ρ1)(S:SS X ad G₀ G H ρ σ)(r:Rep X.K ad G d v)(q: ∀σ1,SS X ad G₀ G H ρ1 σ1->Q σ1 H):gTs X.K k is v σ H Q:=by
 rcases hk with ⟨rfl,c⟩|⟨c,p⟩;obtain⟨i,rfl⟩:=gc.mp c;cases e;exact q _ (S.set r);have j:(k==0)=q7:=by simpa using c
 rw[j]at e;have n:q8 is q7 d ρ=match(generalizing:=false) d with|.tup f=>if f.length=is.length then pi (SK.setN is f ρ)else qw|_=>qw:=by
  rcases is with _|⟨_,_⟩;rfl;rfl
 have b:=n.symm.trans e;have o:gTs X.K k is=JB X.K is.length (gIs is):=by
  unfold gTs;rcases k with _|k;exact absurd rfl c;rfl
 rw[o];cases d<;>try (cases b)
 rename_i f;simp only at b;by_cases g:f.length=is.length;rw[if_pos g]at b;cases b;unfold Rep at r;obtain⟨a,m,rfl,l,h⟩:=r;exact⟨a,m,rfl,S.st.gh.seqT l,by rw[h.length,g],vQ (by rw[h.length,g]) (q _ (S.setN h))⟩;rw[if_neg g]at b;cases b
def GE{α:Type}{ds:L1 α}{d}(e:ds[i]? =pi d):ds.drop i=d::ds.drop (i+1):=by obtain⟨h,rfl⟩:=ay.mp e;exact dz h
def k8{J}{G' H'}{ds}{k}{is}(hk:k=0/\is.length=1\/k≠0/\k=is.length)(S:SS X ad G₀ G' H' ρ σ)(hx:XA X ad Z E)(it:ItG X ad J G' ds)(hr:OKo X ad G₀ (fU (q8 is (k==0)) g ds ρ) D' E):
  ∃W:Nat->Nat->St->Hp->Prop,(∃m,W 0 m σ H')/\∀i m σ H,W i m σ H->
   (J.stop i H/\D'.nx σ H)\/(J.go i H/\∃N:St->Hp->Prop,(∀σ' H',N σ' H'->∃m',m'<m/\W (i+1) m' σ' H')/\∀x H',J.yld i H x H'->gTs X.K k is x σ H' λσ2 H2=>tS X ad Z g {D' with nx:=N,ct:=N,bk:=D'.nx} σ2 H2):=by
 refine⟨λi m σ H=>m=ds.length-i/\i<=ds.length/\∃G ρ,SS X ad G₀ G H ρ σ/\Same G' G/\OKo X ad G₀ (fU (q8 is (k==0)) g (ds.drop i) ρ) D' E,⟨_,rfl,bu _,G',ρ,S,Same.refl _,hr⟩,?_⟩;rintro i m v t ⟨rfl,Y,w,A,n,o,e⟩;rcases q:ds[i]? with _|d;have U:ds.length<=i:=List.getElem?_eq_none_iff.mp q;have:i=ds.length:=by lia
 subst this;refine .inl ⟨it.stop w t o n.st.gh,?_⟩;rw[kg]at e;exact e v w t n;have z:i<ds.length:=(ay.mp q).1;obtain⟨go,I⟩:=it.go i w t d o n.st.gh q;refine .inr ⟨go,λσ' H'=>∃G ρ,SS X ad G₀ G H' ρ σ'/\Same G' G/\OKo X ad G₀ (fU (q8 is (k==0)) g (ds.drop (i+1)) ρ) D' E,λσ' H' p=>by obtain⟨M,s,O,T,Q⟩:=p;exact⟨_,by lia,rfl,z,M,s,O,T,Q⟩,λx H2 y=>?_⟩;obtain⟨B,st,C⟩:=I x H2 y;rw[GE q]at e;unfold fU at e;rcases u:q8 is (k==0) d A with _|a;rw[u]at e;exact e.elim;rw[u]at e;have L:=n.step st;refine EF hk u L C λσ2 j=>?_;refine⟨B,B,a,E,j.here,hx,?_⟩;have b:OKo X ad G₀ (match g a with
  |.nx a=>fU (q8 is (k==0)) g (ds.drop (i+1)) a
  |.ct a=>fU (q8 is (k==0)) g (ds.drop (i+1)) a
  |.bk a=>.nx a
  |.rt r=>.rt r
  |.ex c a=>.ex c a) D' E:=e
 rcases l:g a with f|r|f|f|⟨c,f⟩;rw[l]at b;exact λσ G H h=>⟨G,f,h.up j.st,(o.trans st.sg).trans h.st.sg,b⟩;rw[l]at b;have:=b.rebase j.st;cases r<;>exact this;rw[l]at b;exact λσ G H h=>b σ G H (h.up j.st);rw[l]at b;exact λσ G H h=>⟨G,f,h.up j.st,(o.trans st.sg).trans h.st.sg,b⟩;rw[l]at b;exact λσ G H h=>b σ G H (h.up j.st)
def EG(hp:PassesOwn (model X.prog X.w) X.A X.env X.xe)(hc:X.calm=qz)(hN:X.N.Nodup)(hi:MIG X ad tg it f)(ht:cF tg=pi (xs,k))(hn:NmsOk X xs is)(hb:MSs X ad Z body g)(hs: ∀x,foldedSetIterable it X.env x=pure x):MS X ad Z (.For tg it body [] pos) (tU is (k==0) f g):=by obtain⟨P,hk⟩:=CM hc hN ht hn;refine PS.imp (JD hp hc hi P hb hs) ?_;rintro p n H ⟨h,G,j,E,S,l,a⟩;refine⟨G,j,E n,S.st.gh,S.sl,l.1 n,?_⟩;unfold tU fN at a;rcases e:f j with d|xs|c|_;rw[e]at a;have b:OKo X ad h (match kH d with|some m=>fU (q8 is (k==0)) g m j|none=>.rt .bad) p E:=a;rcases i:kH d with _|m;rw[i]at b;exact b.elim;rw[i]at b;exact⟨m,i,λJ q r st it=>k8 hk (S.step st) l it b⟩;rw[e]at a;exact λJ q r st it=>k8 hk (S.step st) l it a;rw[e]at a;exact λo s st=>a n o s (S.step st);rw[e]at a;exact a
def KD{st}:MS X ad Z st MR:=λ_ _ _ _ _ _ a=>by obtain⟨_,_,_,_,_,_,b⟩:=a;exact ba b
end
section
variable{X:Cx}{ad:Ad}{s3:Shared}{σ σ2:St}{H3:Hp}{pos pos' cpos:Pos}{elt it tg:Expr}{ifs:L1 Expr}{fi fe:F}{fc:L7 F}{sc:Scope}{k:Nat}{cs:L1 Nat}{xs:L1 Str}
def uC(I3:Inv X cc σ H3 s3)(I2:Inv X cc σ2 H' s2)(hf:H' s3.z=qw)(sb:oq s3.z s2.heap h'):Inv X cc σ2 H' {s2 with heap:=h'}:=by refine I2.turned (t':=s2.toks) (it:=s3.z) (λb o f e=>(sb.2 b f).trans e) hf ?_ (.inr I3.sz) (λx c h z=>?_) λp g z=>?_;intro z;obtain⟨m,d,_⟩:=I3.loc;obtain⟨o,_,_,a,_⟩:=d;exact absurd (ah a) (by rw[<-z];exact nh _);obtain⟨v,o,a,_⟩:=I3.cell x c h;exact absurd (ah a) (by rw[z];exact nh _);obtain⟨a,_⟩:=I3.pin p g;exact absurd (ah a) (by rw[z];exact nh _)
def CN(n:h.Ns C m)(sb:oq a h h')(ne:C≠a):h'.Ns C m:=by obtain⟨o,c,b,d,r⟩:=n;exact⟨o,c,b,(sb.2 C ne).trans d,r⟩
def GF{C}{i}{x}(hN:X.N.Nodup)(hi:MZ X x i)(hc:X.calm=qz)(S:CompSc X C sc xs cs)(hit:MI X ad tg it fi)(hset: ∀a b c,it≠ .Set a b c)(hxs:xs.length=if k=0 then 1 else k)
  (hg: ∀fp s3 H3 pins',PG (cX X (xs++bE sc) sc s3 H3 fp pins') tg (gTg X.K k)) (hts: ∀fp s3 H3 pins',MTs (cX X (xs++bE sc) sc s3 H3 fp pins') ad ifs fc) (he: ∀fp s3 H3 pins',ME (cX X (xs++bE sc) sc s3 H3 fp pins') ad elt fe)
  (hs:swapsWith (.ListComp elt [⟨tg,it,ifs,0⟩] sc cpos) (pi (.Name x pos')) pos.line X.env=pure qz):
  PS X (.Assign [.Name x pos'] (.ListComp elt [⟨tg,it,ifs,0⟩] sc cpos) pos) (FD (tE X ad (a8 k cs fi fc fe)) (lH i)):=by
 rintro Y s l H D' I ⟨G,ρ,E,hG,hS,r,hr⟩;rw[exec_Assign_Name_used _ _ _ _ hs]
 have y:closureFor sc X.env=pure (l7 X.env.cells sc.names []):=jY λx r=>by
  obtain⟨c,h⟩:=I.ok.has x (S.fre x r);rw[h];rfl
 refine aa (wpAny_standAt (aa ?_));show wpAny _ X.A (do let _<-comprehension (.ListComp elt [⟨tg,it,ifs,0⟩] sc cpos) sc X.env _ (newList []) q7 (eval it X.env) (pi (assign (.Name x pos') X.env))) _ _ s
 refine aa (wpAny_mono (wpAny_comprehension_free (use:=pi (assign (.Name x pos') X.env)) (Q:=λ_ p=>SP X Y D' .next p) rfl (Aj hset) y S.kind S.names ?_) (λ_ p hq=>ac (ac hq)) λ_ _ e=>e)
 refine L2.thn (hit Y s l H _ I ⟨G,ρ,E,hG,hS,r,KB (W:=λJ g=>∃f j all,Step G H f g/\ItH X ad J f g j/\bC (dQ k (kG cs ρ) fc fe) j=pi all/\RK X.K ad f g (.ow all) (λv H1=>lH i v l H1 D'.nx) E) hr λJ f g j all a b c d=>⟨f,j,all,a,b,c,d⟩⟩) λv s1 h1=>
  L2.thn h1 λam s2 u=>?_
 obtain⟨ag,fp,tn,J,g,e,I2,T,st2,f2,f,j,all,sp,hit,w,Z⟩:=u;subst e;obtain⟨σc,l1,l2,l3⟩:=nQ (xs:=xs) (sc:=sc) (nt:=if k=0 then 1 else k) hxs S.N S.cs (λx h=>rQ h) (hS.step sp) I2.len
 refine rP (σc:=σc) hc I2 T st2 f2 hit w sp.gh S.kind S.cell S.fre S.frl l1 l2 rfl l3 (hg fp) (hts fp) (he fp) λs3 p H3 L G' ak D vs n f3 t O hD gD M r'=>?_
 obtain⟨m,ab,_⟩:=t.loc;have I4:Inv X Y l L p:=ED (fpO:=f3) n t ⟨rfl,λ_ _=>rfl⟩
 show wpAny _ X.A (assign (.Name x pos') X.env (.ref D)) _ _ _;refine wpAny_assign_Name (p7 I4 hN hi.1 hi.2.1 (v:=.ref D) rfl (λal I5 ⟨a,sb,q⟩=>?_) hi.2.2)
 have ne:s3.z≠a:=by
  rcases q with rfl|q
  .intro z;obtain⟨m',hn,_⟩:=n.loc;obtain⟨o,_,_,B,_⟩:=hn;exact absurd (ah B) (by rw[<-z];exact nh _)
  .intro z;obtain⟨v,o,B,_⟩:=n.cell x a q;exact absurd (ah B) (by rw[<-z];exact nh _)
 refine⟨m,CN ab sb ne,λh' U=>?_⟩
 exact⟨l.set i (pi (.ref D)),L,uC n I5 t.free U,Z D vs G' L O hD gD M r'⟩
end
open PySem.Calls Builtin Builtin.ObjectAttr Builtin.Getset_descriptor
section
variable{E:ce}{K:Frag}{R:Result->Shared->Prop}
def oS.ty(I:oS h x C):Looks M h (typeOf (.ref x)) (.ref C):=by obtain⟨o,c,a,b,d⟩:=I;exact b▸(Looks.ld a).andThen .now
def GG(X:K.In s.heap)(I:oS s.heap x C)(hm:mroIn K C (.type "object")=pi qz)(h:R (.ok (.ret (.ref C))) s):
  codeAny (model prog w) A (.call (.builtin "getset_descriptor.__get__") ⟨[.builtin "object.__class__",.ref x,tp],[]⟩) R s:=by
 obtain⟨b,g,dr,t,d⟩:=s;have a:=I.ty (M:=model prog w);have c:=looks_mroIn (M:=model prog w) X hm;refine codeAny_call_builtin KF.slot_gs.plain KF.entry_gs (KF.slot_gs.check _ _ _ _ _ _ _ _ KF.type_class (KF.args_gs _ _ _) ?_);unfold Builtin.«getset_descriptor.__get__» descrGet;rw[dga_obj];refine aa (ac ?_);unfold descrGetter descrCheckInstance descrNameAndClass isInstance;simp only[KF.owner_class];repeat lk
 refine⟨Code.quiet_builtin _ (by decide+kernel),codeAny_builtin KF.entry_class ?_⟩;unfold Builtin.«object.__class__» shownTypeOf;repeat lk
 exact h
def Ap(X:K.In s.heap)(I:oS s.heap x C)(hm:mroIn K C (.type "BaseException")=pi qz)(hq:Q () s):wpAny M A (checkBuiltinCall "BaseException.__getattribute__" ⟨[.ref x,nameV],[]⟩) Q E s:=by
 obtain⟨d,g,dr,t,f⟩:=s;have hk:builtinKind "BaseException.__getattribute__"=pi .slot:=by decide+kernel
 have a:splitId "BaseException.__getattribute__"=pi ("BaseException","__getattribute__"):=by decide+kernel
 have c:=I.ty (M:=M);have b:=looks_mroIn (M:=M) X hm;have e:=F.args_bexc_ga (.ref x) nameV;simp only[checkBuiltinCall,hk,a];refine aa ?_;unfold isInstance;refine aa (c.at (b.at ?_));repeat (any_goals (first|assumption|wp_step))
def Aq(X:K.In s.heap)(I:oS s.heap x C)(hm:mroIn K C (.type "object")=pi qz)(ha:findIn K (.ref C) "__class__"=pi (pi (.builtin "object.__class__")))(hq:Q (.done (.ret (.ref C))) s):
  wpAny (model prog w) A (Builtin.«object.__getattribute__» ⟨[.ref x,.str "__class__" tk],[]⟩) Q E s:=by
 obtain⟨b,g,d,t,c⟩:=s;have a:(⟨b,g,d,t,c⟩:Shared).TypeIs (.builtin "object.__class__") "getset_descriptor":=F.typeOf_object_class;have m:=F.typeOf_object_class;have l:=F.slot_gs_get.lookup;have p:=F.slot_gs_set.lookup;have j:=I.ty (M:=model prog w);have h:=looks_findIn (M:=model prog w) X ha;obtain⟨o,n,f,e,i⟩:=id I;repeat (any_goals (first|assumption|(with_reducible refine wpAny_loadPart_at f ?_;rw[e])|with_reducible refine h.at ?_|wp_step))
 refine GG X I hm ?_;repeat (any_goals (first|assumption|wp_step))
def Ar(X:K.In s.heap)(I:oS s.heap x C)(hm:mroIn K C (.type "object")=pi qz)(hb:mroIn K C (.type "BaseException")=pi qz)(ha:findIn K (.ref C) "__class__"=pi (pi (.builtin "object.__class__")))(hg:findIn K (.ref C) "__getattribute__"=pi (pi (.builtin "BaseException.__getattribute__")))(hn:findIn K (.ref C) "__getattr__"=pi qw)(h:Q (pi (.ref C)) {s with toks:=s.toks+1}):
  wpAny (model prog w) A (getAttr? (.ref x) "__class__") Q E s:=by
 obtain⟨m,g,d,t,n⟩:=s;have l:=I.ty (M:=model prog w);have i:=looks_findIn (M:=model prog w) X hg;have f:=looks_findIn (M:=model prog w) X hn;have q:=PySem.F.excAttr_ValueError.ga.bind (.ref x);have a:(nz "BaseException.__getattribute__"==nz "object.__getattribute__")=q7:=by decide+kernel
 have b:(onTheHeap (qh C)&&nz "BaseException.__getattribute__"==nz "object.__getattribute__")=q7:=by rw[a];rfl
 obtain⟨o,p,e,c,j⟩:=id I;unfold getAttr? getAttrBy? getAttrBy;repeat (any_goals (first|assumption|(with_reducible refine wpAny_loadPart_at e ?_;rw[c])|with_reducible refine i.at ?_|with_reducible refine f.at ?_|wp_step))
 refine codeAny_call_builtin PySem.F.excAttr_ValueError.ga.plain F.entry_bexc_ga (Ap X I hb (Aq X I hm ha ?_));repeat (any_goals (first|assumption|wp_step))
end
def _root_.L2.ObjOk.there(x:ObjOk P w H h a o): ∃ob,h.get? a=pi ob:=by rcases o with b|b|kvs|kvs|⟨S,n⟩|⟨C,i,fs⟩|y|fs|⟨f,y⟩|⟨j,g⟩|⟨ob,u⟩|c|d;obtain⟨_,_,_,_,e⟩:=x;exact⟨_,e⟩;obtain⟨_,_,_,⟨ob,e,_⟩,_⟩:=x;exact⟨_,e⟩;obtain⟨_,_,_,_,o,_,_,e,_⟩:=x;exact⟨_,e⟩;obtain⟨_,_,_,_,o,_,_,e,_⟩:=x;exact⟨_,e⟩;obtain⟨o,_,_,_,e,_⟩:=x;exact⟨_,e⟩;obtain⟨_,_,_,e,_⟩:=x;exact⟨_,e⟩;exact x;obtain⟨_,⟨_,_,_,e,_⟩,_⟩:=x;exact⟨_,e⟩;exact⟨_,(show h.get? a=pi _ from x)⟩;obtain⟨_,_,_,e⟩:=x;exact⟨_,e⟩;obtain⟨e,_⟩:=x;exact⟨_,e⟩;exact⟨_,(show h.get? a=pi _ from x)⟩;obtain⟨_,e,_⟩:=x;exact e
section
variable{X:Cx}{ad:Ad}{σ:St}{E₀:XK}
structure DefX(X:Cx)(E₀:XK):Prop where
 ex:X.ex=[]
 stk:X.stack=X.env::X.outer
 fr:X.env.frame=pi X.env.locals
 xe: ∀e s',X.wp (leaving X.env e) (λ_ s''=>CXe X.prog X.w X.outer X.H₀ X.s₀ E₀ e s'') (λe' s''=>CXe X.prog X.w X.outer X.H₀ X.s₀ E₀ e' s'') s'->X.xe e s'
def vR(J:Inv X cc σ H s)(e:X.s₀.heap.get? b=pi o):b≠X.env.locals:=λz=>by
 have:=ah e;rw[z]at this;exact absurd (bg this J.ok.above) (nh _)
def As(J:Inv X cc σ H s)(e:X.s₀.heap.get? b=pi o)(nf:b∉X.fs):b∉frs X.stack:=λz=>by
 rcases av.mp (J.stkSub b z)with q|q;exact vR J e q;exact nf q
def EH(T:DefX X E₀)(J:Inv X cc σ H' s)(fly:Heap.FlyingW B X.outer ea cls a0 h')(ff:s.heap.FunFrames B X.stack)(stays:B.StaysIn s.heap)(up:s.heap.UpToSlots h')(c8: ∀b o,X.s₀.heap.get? b=pi o->b∉X.fs->∃o',B.get? b=pi o')(c9: ∀b o,H' b=pi o->∃o',B.get? b=pi o')(ne:H' ea=qw)(q:E₀ cls qw H'):
  CXe X.prog X.w X.outer X.H₀ X.s₀ E₀ (.ref ea) {s with heap:=h'}:=by
 have nx: ∀b,b∉X.ex:=λb=>by rw[T.ex];simp
 have st2:B.StaysIn h':=fly.1;have d: ∀b o,s.heap.get? b=pi o->(∃o',B.get? b=pi o')->h'.get? b=pi o:=λb o e ⟨o',m⟩=>by
  have:=stays b o' m;rw[e]at this;cases this;exact st2 b o m
 have a: ∀b∈X.fs, ∀o,s.heap.get? b=pi o->∃l,h'.get? b=pi {o with slots:=l}:=λb p o e=>by
  obtain⟨_,t,h,r⟩:=ff.mem (b:=b) (by rw[T.stk];show b∈frs (X.env::X.outer);unfold frs;rw[ib,T.fr];exact g7 _ p);rw[e]at h;cases h;exact up b o e r
 refine⟨ea,cls,a0,H',B,rfl,J.os,J.bare,fly,⟨λb o e n f _=>?_,λb o e n f _=>?_,λb o e n _=>?_,λb o e _=>?_,J.base.tups,J.base.frzs,J.base.tbls⟩,λb o e=>?_,ne,c8,c9,q⟩;exact d b o (J.base.keep b o e n f (nx b)) (c8 b o e f);obtain⟨l,g⟩:=J.base.slot b o e n f (nx b);obtain⟨j,h⟩:=a b f _ g;exact⟨j,h⟩;exact J.base.free b o e n (nx b);obtain⟨o',g⟩:=J.base.there b o e (nx b);by_cases f:b∈X.fs;obtain⟨l,h⟩:=a b f _ g;exact⟨_,h⟩;exact⟨o',d b o' g (c8 b o e f)⟩;refine(J.hok b o e).stay (λc v i g=>?_) (λ_ z=>z) λ_ _ z=>z;rcases i with rfl|i;exact d c v g (c9 c o e);exact d c v g (c9 c _ i)
def vS(T:DefX X E₀):XP X ad σ (λc H'=>E₀ (.ref (ad.cls c)) qw H'):=by
 intro j H s e p I l;obtain⟨y,cls,x,H',B,rfl,m,v,a,un,g,t,h,n,c,rfl,q⟩:=l;have J:Inv X j σ H' p:=I.call' (ch:=[]) m un g v λb i=>by simp at i
 refine T.xe _ _ ?_;have f:X.A.frames=pi (X.env::X.outer):=by rw[<-T.stk];exact I.ok.frames
 rw[T.stk]at a;refine wpAny_leaves_onW f T.fr a λz d up=>?_;refine EH T J d (by rw[T.stk];exact a.2.2.1) a.1 up (λb o e u=>?_) n t q;obtain⟨r,w⟩:=I.base.there b o e (by rw[T.ex];simp);exact h b r w (As I e u)
def vT(T:DefX X E₀)(hc:X.calm=qz)(hg:L2.Gl X x)(hm:X.mg x=pi (.ref C))(hd:(x==gV)=q7)(hi:excIn X.K C [.type "ValueError",.type "Exception",.type "BaseException",.type "object"] "ValueError.__new__"=qz)(I:Inv X cc σ H s)(q:E₀ (.ref C) qw H):X.wp (exec (.Raise (pi (.Call (.Name x np) [.Constant (.str msg) j kp] [] cpos)) qw pos) X.env) (SP X cc D') X.xe s:=by
 have v: ∀c:Heap,X.K.In c->∃bm N nm q bs hdct sn sub ab col dd k0 k1 k2 k3 k5 mN,c.get? C=pi (excClassObj nm q C N bs bm hdct sn sub ab col dd k0 k1 k2 k3 k5 "ValueError.__new__")/\c.Ns N mN/\mN "__init__"=qw/\OwnTail c [.type "ValueError",.type "Exception",.type "BaseException",.type "object"] bm:=by
  intro c Z;have q:=hi;unfold excIn at q;split at q
  .rename_i dd cd U ho;split at q
   .rename_i C' bm k0 k1 k2 k3 n k5 hm O;simp only[aw,beq_iff_eq,jp]at q;obtain⟨⟨⟨⟨⟨rfl,rfl⟩,g⟩,ht⟩,hok⟩,d⟩:=q;obtain⟨nm,bs,ag,Y,B,hd,sn,sub,ab,col,ad⟩:=cd
    dsimp only at hm g hok d
    subst hm g
    have u:U= #[k0,k1,k2,k3,pi (.builtin "ValueError.__new__"),k5]:=by
     obtain⟨l⟩:=U
     simp only at O
     rw[O]
    subst u;exact⟨bm,Y,nm,B,bs,hd,sn,sub,ab,col,dd,k0,k1,k2,k3,k5,_,Z _ _ ho,.of_isNs (isNs_of_in Z hok),nsMap_none_of_in Z hok d,tail_of_in Z ht⟩
   .cases q
  .cases q
 obtain⟨bm,N,nm,B,bs,hdct,sn,sub,ab,col,dd,k0,k1,k2,k3,k5,mN,hC,hN,d,G⟩:=v X.base I.ok.mod.kin
 refine wpAny_Raise_call_subT (C:=C) (nm:=nm) (q:=B) (N:=N) (bs:=bs) (bm:=bm) (hdct:=hdct) (sn:=sn) (sub:=sub) (ab:=ab) (col:=col) (dd:=dd) (k0:=k0) (k1:=k1) (k2:=k2) (k3:=k3) (k5:=k5)
  PySem.F.excBase_ValueError (mN:=mN) (G.hasType PySem.F.excBase_ValueError.hasBase) (I.ok.hd hc) rfl d (eT I hg hm ⟨rfl,?_⟩ hd)
 refine h8 (iw (Calls.Constant_str (k:=j) (pos:=kp) (jh ⟨rfl,(show 1<=sizeLine from by decide),?_,?_,?_,λL e M=>?_⟩)))
 .exact I.bk _ _ hC
 .exact hN.keeps I.bk
 .exact G.keeps I.bk
 .
  have I1:Inv X cc σ H {s with toks:=s.toks+1}:=I.tok _
  have J:Inv X cc σ H {s with heap:=L,toks:=s.toks+1}:=I.kept (t':=s.toks+1) M.keeps
  refine T.xe _ _ ?_
  have E:X.A.frames=pi (X.env::X.outer):=by rw[<-T.stk];exact I.ok.frames
  have Q:s.heap.FunFrames (hideAll s.heap (frs X.stack)) X.stack:=funFrames_hide I.stack λenv he a ea=>iu.mpr ⟨env,he,ea⟩
  have S:L.FunFrames (hideAll s.heap (frs X.stack)) X.stack:=Q.of_keeps λb o W _=>⟨o,M.keeps b o W,rfl⟩
  have r:(hideAll s.heap (frs X.stack)).StaysIn s.heap:=λb o e=>of_hideAll _ e
  have m:=Q;rw[T.stk]at m;have f:(hideAll s.heap (frs (X.env::X.outer))).StaysIn s.heap:=λb o e=>of_hideAll _ e
  refine wpAny_leaves_madeW (h:=s.heap) (base:=hideAll s.heap (frs (X.env::X.outer))) E T.fr f m M λh2 t y _ _ up=>?_
  refine EH T J y (by rw[T.stk]at S ⊢;exact S) (λb o e=>M.keeps b o (of_hideAll _ e)) up (λb o e hf=>?_) (λb o e=>?_) ?_ q
  .obtain⟨p,i⟩:=I.base.there b o e (by rw[T.ex];simp)
   exact⟨p,hideAll_get _ i (by have:=As I e hf;rwa [T.stk]at this)⟩
  .obtain⟨p,i⟩:=(I.hok b o e).there
   exact⟨p,hideAll_get _ i λz=>by
    have:=I.stkFree b (by rw[T.stk];exact z)
    rw[this]at e
    cases e⟩
  .cases z:H e with
   |none=>rfl
   |some o=>
    obtain⟨p,i⟩:=(I.hok e o z).there;rw[M.new]at i;cases i
end
section
variable{σ:St}{B:Heap}
def CO{E:ce}(I:Inv X cc σ H s)(hN:X.N.Nodup)(hi:X.N[i]? =pi x)(hk:X.env.scope.names.lookup x=pi .local)(hv:σ[i]? =pi (pi v))(h: ∀s',Inv X cc (σ.set i qw) H s'->Q () s'):wpAny M A (unbindName X.env x) Q E s:=by
 obtain⟨m,K,J⟩:=id I.loc;have l:(X.env.scope.kind== .class||(X.env.scope.kind== .module&&X.env.locals != X.env.globals))=q7:=by rw[I.ok.kind];rfl
 have cne:=I.cne;obtain⟨u0,_,S⟩:=J i x v hi hv (.inl hk);have hm:m x=pi u0:=by
  rcases S with ⟨_,e⟩|⟨k,_⟩;exact e;rcases k with k|k;have:X.env.kindOf x=pi .local:=hk;rw[this]at k;cases k;have:X.env.kindOf x=pi .local:=hk;rw[this]at k;cases k
 refine wpAny_unbindName_local hk K hm l λU u w a=>?_;obtain⟨oL,_,_,ab,_⟩:=id K;refine h {s with heap:=U} ⟨I.ok,I.os,I.bare,⟨λb o e n B g=>?_,λb o e n B g=>?_,I.base.free,λb o e g=>?_,I.base.tups,I.base.frzs,I.base.tbls⟩,⟨_,w,λj y Y f t Z=>?_⟩,λy c e=>?_,I.free,I.freeC,λp hp=>?_,λb ob e=>?_,by simpa using I.len⟩;exact(a.2 b (vR I e)).trans (I.base.keep b o e n B g);obtain⟨sl,f⟩:=I.base.slot b o e n B g;exact⟨sl,(a.2 b (vR I e)).trans f⟩;obtain⟨o',f⟩:=I.base.there b o e g;exact⟨o',(a.2 b (vR I e)).trans f⟩;by_cases G:j=i;subst G;have C:j<σ.length:=(ay.mp hv).1;rw[bj C]at t;cases t;rw[bc (qu G)]at t;obtain⟨T,r',q⟩:=J j y Y f t Z;refine⟨T,r',?_⟩;rcases q with ⟨k,e⟩|⟨k,c,e,z⟩;refine .inl ⟨k,?_⟩;have:y≠x:=λe=>G (oG hN f (e▸hi));simp[this,e];exact .inr ⟨k,c,e,z.sameBut a (cne y c e)⟩;obtain⟨L,z⟩:=I.cell y c e;exact⟨L,z.sameBut a (cne y c e)⟩;obtain⟨e,n,O,W,d⟩:=I.pin p hp;exact⟨(a.2 p.1 O).trans e,n,O,W,d⟩;refine(I.hok b ob e).stay (λc L r q=>(a.2 c ?_).trans q) (λ_ q=>q) λ_ _ q=>q;rintro rfl;rcases r with rfl|r;rw[I.free]at e;cases e;rw[I.free]at r;cases r
def N1(un:Un fs [] H H' h h1)(stays:B.StaysIn h1)(st2:B.StaysIn h2)(up:h1.UpToSlots h2)(nf: ∀b∈fs, ∀o,h1.get? b=pi o->∀vs,o.data≠ .fields vs)(c8: ∀b o,h.get? b=pi o->b∉fs->∃o',B.get? b=pi o'):Un fs [] H H' h h2:=by
 have f: ∀b o,h1.get? b=pi o->(∃o',B.get? b=pi o')->h2.get? b=pi o:=λb o e ⟨o',j⟩=>by
  have:=stays b o' j;rw[e]at this;cases this;exact st2 b o j
 refine⟨λb o e n a d=>f b o (un.keep b o e n a d) (c8 b o e a),λb o e n a d=>?_,un.free,λb o e d=>?_,un.tups,un.frzs,un.tbls⟩;obtain⟨l,c⟩:=un.slot b o e n a d;obtain⟨g,i⟩:=up b _ c (nf b a _ c);exact⟨g,i⟩;obtain⟨o',c⟩:=un.there b o e d;by_cases a:b∈fs;obtain⟨l,i⟩:=up b _ c (nf b a _ c);exact⟨_,i⟩;exact⟨o',f b o' c (c8 b o e a)⟩
def KG(hok:HOk P w H' h1)(stays:B.StaysIn h1)(st2:B.StaysIn h2)(c9: ∀b o,H' b=pi o->∃o',B.get? b=pi o'):HOk P w H' h2:=by
 have a: ∀b o,h1.get? b=pi o->(∃o',B.get? b=pi o')->h2.get? b=pi o:=λb o e ⟨o',g⟩=>by
  have:=stays b o' g;rw[e]at this;cases this;exact st2 b o g
 intro b o e;refine(hok b o e).stay (λc v d f=>?_) (λ_ z=>z) λ_ _ z=>z;rcases d with rfl|d;exact a c v f (c9 c o e);exact a c v f (c9 c _ d)
def _root_.L2.Inv.track(J:Inv X cc σ H s)(hn:H a=qw)(n0:X.s₀.heap.get? a=qw)(hL:a≠X.env.locals)(hC: ∀x c,X.env.cells.lookup x=pi c->c≠a)(hp: ∀p∈X.pn++cc,p.1≠a)(new:ObjOk X.prog X.w (upd H a o) s.heap a o):Inv X cc σ (upd H a o) s:=by
 refine⟨J.ok,J.os,J.bare,⟨J.base.keep,J.base.slot,λb g e n r=>?_,J.base.there,λb i e=>?_,λb g u e=>?_,λb l e=>?_⟩,J.loc,J.cell,?_,λx c e=>?_,λp j=>?_,λb u e=>?_,J.len⟩;have:b≠a:=λz=>by rw[z,n0]at e;cases e
 rw[aC this];exact J.base.free b g e n r;have f:=J.base.tups b i e;rw[aC (aO f hn)];exact f;have f:=J.base.frzs b g u e;rw[aC (aO f hn)];exact f;obtain⟨m,f⟩:=J.base.tbls b l e;exact⟨m,by rw[aC (aO f hn)];exact f⟩;rw[aC (qu hL)];exact J.free;rw[aC (hC x c e)];exact J.freeC x c e;obtain⟨e,n,v,t,d⟩:=J.pin p j;exact⟨e,by rw[aC (hp p j)];exact n,v,t,d⟩;by_cases h:b=a;subst h;rw[aH]at e;cases e;exact new;rw[aC h]at e;exact(J.hok b u e).stay (λ_ _ _ q=>q) (λc q=>by rw[aC (aO q hn)];exact q) λc i q=>by rw[aC (aO q hn)];exact q
end
noncomputable def tX(X:Cx)(cc:cf)(D':Ends)(hd:ExceptHandler):Cx:=
 {X with pn:=X.pn++cc,xe:=λe s₁=>X.wp (noteFrame e X.env) (λ_ s₂=>X.wp (setFlight e qw) (λ_ s₃=>X.wp (handleBy e X.env [hd]) (SP X cc D') X.xe s₃) X.xe s₂) X.xe s₁}
section
variable{X:Cx}{ad:Ad}{σ:St}{H:Hp}
def N2(I:Inv X cc σ H s):Inv (tX X cc D' hd) [] σ H s:=
 ⟨⟨I.ok.mod,I.ok.kind,I.ok.glob,I.ok.blt,I.ok.above,I.ok.inj,I.ok.has,I.ok.cab,I.ok.hd,I.ok.frames,I.ok.stk,I.ok.exf,I.ok.bs,I.ok.bsz,I.ok.noex,I.ok.exfs,I.ok.funs,I.ok.frf⟩,I.os,I.bare,I.base,I.loc,I.cell,I.free,I.freeC,
  λp a=>I.pin p (by have:p∈(X.pn++cc)++[]:=a;rwa [k7]at this),I.hok,I.len⟩
def KH(I:Inv (tX X cc D' hd) pins' σ H s):Inv X cc σ H s:=
 ⟨⟨I.ok.mod,I.ok.kind,I.ok.glob,I.ok.blt,I.ok.above,I.ok.inj,I.ok.has,I.ok.cab,I.ok.hd,I.ok.frames,I.ok.stk,I.ok.exf,I.ok.bs,I.ok.bsz,I.ok.noex,I.ok.exfs,I.ok.funs,I.ok.frf⟩,I.os,I.bare,I.base,I.loc,I.cell,I.free,I.freeC,
  λp a=>I.pin p (g8 _ a),I.hok,I.len⟩
structure Fram(X:Cx):Prop where
 ex:X.ex=[]
 stk:X.stack=X.env::X.outer
 fr:X.env.frame=pi X.env.locals
def CQ{E₀}{x}{c}{np cpos pos kp}{msg}{j}(T:DefX X E₀)(hc:X.calm=qz)(hg:L2.Gl X x)(hm:X.mg x=pi (.ref (ad.cls c)))(hd:(x==gV)=q7)(hi:excIn X.K (ad.cls c) [.type "ValueError",.type "Exception",.type "BaseException",.type "object"] "ValueError.__new__"=qz):
  MS X ad (λE=>∀σ c H,E σ c H->E₀ (.ref (ad.cls c)) qw H) (.Raise (pi (.Call (.Name x np) [.Constant (.str msg) j kp] [] cpos)) qw pos) (gX c):=by
 rintro f s σ H e I ⟨b,G,g,E,S,a,d⟩;exact vT T hc hg hm hd hi I (a.2 σ c H (d σ G H S))
end
structure ExcCls(K:Frag)(C:Addr):Prop where
 is:(clsIn K C).isSome=qz
 ob:mroIn K C (.type "object")=pi qz
 be:mroIn K C (.type "BaseException")=pi qz
 ca:findIn K (.ref C) "__class__"=pi (pi (.builtin "object.__class__"))
 ga:findIn K (.ref C) "__getattribute__"=pi (pi (.builtin "BaseException.__getattribute__"))
 gn:findIn K (.ref C) "__getattr__"=pi qw
def CS{K}(T:ExcCls K C):KitX K (.ref x) (.ref C) (λh=>oS h x C) where
 ty:=λ_ _ _ I=>I.ty;it:=λ_ _ Z _=>by
  obtain⟨g,a⟩:=eh.mp T.is;unfold clsIn at a;split at a;rename_i l m d c b;intro o t s p k q;unfold isType loadHead;exact aa (wpAny_loadPart (k _ _ (Z _ _ b)) (ac q));cases a
 ne:=λh i dd j n r Z f=>by
  obtain⟨g,a⟩:=eh.mp T.is;refine Bool.eq_false_iff.mpr λq=>?_;have e:C=i:=qh.inj (beq_iff_eq.mp q);subst e;unfold clsIn at a;split at a;rename_i l m d c b;have z:=(Z _ _ b).symm.trans f;cases z;cases a
 ca:=λZ I k=>Ar Z I T.ob T.be T.ca T.ga T.gn k
noncomputable def tyD(ad:Ad):D->L7 Value
 |.non=>pi (.type "NoneType")
 |.bl _=>pi (.type "bool")
 |.int _=>pi (.type "int")
 |.str _=>pi (.type "str")
 |.tup _=>pi (.type "tuple")
 |.lst _=>pi (.type "list")
 |.exc c=>pi (.ref (ad.cls c))
 |.fn _=>qw
 |.dct _ _=>qw
def N3(X:Cx)(ad:Ad)(cv:Value)(p:D->L7 Bool):Prop:= ∀d b,p d=pi b->∃t,tyD ad d=pi t/\kitOne X.K t cv=pi b
section
variable{X:Cx}{ad:Ad}{σ:St}
def Au{Q:ce}{Ex:ce}(hx: ∀c,ExcCls X.K (ad.cls c))(I:Inv X cc σ H s)(hG:Same G H)(q:Rep X.K ad G d v)(r:bG v u)(ht:tyD ad d=pi t)(e:kitOne X.K t cv=pi b)(h: ∀tk,Q (.bool b) {s with toks:=tk}):wpAny (model X.prog X.w) A (call (.builtin "isinstance") [u,cv]) Q Ex s:=by rcases d with _|k|k|k|l|l|c|k|⟨_,_⟩;unfold Rep at q;subst q;cases (show u=pw from r);cases ht;exact kia_one kitx_none I.kIn qa e (by intro z;cases z) h;unfold Rep at q;subst q;cases (show u=p3 k from r);cases ht;exact kia_one kitx_bool I.kIn qa e (by intro z;cases z) h;unfold Rep at q;subst q;obtain⟨j,rfl⟩:=r;cases ht;exact kia_one kitx_int I.kIn qa e (by intro z;cases z) h;unfold Rep at q;subst q;obtain⟨j,rfl⟩:=r;cases ht;exact kia_one kitx_str I.kIn qa e (by intro z;cases z) h;unfold Rep at q;obtain⟨p,m,rfl,a,_⟩:=q;cases (show u=qh p from r);cases ht;obtain⟨g,_,⟨o,f,i,_⟩,_⟩:=I.tuple (hG.seqT a);exact kia_one kitx_tuple I.kIn ⟨o,f,i⟩ e (by intro z;cases z) h;unfold Rep at q;obtain⟨p,m,rfl,a,_⟩:=q;cases (show u=qh p from r);cases ht;obtain⟨g,_,⟨o,n,f,i,_⟩,_⟩:=I.list (hG.seq a);exact kia_one kitx_list I.kIn ⟨o,f,i⟩ e (by intro z;cases z) h;unfold Rep at q;obtain⟨p,rfl,a⟩:=q;cases (show u=qh p from r);cases ht;obtain⟨ex,_,_⟩:=(show ObjOk X.prog X.w H s.heap p (El (ad.cls c) p) from I.hok p _ (hG _ _ a));exact kia_one (CS (hx c)) I.kIn ex e (by intro z;cases z) h;cases ht;cases ht
inductive ClNm(X:Cx)(t:Str)(cv:Value):Prop
 |blt (T:String):cv= .type T->L2.Gl X t->X.mg t=qw->bootBuiltins t=pi (.type T)->t≠"__name__"->(t==gV)=q7->ClNm X t cv
 |own (C:Addr):cv= .ref C->L2.Gl X t->X.mg t=pi (.ref C)->(t==gV)=q7->ClNm X t cv
def ClNm.ev{Ex:ce}{Q:ce}(c:ClNm X t cv)(I:Inv X cc σ H s)(h:Q cv s):X.wp (eval (.Name t tp) X.env) Q Ex s:=by
 cases c with
 |blt T e g m b n d=>subst e;exact gR I g m b h n d
 |own C e g m d=>subst e;exact eT I g m h d
def uD(hx: ∀c,ExcCls X.K (ad.cls c))(hg:L2.Gl X "isinstance")(hm:X.mg "isinstance"=qw)(c:ClNm X t cv)(k:N3 X ad cv P)(ha:ML X ad a f)(he:starEach [a,.Name t tp] X.env=(q7,eval a X.env)::starEach [.Name t tp] X.env):ME X ad (.Call (.Name "isinstance" p) [a,.Name t tp] [] pos) (rIs P f):=by refine λw s x H Q I J=>J.el λG M E S L j N=>?_;refine wpAny_Call_Name_kw (gR (u:=.builtin "isinstance") I hg hm (by decide+kernel) ?_ (by decide) (by decide));refine dq ?_ he rfl;rw[he];refine iw (L2.thn (ha.lk w s x H G M _ Q E I S L j N) λu T m=>?_);obtain⟨v,d,r,A,i,y,n,q,O⟩:=m;refine iw (c.ev i (jh ?_));have g:RK X.K ad r A (match P d with|some b=>.ok (.bl b)|none=>.bad) Q E:=O;rcases e:P d with _|b;rw[e]at g;exact g.elim;rw[e]at g;obtain⟨ty,C,B⟩:=k d b e;have h: ∀l,EP X w x Q (.bool b) {T with toks:=l}:=λl=>⟨.bl b,A,i.tok l,rfl,g.ok_now n.gh dJ⟩;rcases q with q|⟨a',vs,ds,rfl,rfl,g1,h1,rp⟩;exact Au hx i n.gh q y C B h;refine Au (G:=upd r a' (.lst vs)) hx i (λb o e=>?_) ?_ y C B h;by_cases z:b=a';subst z;rw[aH]at e;rw[h1];exact e;rw[aC z]at e;exact n.gh b o e;unfold Rep;exact⟨a',vs,rfl,SqL.of aH,rp.mono (Same.upd_new g1)⟩
end
structure RkC(K:Frag)(A:Addr):Prop where
 cl:Cls K A
 n1:iJ K A "held"
 n2:iJ K A "done"
 n3:iJ K A "undone"
structure StepR(foot:List Addr)(G H G' H':Hp):Prop where
 sg:Same G G'
 gh:Same G' H'
 sh: ∀b o,b∉foot->H b=pi o->H' b=pi o
 nw: ∀b,G b=qw->G' b≠qw->H b=qw
 th: ∀b,H b≠qw->H' b≠qw
def RMK(K:Frag)(ad:Ad)(A:Nat)(G H:Hp)(p dx d l1 l2:Addr)(m:RM)(Q:VK)(E:Nat->Hp->Prop):Prop:=match m with
 |.pure x=>RK K ad G H x Q E
 |.chg x r'=>∀v G' H' l2',StepR [p,dx,d,l1,l2] G H G' H'->RackIn K ad A G' H' p r' dx d l1 l2'->(l2'=l2\/H l2'=qw)->Rep K ad G' x v->Q v H'
def spM(K:Frag)(ad:Ad)(A n:Nat)(m:FM):Sp:=λvs H Q E=>∃G p r dx d l1 l2 ds ws,vs=V.ref p::ws/\Same G H/\RackIn K ad A G H p r dx d l1 l2/\aJ K ad G ds ws/\ds.length=n/\RMK K ad A G H p dx d l1 l2 (m r ds) Q (λc H'=>E (.ref (ad.cls c)) qw H')
def RRK(K:Frag)(ad:Ad)(A:Nat)(G H:Hp)(m:RR)(Q:VK)(E:Nat->Hp->Prop):Prop:=match m with
 |.rk r=>∀p dx d l1 l2 G' H',Step G H G' H'->RackIn K ad A G' H' p r dx d l1 l2->(∀a∈[p,dx,d,l1,l2],H a=qw)->Q (.ref p) H'
 |.ex c=>∀G' H',Step G H G' H'->E c H'
 |.bad=>False
def spR(K:Frag)(ad:Ad)(A n:Nat)(m:FR):Sp:=λvs H Q E=>∃G ds,Same G H/\aJ K ad G ds vs/\ds.length=n/\RRK K ad A G H (m ds) Q (λc H'=>E (.ref (ad.cls c)) qw H')
def CT(X:Cx)(x:Str)(sp:Sp):Prop:= ∃f k fd ps,X.mg x=pi (.ref f)/\mh X.K (.ref f)=qz/\FnOk X.prog X.w X.K X.mg X.base (CXe X.prog X.w) k f fd ps sp/\Room k X.A/\eA X.K fd ps []
structure MetOk(X:Cx)(ad:Ad)(A:Addr)(m:Str)(n:Nat)(M:FM):Prop where
 no:m≠"held"/\m≠"done"/\m≠"undone"
 ok: ∃f k fd ps,Meth X.K A m f/\FnOk X.prog X.w X.K X.mg X.base (CXe X.prog X.w) k f fd ps (spM X.K ad A n M)/\Room k X.A/\eA X.K fd ps []
section
variable{ad:Ad}{G:Hp}{p:Pos}{a b o:Expr}{f:F}
theorem Av: ∀{ds} {ts},oO ds=pi ts->ds=ts.map D.str
 |[],ts,h=>by cases h;rfl
 |d::ds,ts,h=>by
  cases d<;>try (cases h;done)
  obtain⟨r,a,rfl⟩:=zMd (show(oO ds).map _=pi ts from h);rw[Av a];rfl
theorem nR{K}: ∀{ts:L1 Str} {vs},aJ K ad G (ts.map D.str) vs->vs=ts.map V.str
 |[],vs,h=>by unfold aJ at h;exact h
 |t::ts,vs,h=>by
  have b:aJ K ad G (D.str t::ts.map D.str) vs:=h;unfold aJ at b;obtain⟨v,r,rfl,a,c⟩:=b;unfold Rep at a;rw[a,nR c];rfl
theorem Aw{K}: ∀(ts:L1 Str),aJ K ad G (ts.map D.str) (ts.map V.str)
 |[]=>aJ.nil
 |t::ts=>aJ.cons (by unfold Rep;rfl) (Aw ts)
theorem nT: ∀{ts} {us},cD (ts.map V.str) us->∃l,us=strValues l/\l.map (·.1)=ts
 |[],us,h=>by cases h;exact⟨[],rfl,rfl⟩
 |t::ts,us,h=>by
  cases h with
  |cons a b=>
   obtain⟨k,rfl⟩:=a;obtain⟨l,rfl,rfl⟩:=nT b;exact⟨(t,k)::l,rfl,rfl⟩
theorem rR: ∀l,cD ((l.map (·.1)).map V.str) (strValues l)
 |[]=>.nil
 |(x,t)::l=>.cons ⟨t,rfl⟩ (rR l)
def GH(ha:ML X ad a g)(he:starEach [a] X.env=(q7,eval a X.env)::starEach [] X.env)(hl:(ap.endLine==cp.line)=qz):
  ME X ad (.Call (.Attribute (.Constant (.str sep) j p) "join" ap) [a] [] cp) (oP sep g):=by
 refine λC s B H Q I h9=>h9.el λG S E Y M T U=>?_;refine wpAny_Call_method rfl (iB he) hl gf PySem.F.slot_str_join PySem.F.type_str_join (L2.thn (D9 C s B H (λv n=>v= .str sep/\n=H) I ⟨rfl,rfl⟩) λu Z b=>?_);obtain⟨v,n,I1,W,rfl,rfl⟩:=b;obtain⟨t,rfl⟩:=(show ∃t,u=qg sep t from W);refine⟨typeIs_str _ _ _,λ_ z=>(nomatch z),?_⟩;rw[he];refine f6 rfl (h8 (iw (L2.thn (ha.lk C Z B n G S _ Q E I1 Y M T U) λiv s2 b=>jh ?_)));obtain⟨w,d,r,i,J,L,A,q,k⟩:=b;cases d with
 |lst h=>
  have c:RK X.K ad r i (match oO h with|some f=>if JoinOk sep f then .ok (.str (qq sep f))else .bad|none=>.bad) Q E:=k;rcases e:oO h with _|f;rw[e]at c;exact c.elim;rw[e]at c;have m:RK X.K ad r i (if JoinOk sep f then .ok (.str (qq sep f))else .bad) Q E:=c;by_cases x:JoinOk sep f=qz;rw[if_pos x]at m;have O:Seq X ad r i (.lst h) w:=q;obtain⟨y,vs,rfl,o,rq⟩:=O.items A.gh (rfl:items (.lst h)=pi h);cases Av e;cases nR rq;rcases o with ⟨z,_⟩|⟨_,o⟩;cases z;obtain⟨ab,rv,N,_⟩:=J.list o;cases (show iv=qh y from L);obtain⟨l,rfl,e2⟩:=nT rv;exact PySem.SC.join (D:=y) N.isList e2 x λt' c=>⟨.str _,i,J.tok c,⟨t',rfl⟩,m.ok_now A.gh eV⟩;rw[if_neg x]at m;exact m.elim
 |_=>exact ba k
def Ax{E:ce}{Q:ce}(hy:(y.length==0)=q7)(hq: ∀l k,l.map (·.1)=qj x y->Q (.ref s.z) {s with heap:=s.heap.push {cls:=.type "list",data:=.seq (strValues l).toArray},toks:=k})(hsz:x.length<=sizeLine)(hsz2:(eo x (ez x y 0 x.length (x.length+1)) y.length).length<=sizeLine):
  wpAny (model prog w) A (call (.builtin "str.split") [.str x t,.str y u]) Q E s:=by
 cases a:(decide (x.length<y.length)||decide (Builtin.Str.strKind x<Builtin.Str.strKind y));cases b:(ez x y 0 x.length (x.length+1)).isEmpty;refine call_meets ki (typeIs_str _ _ _) jq (ja _ _) (meets_str_split_sep x y t u a hy b hsz hsz2) ?_;show wants Q E _ {s with toks:=_,heap:=s.heap.push {cls:=.type "list",data:=.seq (strsFrom s.toks (eo x (ez x y 0 x.length (x.length+1)) y.length)).toArray} };rw[strsFrom_eq];exact hq (numbered s.toks _) _ ((numbered_texts _ _).trans ((if_neg (ne_true_of_eq_false a)).trans (if_neg (ne_true_of_eq_false b))).symm);exact call_meets ki (typeIs_str _ _ _) jq (ja _ _) (meets_str_split_not_found x y t u a hy b)
  (hq [(x,t)] s.toks ((if_neg (ne_true_of_eq_false a)).trans (if_pos b)).symm)
 exact call_meets ki (typeIs_str _ _ _) jq (ja _ _) (meets_str_split_cannot_occur x y t u a)
  (hq [(x,t)] s.toks (if_pos a).symm)
def CU(ho:ME X ad o f)(hb:ME X ad b g)(hbase:attributeBase o "split" X.env (eval o X.env)=eval o X.env)(he:starEach [b] X.env=(q7,eval b X.env)::starEach [] X.env)(hl:(ap.endLine==cp.line)=qz):
  ME X ad (.Call (.Attribute o "split" ap) [b] [] cp) (qV f g):=by
 refine λcc s σ H Q I T=>T.el λG Z E O m n L=>?_;refine wpAny_Call_method_late hbase (iB he) hl rfl (L2.thn (ho.thn I O m n L) λv s1 a=>?_);obtain⟨x,d,G1,H1,U,N,st1,q1,p⟩:=a;cases d with
 |str z=>
  unfold Rep at q1;subst q1;obtain⟨t,rfl⟩:=(show ∃t,v=qg z t from N);refine⟨"str",_,gf,PySem.F.slot_str_split,PySem.F.type_str_split,typeIs_str _ _ _,λ_ w=>(nomatch w),?_⟩;rw[he];refine f6 rfl (h8 (iw (L2.thn (hb.thn U st1.gh (m.step st1) n p) λiv s2 a=>jh ?_)));obtain⟨y,W,M,J,A,B,st2,u,q⟩:=a;cases W with
  |str c=>
   unfold Rep at u;subst u;obtain⟨t2,rfl⟩:=(show ∃t,iv=qg c t from B);have h:RK X.K ad M J (if c.length=1/\z.length<=LIM then .ow ((qj z c).map D.str)else .bad) Q E:=q;by_cases i:c.length=1/\z.length<=LIM;rw[if_pos i]at h;have S:z.length<=sizeLine:=om i.2 (by decide);have C:(eo z (ez z c 0 z.length (z.length+1)) c.length).length<=z.length+2:=by
    rw[length_partsBetween];have:=StrLaws.occ_length_le z c 0 z.length (z.length+1);lia
   have r:LIM+2<=sizeLine:=by decide
   refine Ax (by rw[i.1];rfl) (λl k e=>?_) S (by lia);have j:(l.map (·.1)).length<=sizeLine:=by
    rw[e];unfold qj;split;exact(by decide:1<=sizeLine);split;exact(by decide:1<=sizeLine);lia
   have Y:(qj z c).map D.str=(l.map (·.1)).map D.str:=by rw[e]
   rw[Y]at h;exact⟨.ref _,_,A.lnew (t':=k) (rR l) (by rw[aq];exact j),rfl,h.ow_new st2.gh (Aw _) A.fresh⟩;rw[if_neg i]at h;exact h.elim
  |_=>exact ba q
 |_=>exact ba p
def vU{σ:St}(I:Inv X cc σ H s)(hv:cD ys its)(hz:ys.length<=sizeLine):
  Inv X cc σ (upd H s.z (.tup ys)) {s with heap:=s.heap.push {cls:=.type "tuple",data:=.seq its.toArray},toks:=t'}:=
 I.laid (t':=t') (λ_ _ q=>ae _ q) (aj _) (show ObjOk X.prog X.w _ _ _ (.tup ys) from⟨hz,its,hv,⟨_,af _ rfl,rfl,_,rfl⟩,⟨_,af _ rfl,rfl⟩⟩)
def GI(ho:ME X ad o f)(hb:ME X ad b g)(hbase:attributeBase o "partition" X.env (eval o X.env)=eval o X.env)(he:starEach [b] X.env=(q7,eval b X.env)::starEach [] X.env)(hl:(ap.endLine==cp.line)=qz):
  ME X ad (.Call (.Attribute o "partition" ap) [b] [] cp) (zB f g):=by
 refine λcc s Z H Q I O=>O.el λG W E N m n J=>?_;refine wpAny_Call_method_late hbase (iB he) hl rfl (L2.thn (ho.thn I N m n J) λv s1 h=>?_);obtain⟨x,d,G1,Y,T,M,st1,q1,q⟩:=h;cases d with
 |str z=>
  unfold Rep at q1;subst q1;obtain⟨t,rfl⟩:=(show ∃t,v=qg z t from M);refine⟨"str",_,gf,PySem.F.slot_str_partition,PySem.F.type_str_partition,typeIs_str _ _ _,λ_ w=>(nomatch w),?_⟩;rw[he];refine f6 rfl (h8 (iw (L2.thn (hb.thn T st1.gh (m.step st1) n q) λiv p h=>jh ?_)));obtain⟨y,U,L,C,l,B,st2,A,u⟩:=h;cases U with
  |str c=>
   unfold Rep at A;subst A;obtain⟨S,rfl⟩:=(show ∃t,iv=qg c t from B);have a:RK X.K ad L C (if(c.length==0)=q7/\z.length<=LIM then .ok (.tup (qW z c))else .bad) Q E:=u;by_cases j:(c.length==0)=q7/\z.length<=LIM;rw[if_pos j]at a;refine call_meets F.slot_str_partition (typeIs_str _ _ _) F.entry_str_partition (F.args_str_partition_2 _ _) (meets_str_partition z c t S j.1 (om j.2 (by decide))) ?_;unfold qW at a;rcases e:ez z c 0 z.length 1 with _|⟨i,r⟩;rw[e]at a;exact⟨.ref _,_,vU l (ys:=[.str z,.str qi,.str qi]) (t':=p.toks+1) (.cons ⟨_,rfl⟩ (.cons ⟨_,rfl⟩ (.cons ⟨_,rfl⟩ .nil))) (by show 3<=sizeLine;decide),rfl,a.tup_new st2.gh (aJ.cons eV (aJ.cons eV (aJ.cons eV aJ.nil))) l.fresh⟩;rw[e]at a;exact⟨.ref _,_,vU l (ys:=[.str (iy z 0 i),.str c,.str (iy z (i+c.length) z.length)]) (t':=p.toks+1+1) (.cons ⟨_,rfl⟩ (.cons ⟨_,rfl⟩ (.cons ⟨_,rfl⟩ .nil))) (by show 3<=sizeLine;decide),rfl,a.tup_new st2.gh (aJ.cons eV (aJ.cons eV (aJ.cons eV aJ.nil))) l.fresh⟩;rw[if_neg j]at a;exact a.elim
  |_=>exact ba u
 |_=>exact ba q
def Ay(P:Program)(w:World)(K:oe)(ad:Ad)(A:Addr)(kvs:L1 (Str×D)):Prop:=
 (A==sysModules)=q7/\∃vs:L1 (Str×Value),(∃o es ep,K.lookup A=pi o/\o.ExactDict/\o.data= .dict es ep/\KeysOf (n5 P w) es/\Pairs (n5 P w) es.toList vs/\(vs.map (·.1)).Nodup)/\
  Paired (λ(p:Str×D) (q:Str×Value)=>p.1=q.1/\∃v,bG v q.2/\∀G,Rep K ad G p.2 v) kvs vs
theorem vV{K}: ∀{kvs} {vs} (x:Str),Paired (λp q=>p.1=q.1/\∃v,bG v q.2/\∀G,Rep K ad G p.2 v) kvs vs->∃v,bG v ((valueAt vs x).getD .none)/\∀G,Rep K ad G ((kvs.lookup x).getD .non) v
 |[],_,x,.nil=>⟨.non,rfl,λG=>by show Rep K ad G .non .non;unfold Rep;rfl⟩
 |(k,d)::kvs,(k',u)::vs,x,.cons ⟨h1,h2⟩ h=>by
  cases (show k=k' from h1);by_cases e:x=k;subst e;obtain⟨v,a,b⟩:=h2;refine⟨v,?_,λG=>?_⟩;simpa[valueAt]using a;simpa[ke]using b G;obtain⟨v,a,b⟩:=vV x h;refine⟨v,?_,λG=>?_⟩;have f: ¬k=x:=λz=>e z.symm;simpa[valueAt,lh,f]using a;have c:(x==k)=q7:=by simpa using e
  simpa[ke,c]using b G
def KI(hF:Ay X.prog X.w X.K ad A kvs)(hg:L2.Gl X x)(hm:X.mg x=pi (.ref A))(hd:(x==gV)=q7)(hb:ME X ad b g)(he:starEach [b] X.env=(q7,eval b X.env)::starEach [] X.env)(hl:(ap.endLine==cp.line)=qz):
  ME X ad (.Call (.Attribute (.Name x p) "get" ap) [b] [] cp) (FT kvs g):=by
 refine λT s N H Q I S=>S.el λG ρ E L r u B=>?_;obtain⟨d,vs,⟨l,O,Z,j,n,M,e4,o,C⟩,Y⟩:=hF;have dd: ∀{s':Shared} {H':Hp},Inv X T N H' s'->s'.heap.DictOf (n5 X.prog X.w) A vs:=λJ=>⟨l,O,Z,J.kIn _ _ j,n,M,e4,o,C⟩;refine wpAny_Call_method rfl (iB he) hl fj gr gu (eT I hg hm ?_ hd);refine⟨(dd I).typeIs,λb' z=>?_,?_⟩;cases z;exact⟨l,I.kIn _ _ j,n.2.1⟩;rw[he];refine f6 rfl (h8 (iw (L2.thn (hb.thn I L r u B) λiv s2 a=>jh ?_)));obtain⟨y,d2,h,f,e,q,st2,m,i⟩:=a;cases d2 with
 |str c=>
  unfold Rep at m;subst m;obtain⟨t2,rfl⟩:=(show ∃t,iv=qg c t from q);have k3:RK X.K ad h f (.ok ((kvs.lookup c).getD .non)) Q E:=i;obtain⟨v,W,U⟩:=vV c Y;exact call_meetsIn gr (dd e).typeIs f7 (e7 _ _) (meets_dict_get (n5 X.prog X.w) A (by simp[n5,Value.isStrOf]) d) ⟨_,(dd e).mapOf,v,f,e.tok _,W,k3.ok_now st2.gh (U h)⟩
 |_=>exact ba i
end
noncomputable def eC:Py->Str
 |.len=>"len"|.range=>"range"|.enum=>"enumerate"|.zip=>"zip"|.isin=>"isinstance"|.int=>"int"|.bool=>"bool"|.str=>"str"|.tuple=>"tuple"|.list=>"list"
 |.sum=>"sum"|.all=>"all"|.any=>"any"|.sorted=>"sorted"|.min=>"min"|.max=>"max"|.abs=>"abs"|.set=>"set"|.dict=>"dict"
def N4(X:Cx)(ad:Ad)(x:Str):SK.Gl->Prop
 |.fn k n F=>∃r f,FnGood X ad r x n F f/\Room r X.A/\f=ad.fnA k
 |.exc c=>X.mg x=pi (.ref (ad.cls c))/\c<ad.nb
 |.verr=>x="ValueError"/\X.mg x=qw
 |.val d=>∃u v,X.mg x=pi u/\bG v u/\∀G,Rep X.K ad G d v
 |.py p=>x=eC p/\X.mg x=qw
 |.tbl kvs=>∃A,X.mg x=pi (.ref A)/\Ay X.prog X.w X.K ad A kvs
 |.cls A ms=>X.mg x=pi (.ref A)/\RkC X.K A/\∀m n M,ms.lookup m=pi (n,M)->MetOk X ad A m n M
 |.rfn A M=>CT X x (spM X.K ad A 0 M)
 |.rmk A n M=>CT X x (spR X.K ad A n M)
structure CtxOk(X:Cx)(ad:Ad)(C:SK.Ctx):Prop where
 N:X.N=C.N
 nd:X.N.Nodup
 vis: ∀x i,loc C x=pi i->kT X i x
 gk: ∀x,C.sc.names.lookup x=pi .globalImplicit->L2.Gl X x
 gt: ∀x g,C.tab.lookup x=pi g->(x==gV)=q7/\N4 X ad x g
 cap: ∀x i,fZ C x=pi i->X.env.kindOf x=pi .cell\/X.env.kindOf x=pi .free
 calm:X.calm=qz
 un:X.A.units+62<cLine
 hd:X.A.handled=qw
 exc: ∀c,ExcCls X.K (ad.cls c)
 kin: ∀c e,c<ad.nb->kitOne X.K (.ref (ad.cls e)) (.ref (ad.cls c))=pi (hit c e)
 kve: ∀e,kitOne X.K (.ref (ad.cls e)) (.type "ValueError")=pi qz
 fnv: ∀j n F,C.fns[j]? =pi (n,F)->∃r,FnAt X ad r n F (ad.fnA j)/\Room r X.A
section
variable{ad:Ad}
def GJ(h:glo C x=pi g):C.sc.names.lookup x=pi .globalImplicit/\C.tab.lookup x=pi g:=by unfold glo at h;split at h;rename_i e;exact⟨e,h⟩;cases h
def CtxOk.gl(O:CtxOk X ad C)(h:glo C x=pi g):L2.Gl X x/\(x==gV)=q7/\N4 X ad x g:=
 let ⟨a,b⟩:=GJ h;⟨O.gk x a,(O.gt x g b).1,(O.gt x g b).2⟩
def EI(O:CtxOk X ad C)(h:glo C t=pi g)(e:isP g=pi P): ∃cv,ClNm X t cv/\N3 X ad cv P:=by
 obtain⟨j,i,hk⟩:=O.gl h;cases g with
 |fn _ _ _=>cases e
 |cls _ _=>cases e
 |rfn _ _=>cases e
 |rmk _ _ _=>cases e
 |val _=>cases e
 |tbl _=>cases e
 |exc c=>
  cases e;obtain⟨f,m⟩:=hk;refine⟨.ref (ad.cls c),.own _ rfl j f i,λd b a=>?_⟩;cases d<;>try (cases a;done)
  rename_i k;cases a;exact⟨_,rfl,O.kin c k m⟩
 |verr=>
  cases e;obtain⟨l,f⟩:=hk;subst l;refine⟨.type "ValueError",.blt "ValueError" rfl j f (by decide+kernel) (by decide) i,λd b a=>?_⟩;cases d<;>try (cases a;done)
  rename_i k;cases a;refine⟨_,rfl,?_⟩;rw[O.kve k];congr 1;unfold hit;simp
 |py p=>
  obtain⟨l,f⟩:=hk;cases p<;>try (cases e;done)
  all_goals
   cases e;subst l
  refine⟨.type "int",.blt "int" rfl j f (by decide+kernel) (by decide) i,λd b a=>?_⟩;cases d<;>first|(cases a;done)|(cases a;exact⟨_,rfl,by rfl⟩)
  refine⟨.type "bool",.blt "bool" rfl j f (by decide+kernel) (by decide) i,λd b a=>?_⟩;cases d<;>first|(cases a;done)|(cases a;exact⟨_,rfl,by rfl⟩)
  refine⟨.type "str",.blt "str" rfl j f (by decide+kernel) (by decide) i,λd b a=>?_⟩;cases d<;>first|(cases a;done)|(cases a;exact⟨_,rfl,by rfl⟩)
  refine⟨.type "tuple",.blt "tuple" rfl j f (by decide+kernel) (by decide) i,λd b a=>?_⟩;cases d<;>first|(cases a;done)|(cases a;exact⟨_,rfl,by rfl⟩)
  refine⟨.type "list",.blt "list" rfl j f (by decide+kernel) (by decide) i,λd b a=>?_⟩;cases d<;>first|(cases a;done)|(cases a;exact⟨_,rfl,by rfl⟩)
def bV{l:L1 (Str×NameKind)}(h:(l.lookup x==pi k)=qz):l.lookup x=pi k:=by simpa using h
def j5(h:lR sc xs=qz):sc.kind= .function/\(q9 sc=[]\/(q9 sc=xs/\xs.length=1))/\(∀x∈xs,sc.names.lookup x=pi (if(q9 sc).isEmpty then .local else .cell))/\(∀y∈sc.names,y.2= .local->sc.names.lookup y.1=pi .local)/\
  (xs++bE sc).Nodup/\(∀x∈xs++bE sc,(x==gV)=q7/\(x==hK)=q7)/\∀x∈bE sc,sc.names.lookup x=pi .free:=by
 unfold lR at h;simp only[aw]at h;obtain⟨⟨⟨⟨⟨⟨b,f⟩,c⟩,i⟩,e⟩,g⟩,d⟩:=h;refine⟨by simpa using b,by simpa using f,λx a=>?_,λy j z=>?_,of_decide_eq_true e,λx a=>?_,λx a=>?_⟩;exact bV (zAd c x a);have:=zAd i y j;rw[z]at this;simpa using this;have:=zAd g x a;simpa using this;exact bV (zAd d x a)
def mC(h:idx x N=pi i):x∈N:=List.mem_of_getElem? (gG h)
def mD(h:loc C x=pi i):idx x C.N=pi i/\(C.sc.names.lookup x=pi .local\/C.sc.names.lookup x=pi .cell\/C.sc.names.lookup x=pi .free):=by unfold loc at h;split at h;rename_i e;exact⟨h,.inl e⟩;rename_i e;exact⟨h,.inr (.inl e)⟩;rename_i e;exact⟨h,.inr (.inr e)⟩;cases h
def fB(h:fZ C x=pi i):idx x C.N=pi i/\(C.sc.names.lookup x=pi .cell\/C.sc.names.lookup x=pi .free):=by unfold fZ at h;split at h;rename_i e;exact⟨h,.inl e⟩;rename_i e;exact⟨h,.inr e⟩;cases h
theorem oY{α β}{f:α->L7 β}: ∀{l} {r},eM f l=pi r->∀a∈l, ∃b,f a=pi b
 |[],_,_,a,ha=>by cases ha
 |x::l,r,h,a,ha=>by
  unfold eM at h;rcases e:f x with _|y;rw[e]at h;cases h;rw[e]at h;obtain⟨d,c,_⟩:=zMd h;rcases av.mp ha with rfl|ha;exact⟨y,e⟩;exact oY c a ha
def fC{l:L1 (Str×NameKind)}(h:l.lookup x=pi k):(x,k)∈l:=ii h
def oZ(h:(x,nu)∈sc.names):x∈bE sc:=by unfold bE;exact au.mpr ⟨(x,.free),kz.mpr ⟨h,by simp⟩,rfl⟩
def Az(O:CtxOk X ad C)(h:lR sc xs=qz)(hc:eM (λx=>fZ C x) (bE sc)=pi cs):CompSc X C sc xs cs:=by
 obtain⟨b,f,c,g,m,n,d⟩:=j5 h;have j:Cel sc:=by
  rcases f with z|⟨z,l⟩;exact .inl z;obtain⟨x,rfl⟩:=gc.mp l;have:=c x (.head _);rw[z]at this;exact .inr ⟨x,z,this⟩
 refine⟨b,j,g,λx a=>?_,λx a=>d x (oZ a),O.N,hc⟩;obtain⟨i,e⟩:=oY hc x (oZ a);exact O.cap x i e
def GK{tg}(hN:X.N.Nodup)(e:cF tg=pi (xs,k))(hx:xs=[x])(h1:X.N[0]? =pi x)(h2:X.env.scope.names.lookup x=pi .cell)(h3:X.fn x=qz):PG X tg (gTg X.K k):=by
 subst hx;cases tg<;>try (cases e)
 exact lI hN h1 (.inr h2) (.inl h3);rename_i d j f;unfold cF at e;obtain⟨c,g,a⟩:=zBd e;by_cases b:2<=c.length;rw[if_pos b]at a;cases a;exact absurd b (by simp);rw[if_neg b]at a;cases a
def KJ(O:CtxOk X ad C)(h:lR sc xs=qz)(hc:eM (λx=>fZ C x) (bE sc)=pi cs):
  CtxOk (cX X (xs++bE sc) sc s3 H3 fp cc) ad {C with sc:=sc,N:=xs++bE sc}:=by
 obtain⟨y,G,E,I,v,u,H⟩:=j5 h;have l: ∀x,(relabel sc X.env).names.lookup x=(sc.names.lookup x).map (λk=>if(k==nu&&X.env.scope.kind== .function&&X.env.kindOf x==pi .cell)then ny else k):=λx=>cR;have s: ∀x,sc.names.lookup x=pi .free->(relabel sc X.env).names.lookup x=pi .cell\/(relabel sc X.env).names.lookup x=pi .free:=λx e=>by
  rw[l x,e];simp only[qe];split;exact .inl rfl;exact .inr rfl
 have t: ∀x,sc.names.lookup x=pi .cell->(relabel sc X.env).names.lookup x=pi .cell:=λx e=>by rw[l x,e];rfl
 refine⟨rfl,v,λx i e=>?_,λx e=>?_,λx g e=>?_,λx i e=>?_,O.calm,O.un,O.hd,O.exc,O.kin,O.kve,λj n F e=>let ⟨r,T,q⟩:=O.fnv j n F e;⟨r,⟨T.kp,T.ok⟩,q⟩⟩;obtain⟨b,a⟩:=mD e;have o:=mC b;refine⟨gG b,?_,(u x o).1,(u x o).2⟩;rcases a with a|a|a;refine .inl ?_;show(relabel sc X.env).names.lookup x=pi .local;rw[l x];have:sc.names.lookup x=pi .local:=a;rw[this];rfl;exact .inr (.inl (t x a));rcases s x a with z|z;exact .inr (.inl z);exact .inr (.inr z);show(relabel sc X.env).names.lookup x=pi .globalImplicit;rw[l x];have:sc.names.lookup x=pi .globalImplicit:=e;rw[this];rfl;obtain⟨b,a⟩:=O.gt x g e;refine⟨b,?_⟩;rcases g with ⟨k,n,F⟩|c|_|d|p|kvs|⟨A,B⟩|⟨A,M⟩|⟨A,n,M⟩;obtain⟨r,f,T,q,w⟩:=a;exact⟨r,f,⟨T.mg,T.kp,T.ok⟩,q,w⟩;exact a;exact a;exact a;exact a;exact a;exact⟨a.1,a.2.1,λm n M o=>let z:=a.2.2 m n M o;⟨z.no,z.ok⟩⟩;exact a;exact a;obtain⟨b,a⟩:=fB e;rcases a with a|a;exact .inl (t x a);exact s x a
end
section
variable{Ex:ce}
def xU{items}{Q:ce}(hit:s.heap.IsTupleIter it t i)(ht:s.heap.IsTuple t items)(hx:items[i]? =pi x)(hQ: ∀h',h'.IsTupleIter it t (i+1)->oq it s.heap h'->Q x {s with heap:=h'}):wpAny (model prog w) A (ee (.ref it)) Q Ex s:=by obtain⟨o,b,c,a⟩:=id hit;obtain⟨u,e,_,f,d⟩:=ht;unfold ee;refine aa (wpAny_callSpecial?_slot (name:=pc "__next__") hit.typeIs dy (wpAny_call_entry dy hit.typeIs F.entry_tuple_iterator_next ?_ (F.args_tuple_iterator_next_1 _)));show wpAny _ _ (field (.ref it) 0 >>= _) _ _ s;refine aa (wpAny_field b a (x:=.ref t) rfl ?_);show wpAny _ _ (if(qh t==pw)=qz then _ else _) _ _ s;rw[if_neg (show ¬((qh t==pw)=qz) from bf)];show wpAny _ _ (field (.ref it) 1 >>= _) _ _ s;refine aa (wpAny_field b a (x:=.int i 0) rfl ?_);show wpAny _ _ (seqItems? (.ref t) >>= _) _ _ s;refine aa (wpAny_seqItems e d ?_);simp only[jr,hx];refine aa (wpAny_setField b a (by simp) (ac ⟨x,rfl,ac (hQ _ ?_ (oq.update ..))⟩));exact⟨_,gm _ b (Obj.isFreed_of_fields (Obj.data_mapFields a _)),(Obj.cls_mapFields ..).trans c,by rw[Obj.data_mapFields a];simp[rawInt]⟩
def AA{items}{Q:ce}(hh:A.handled=qw)(hit:s.heap.IsTupleIter it t i)(ht:s.heap.IsTuple t items)(hx:items[i]? =qw)(hE: ∀h' e,Heap.ExtBut it s.heap h'->(∃o,h'.get? e=pi o/\o.cls= .type "StopIteration")->Ex (.ref e) {s with heap:=h'}):wpAny (model prog w) A (ee (.ref it)) Q Ex s:=by
 obtain⟨o,c,n,d⟩:=id hit;obtain⟨u,h,_,l,f⟩:=ht;unfold ee;refine aa (wpAny_callSpecial?_slot (name:=pc "__next__") hit.typeIs dy (wpAny_call_entry dy hit.typeIs F.entry_tuple_iterator_next ?_ (F.args_tuple_iterator_next_1 _)));show wpAny _ _ (field (.ref it) 0 >>= _) _ _ s;refine aa (wpAny_field c d (x:=.ref t) rfl ?_);show wpAny _ _ (if(qh t==pw)=qz then _ else _) _ _ s;rw[if_neg (show ¬((qh t==pw)=qz) from bf)];show wpAny _ _ (field (.ref it) 1 >>= _) _ _ s;refine aa (wpAny_field c d (x:=.int i 0) rfl ?_);show wpAny _ _ (seqItems? (.ref t) >>= _) _ _ s;refine aa (wpAny_seqItems h f ?_);simp only[jr,hx];refine aa (wpAny_rule (aa (wpAny_setField c d (by simp) ?_)));show wpAny _ _ (newExc (.type "StopIteration") [] >>= _) _ _ _;refine aa ?_;simp only[newExc,newTuple];refine aa (wpAny_newObj_type ?_ (by size_fits));refine aa (m:=firstArgMember _ _) (wpAny_of_eq (a:=pw) (by first|rfl|(simp only[firstArgMember];rfl)) ?_);refine wpAny_newObj_type ?_ (by size_fits);simp only[raiseNew];refine aa (wpAny_handled ?_);first|rw[show A.in1.handled=qw from hh]|rw[hh]
 refine aa (ac (wpAny_throw ?_));refine hE _ _ (λb j g e=>?_) ⟨_,af _ rfl,rfl⟩;exact ae _ (ae _ ((fz _ _ (qu g)).trans e))
end
def rS{n l m:Nat}(a:l<n)(b:m<n):ZipApart (n+4) (n+2) (n+3) n (n+1) l m:=by constructor<;>(intro h;have c:(_:Nat)=_:=h;revert c;lia)
def gZ{σ:L2.St}{fp:L1 Addr}(I:Inv X cc σ H s)(k: ∀b o,b∉fp->s.heap.get? b=pi o->h'.get? b=pi o)(hf: ∀b∈fp,oJ X cc H b):Inv X cc σ H {s with heap:=h',toks:=t'}:=by
 have d: ∀b u,H b=pi u->b∉fp:=λb u e z=>by rw[(hf b z).1]at e;cases e
 refine I.step (g':=s.gens) (d':=s.drawn) (ch:=fp) (λb h=>?_) (λb o _ _ a e _=>k b o a e) (λb o _ _ a e _=>⟨o.slots,k b o a e⟩) (λ_ _ _ _ n=>n)
  (λb o a e=>⟨o,k b o a e⟩) (λ_ _ e=>e) (λ_ _ _ e=>e) (λb x e=>⟨#[],by rw[e];simp⟩) (λm w=>?_) (λb u e=>?_) I.bare
 obtain⟨_,f,_,t,l,p⟩:=hf b h;exact⟨t,f,l,p⟩;obtain⟨o,g,j,i,r⟩:=w;exact⟨o,g,j,k _ o (λz=>(hf _ z).2.1 rfl) i,r⟩;refine(I.hok b u e).stay (λc v a q=>k c v ?_ q) (λ_ q=>q) λ_ _ q=>q;rcases a with z|z;rw[z];exact d b u e;exact d c _ z
abbrev ItA(h:Heap)(it l:Addr)(i:Nat):Prop:=h.IsTupleIter it l i
abbrev SeA(h:Heap)(l:Addr)(xs:Array Value):Prop:=h.IsTuple l xs
section
variable{σ:L2.St}
def eW(I:Inv X cc σ H s)(h:SqT X.K H a xs): ∃its,cD xs its/\SeA s.heap a its.toArray/\xs.length<=sizeLine:=by obtain⟨its,r,p,z⟩:=I.tuple h;exact⟨its,r,p,z⟩
def mE(I:Inv X cc σ H s)(h:SqT X.K H a xs)(h':SqT X.K H a ys):xs=ys:=by exact I.tuple_inj h h'
def bA{K}(e:Same H H')(h:SqT K H a xs):SqT K H' a xs:=by exact e.seqT h
def dF(q:ItA h it l i)(k: ∀o,h.get? it=pi o->h'.get? it=pi o):ItA h' it l i:=by obtain⟨o,e,r⟩:=q;exact⟨o,k o e,r⟩
def fD{Ex:ce}{Q:ce}(q:ItA s.heap it l i)(hl:SeA s.heap l xs)(hx:xs[i]? =pi x)(hQ: ∀h',ItA h' it l (i+1)->oq it s.heap h'->Q x {s with heap:=h'}):wpAny (model prog w) A (ee (.ref it)) Q Ex s:=by exact xU q hl hx hQ
def jI{Ex:ce}{Q:ce}(hh:A.handled=qw)(q:ItA s.heap it l i)(hl:SeA s.heap l xs)(hx:xs[i]? =qw)(hE: ∀h' e,Heap.ExtBut it s.heap h'->(∃o,h'.get? e=pi o/\o.cls= .type "StopIteration")->Ex (.ref e) {s with heap:=h'}):wpAny (model prog w) A (ee (.ref it)) Q Ex s:=by exact AA hh q hl hx hE
end
def GL(q:SeA h l it)(k: ∀o,h.get? l=pi o->h'.get? l=pi o):SeA h' l it:=by obtain⟨o,a,b⟩:=q;exact⟨o,k o a,b⟩
def bZ(q:ItA h it l k)(sb:oq c h h')(ne:it≠c):ItA h' it l k:=dF q λo e=>(sb.2 _ ne).trans e
def eX(q:SeA h l it)(sb:oq c h h')(ne:l≠c):SeA h' l it:=GL q λo e=>(sb.2 _ ne).trans e
def o0(x:ItA h it l k): ∃o,h.get? it=pi o/\o.data= .fields #[.ref l,.int k 0]:=by obtain⟨o,a,_,c⟩:=x;exact⟨o,a,c⟩
section
variable{Ex:ce}
def rV{z TI TO i1 i2 l1 l2}(D:ZipApart z TI TO i1 i2 l1 l2)(hz:IsZip s.heap z TI TO .none)(hTI:IsPair s.heap TI (.ref i1) (.ref i2))(hTO:IsPair s.heap TO a b)(h1:ItA s.heap i1 l1 k1)(h2:ItA s.heap i2 l2 k2)(hl1:SeA s.heap l1 xs)(hl2:SeA s.heap l2 ys)(hx:xs[k1]? =pi x)(hy:ys[k2]? =pi y)(hQ: ∀h',IsZip h' z TI TO (rawInt s.z)->IsPair h' TO x y->ItA h' i1 l1 (k1+1)->ItA h' i2 l2 (k2+1)->IsPair h' s.z x y->h'.objs.size=s.z+1->
   (∀c o,c≠z->c≠TO->c≠i1->c≠i2->s.heap.get? c=pi o->h'.get? c=pi o)->Q (pi (.ref s.z)) {s with heap:=h'}):wpAny (model prog w) A (pyNext (.ref z)) Q Ex s:=by
 have L:s.TypeIs (.ref z) "zip":=⟨_,hz,rfl⟩;unfold pyNext;refine aa (wpAny_attempt (wpAny_callSpecial?_slot (name:=pc "__next__") L lr (wpAny_call_entry lr L kj ?_ (js _))));show wpAny _ _ (field (.ref z) 2 >>= _) _ _ _;refine aa (wpAny_field hz rfl (x:=.bool q7) rfl ?_);show wpAny _ _ (field (.ref z) 3 >>= _) _ _ _;refine aa (wpAny_field hz rfl (x:=.ref TI) rfl (aa (wpAny_seqItems hTI rfl ?_)));show wpAny _ _ (dm (.ref z) >>= _) _ _ _;refine aa ?_;unfold dm;refine aa (wpAny_field hz rfl (x:=.none) rfl (ac ?_));simp only[if_true];refine aa (wpAny_rule (aa (wpAny_field hz rfl (x:=.ref TO) rfl (aa (wpAny_setField_rec hz (by simp) λU G f=>?_)))));replace G:IsZip U z TI TO .ellipsis:=G;refine aa ?_;simp only[List.zipIdx_cons,List.zipIdx_nil,lm,mo];refine aa (aa (wpAny_onRaise ?_));show wpAny _ _ (ee (.ref i1) >>= _) _ _ _;refine aa (fD (bZ h1 f D.i1z) (eX hl1 f D.l1z) hx λT p2 h=>ac ?_);have M:IsPair T TO a b:=(h.2 _ D.TOi1).trans ((f.2 _ D.TOz).trans hTO);refine aa (wpAny_seqItems M rfl (aa (wpAny_updateSeq_pair M λS v i=>?_)));replace v:IsPair S TO x b:=v;refine aa (wpAny_letGo (ac (aa (aa (wpAny_onRaise ?_)))));show wpAny _ _ (ee (.ref i2) >>= _) _ _ _;refine aa (fD (bZ (bZ (bZ h2 f D.i2z) h D.i12.symm) i D.TOi2.symm) (eX (eX (eX hl2 f D.l2z) h D.l2i1) i D.l2TO) hy λg4 O m=>ac ?_);have N:IsPair g4 TO x b:=(m.2 _ D.TOi2).trans v;refine aa (wpAny_seqItems N rfl (aa (wpAny_updateSeq_pair N λd p j=>?_)));replace p:IsPair d TO x y:=p;refine aa (wpAny_letGo (ac (ac (aa (wpAny_seqItems p rfl (aa (wpAny_newTuple ?_)))))));have n:d.objs.size=s.z:=by rw[j.1,m.1,i.1,h.1,f.1]
 have I:IsZip d z TI TO .ellipsis:=(j.2 _ D.TOz.symm).trans ((m.2 _ D.i2z.symm).trans ((i.2 _ D.TOz.symm).trans ((h.2 _ D.i1z.symm).trans G)));have Z: ∀c o,c≠z->c≠TO->c≠i1->c≠i2->s.heap.get? c=pi o->d.get? c=pi o:=λc o g r u C e=>(j.2 _ r).trans ((m.2 _ C).trans ((i.2 _ r).trans ((h.2 _ u).trans ((f.2 _ g).trans e))));have q1:ItA d i1 l1 (k1+1):=bZ (bZ (bZ p2 i D.TOi1.symm) m D.i12) j D.TOi1.symm;have Y:ItA d i2 l2 (k2+1):=bZ O j D.TOi2.symm;have J:z<d.objs.size:=ah I;show wpAny _ _ (dk (.ref z) (.ref d.objs.size) >>= _) _ _ _;refine aa ?_;unfold dk;have X:IsZip (d.push {cls:=.type "tuple",data:=.seq #[x,y]}) z TI TO .ellipsis:=ae _ I;refine aa (wpAny_setField_rec X (by simp) λW B t=>?_);replace B:IsZip W z TI TO (rawInt d.objs.size):=B;refine wpAny_setField_rec B (by simp) λl q E=>?_;replace q:IsZip l z TI TO (rawInt d.objs.size):=q;have up: ∀c o,c≠z->d.get? c=pi o->l.get? c=pi o:=λc o g e=>(E.2 _ g).trans ((t.2 _ g).trans (ae _ e));have H:IsPair l d.objs.size x y:=(E.2 _ (ou J)).trans ((t.2 _ (ou J)).trans (af _ rfl));have K:l.objs.size=d.objs.size+1:=by rw[E.1,t.1,ai]
 rw[n]at q H K;refine ac ⟨_,rfl,ac ?_⟩;show Q (pi (.ref d.objs.size)) _;rw[n];refine hQ l q (up _ _ D.TOz p) ?_ ?_ H K λc o g r u C e=>up c o g (Z c o g r u C e);exact dF q1 λo e=>up _ o D.i1z e;exact dF Y λo e=>up _ o D.i2z e
def vW{z TI TO i1 i2 l1 l2}(hh:A.handled=qw)(D:ZipApart z TI TO i1 i2 l1 l2)(hz:IsZip s.heap z TI TO .none)(hTI:IsPair s.heap TI (.ref i1) (.ref i2))(hTO:IsPair s.heap TO a b)(h1:ItA s.heap i1 l1 k1)(h2:ItA s.heap i2 l2 k2)(hl1:SeA s.heap l1 xs)(hl2:SeA s.heap l2 ys)(he:xs[k1]? =qw\/ys[k2]? =qw)(hQ: ∀h',(∀c o,c≠z->c≠TO->c≠i1->c≠i2->s.heap.get? c=pi o->h'.get? c=pi o)->Q qw {s with heap:=h'}):wpAny (model prog w) A (pyNext (.ref z)) Q Ex s:=by
 have v:s.TypeIs (.ref z) "zip":=⟨_,hz,rfl⟩;unfold pyNext;have l: ∀(h':Heap) (e:Addr),(∀c o,c≠z->c≠TO->c≠i1->c≠i2->s.heap.get? c=pi o->h'.get? c=pi o)->(∃o,h'.get? e=pi o/\o.cls= .type "StopIteration")->wpAny (model prog w) A (do if(<-isInstance (.ref e) (.type "StopIteration"))=qz then pure qw else throw (.ref e)) Q Ex {s with heap:=h'}:=λh' e H he=>by
  obtain⟨o,I,N⟩:=he;exact aa (wpAny_isInstance (T:="StopIteration") (b:=qz) ⟨o,I,N⟩ isSubtype_stop (ac (hQ _ H)))
 refine aa (wpAny_attempt (wpAny_callSpecial?_slot (name:=pc "__next__") v lr (wpAny_call_entry lr v kj ?_ (js _))));show wpAny _ _ (field (.ref z) 2 >>= _) _ _ _;refine aa (wpAny_field hz rfl (x:=.bool q7) rfl ?_);show wpAny _ _ (field (.ref z) 3 >>= _) _ _ _;refine aa (wpAny_field hz rfl (x:=.ref TI) rfl (aa (wpAny_seqItems hTI rfl ?_)));show wpAny _ _ (dm (.ref z) >>= _) _ _ _;refine aa ?_;unfold dm;refine aa (wpAny_field hz rfl (x:=.none) rfl (ac ?_));simp only[if_true];refine aa (wpAny_rule (aa (wpAny_field hz rfl (x:=.ref TO) rfl (aa (wpAny_setField_rec hz (by simp) λK m d=>?_)))));replace m:IsZip K z TI TO .ellipsis:=m;refine aa ?_;simp only[List.zipIdx_cons,List.zipIdx_nil,lm,mo];refine aa (aa (wpAny_onRaise ?_));show wpAny _ _ (ee (.ref i1) >>= _) _ _ _;rcases n:xs[k1]? with _|x;refine aa (jI hh (bZ h1 d D.i1z) (eX hl1 d D.l1z) n λq e f he=>?_);obtain⟨p,q1,j⟩:=he;have B:IsZip q z TI TO .ellipsis:=f _ _ D.i1z.symm m;have t:e≠z:=λx=>by subst x;rw[B]at q1;cases q1;simp at j
 exact wpAny_setField_rec B (by simp) λy _ g=>l y e (λc o i _ r _ x=>(g.2 _ i).trans (f _ _ r ((d.2 _ i).trans x))) ⟨p,(g.2 _ t).trans q1,j⟩;have L:ys[k2]? =qw:=he.resolve_left λh=>by rw[n]at h;cases h
 refine aa (fD (bZ h1 d D.i1z) (eX hl1 d D.l1z) n λq W f=>ac ?_);have G:IsPair q TO a b:=(f.2 _ D.TOi1).trans ((d.2 _ D.TOz).trans hTO);refine aa (wpAny_seqItems G rfl (aa (wpAny_updateSeq_pair G λy U g=>?_)));refine aa (wpAny_letGo (ac (aa (aa (wpAny_onRaise ?_)))));show wpAny _ _ (ee (.ref i2) >>= _) _ _ _;refine aa (jI hh (bZ (bZ (bZ h2 d D.i2z) f D.i12.symm) g D.TOi2.symm) (eX (eX (eX hl2 d D.l2z) f D.l2i1) g D.l2TO) L λS e E he=>?_);obtain⟨p,q1,j⟩:=he;have C:IsZip S z TI TO .ellipsis:=E _ _ D.i2z.symm ((g.2 _ D.TOz.symm).trans ((f.2 _ D.i1z.symm).trans m));have t:e≠z:=λx=>by subst x;rw[C]at q1;cases q1;simp at j
 exact wpAny_setField_rec C (by simp) λJ _ u=>l J e (λc o i O r M x=>(u.2 _ i).trans (E _ _ M ((g.2 _ O).trans ((f.2 _ r).trans ((d.2 _ i).trans x))))) ⟨p,(u.2 _ t).trans q1,j⟩
end
noncomputable abbrev zg1(h:Heap)(l:Addr):Heap:=h.push {cls:=.type "tuple_iterator",data:=.fields #[.ref l,.int 0 0]}
noncomputable abbrev zg3(h:Heap)(l m:Addr):Heap:=(zg1 (zg1 h l) m).push {cls:=.type "tuple",data:=.seq #[.ref h.objs.size,.ref (zg1 h l).objs.size]}
noncomputable abbrev zg4(h:Heap)(l m:Addr):Heap:=(zg3 h l m).push {cls:=.type "tuple",data:=.seq #[.none,.none]}
noncomputable abbrev zg5(h:Heap)(l m:Addr):Heap:=(zg4 h l m).push {cls:=.type "zip",data:=.fields #[.none,.bool q7,.bool q7,.ref (zg1 (zg1 h l) m).objs.size,.ref (zg3 h l m).objs.size]}
def CV l m xs ys:Meets (Builtin.«zip.__new__» ⟨[.type "zip",.ref l,.ref m],[]⟩) (λ_ R s=>SeA s.heap l xs/\SeA s.heap m ys/\R (.ok (.ret (.ref (zg4 s.heap l m).objs.size))) {s with heap:=zg5 s.heap l m}):=
 .of_wp λc w A R s h=>by
  obtain⟨f,g,d,e,b⟩:=s;obtain⟨n,a,h⟩:=h;have i:=sub_zip;have q1:Heap.IsTuple (Shared.heap ⟨f,g,d,e,b⟩) l xs:=n;have j:Heap.IsTuple (Shared.heap ⟨f.push {cls:=.type "tuple_iterator",data:=.fields #[.ref l,.int 0 0]},g,d,e,b⟩) m ys:=Heap.IsTuple.push a _;wp_walk using wpAny_pyIter_tuple q1,wpAny_pyIter_tuple j
  exact⟨_,rfl,h⟩
section
variable{Ex:ce}{s:Shared}
def AB(e:h.get? it=pi {cls:=.type "tuple_iterator",data:=.fields #[.ref l,.int 0 0]}):ItA h it l 0:=by exact⟨_,e,rfl,rfl⟩
def rW{Q:ce}(t1:SeA s.heap l xs)(t2':SeA s.heap m ys)(h: ∀h',IsZip h' (s.z+4) (s.z+2) (s.z+3) .none->IsPair h' (s.z+2) (.ref s.z) (.ref (s.z+1))->IsPair h' (s.z+3) .none .none->
   ItA h' s.z l 0->ItA h' (s.z+1) m 0->h'.objs.size=s.z+5->(∀c o,s.heap.get? c=pi o->h'.get? c=pi o)->Q (.ref (s.z+4)) {s with heap:=h'}):
  wpAny (model prog w) A (call (.type "zip") [.ref l,.ref m]) Q Ex s:=by
 refine callType_new F.called_zip rfl (F.typeCall_zip_2 _ _) (F.newCall_zip_2 _ _) (λd=>F.args_object_init_3 d _ _) F.entry_zip_new (CV l m xs ys) ⟨t1,t2',?_⟩;have g:(zg1 s.heap l).objs.size=s.z+1:=ai ..;have f:(zg1 (zg1 s.heap l) m).objs.size=s.z+2:=by rw[ai,g]
 have a:(zg3 s.heap l m).objs.size=s.z+3:=by rw[ai,f]
 have i:(zg4 s.heap l m).objs.size=s.z+4:=by rw[ai,a]
 have r:(zg5 s.heap l m).objs.size=s.z+5:=by rw[ai,i]
 have up: ∀{h:Heap} {o:Obj} {c:Addr} {x:Obj},h.get? c=pi x->(h.push o).get? c=pi x:=λe=>ae _ e;have b:(zg5 s.heap l m).get? (zg4 s.heap l m).objs.size=pi _:=af _ rfl;have p:(zg5 s.heap l m).get? (zg3 s.heap l m).objs.size=pi _:=up (af _ rfl);have j:(zg5 s.heap l m).get? (zg1 (zg1 s.heap l) m).objs.size=pi _:=up (up (af _ rfl));have n:(zg5 s.heap l m).get? (zg1 s.heap l).objs.size=pi _:=up (up (up (af _ rfl)));have q:(zg5 s.heap l m).get? s.z=pi _:=up (up (up (up (af _ rfl))));show _/\_;rw[f,a,i]at b;rw[g,f]at j;rw[a]at p;rw[g]at n;rw[i];exact⟨⟨_,b,rfl⟩,h _ b j p (AB q) (AB n) r λc o x=>up (up (up (up (up x))))⟩
end
def GM(K:oe)(l m:Addr):It:=
 ⟨λi H=>∃xs ys x y,SqT K H l xs/\SqT K H m ys/\xs[i]? =pi x/\ys[i]? =pi y,
  λi H v H'=>∃p x y,H p=qw/\v= .ref p/\(∀xs,SqT K H l xs->xs[i]? =pi x)/\(∀ys,SqT K H m ys->ys[i]? =pi y)/\H'=upd H p (.tup [x,y]),
  λi H=>∃xs ys,SqT K H l xs/\SqT K H m ys/\(xs.length<=i\/ys.length<=i)⟩
def AC{K}{z TI TO i1 i2 l m}(D:ZipApart z TI TO i1 i2 l m):
  Turn P w K (.Tuple es x1 tp) (GM K l m) [z,TI,TO,i1,i2] z (λi h=>IsZip h z TI TO .none/\IsPair h TI (.ref i1) (.ref i2)/\(∃a b,IsPair h TO a b)/\ItA h i1 l i/\ItA h i2 m i) where
 mem:=by simp
 obj:=λi h g b d=>by
  obtain⟨j,f,⟨a,c,n⟩,N,y5⟩:=g;obtain⟨o4,t,d4⟩:=o0 N;obtain⟨o5,r,d5⟩:=o0 y5;simp only[av,kh,or_false]at d;rcases d with rfl|rfl|rfl|rfl|rfl
  .exact⟨_,j,λv e=>by cases e⟩
  .exact⟨_,f,λv e=>by cases e⟩
  .exact⟨_,n,λv e=>by cases e⟩
  .exact⟨_,t,λv e=>by rw[d4]at e;cases e⟩
  .exact⟨_,r,λv e=>by rw[d5]at e;cases e⟩
 keep:=λi h G g k=>by
  obtain⟨j,f,⟨a,c,n⟩,N,y5⟩:=g;exact⟨k _ (by simp) _ j,k _ (by simp) _ f,⟨a,c,k _ (by simp) _ n⟩,dF N λo e=>k _ (by simp) o e,dF y5 λo e=>k _ (by simp) o e⟩
 item:=by
  intro X Z S T hc i B s J H E I L g hg;subst Z S T;obtain⟨xs,ys,x,y,q1,M,C,hy⟩:=hg;obtain⟨us,r1,p1,_⟩:=eW I q1;obtain⟨vs,r2,O,_⟩:=eW I M;obtain⟨u,hu,ru⟩:=r1.get C;obtain⟨v,hv,rv⟩:=r2.get hy;obtain⟨j,f,⟨a,c,n⟩,t,r⟩:=g;have tI:TI<s.z:=ah f;have tz:z<s.z:=ah j;have tO:TO<s.z:=ah n;have t4:i1<s.z:=by obtain⟨o,e,_⟩:=o0 t;exact ah e
  have t5:i2<s.z:=by obtain⟨o,e,_⟩:=o0 r;exact ah e
  refine rV D j f n t r p1 O (x:=u) (y:=v) (by simpa using hu) (by simpa using hv) λG a1 a2 a3 a4 a5 a6 a7=>⟨_,rfl,?_⟩
  have ab:H s.z=qw:=I.hok.fresh (aj _)
  have Ia:Inv X B J (upd H s.z (.tup [x,y])) {s with heap:=s.heap.push {cls:=.type "tuple",data:=.seq #[u,v]} }:=
   I.laid (t':=s.toks) (λb o e=>ae _ e) (aj _) (show ObjOk X.prog X.w _ _ _ (.tup [x,y]) from⟨by rw[sizeLine_eq];simp,[u,v],.cons ru (.cons rv .nil),⟨_,af _ rfl,rfl,_,rfl⟩,⟨_,af _ rfl,rfl⟩⟩)
  have U: ∀b∈[z,TI,TO,i1,i2],b≠s.z:=λb d=>by
   simp only[av,kh,or_false]at d;rcases d with rfl|rfl|rfl|rfl|rfl
   .exact bh tz
   .exact bh tI
   .exact bh tO
   .exact bh t4
   .exact bh t5
  have p: ∀b∈[z,TI,TO,i1,i2],oJ X B (upd H s.z (.tup [x,y])) b:=λb d=>⟨by rw[aC (U b d)];exact(L b d).1,(L b d).2⟩
  have Ib:Inv X B J (upd H s.z (.tup [x,y])) {s with heap:=G}:=by
   refine gZ (s:={s with heap:=s.heap.push {cls:=.type "tuple",data:=.seq #[u,v]} }) (t':=s.toks) Ia (λb o d e=>?_) p
   simp only[av,kh,or_false,not_or]at d
   by_cases hq:b=s.z
   .subst hq;rw[show(s.heap.push {cls:=.type "tuple",data:=.seq #[u,v]}).get? s.z=pi _ from af _ rfl]at e
    cases e;exact a5
   .have e2:s.heap.get? b=pi o:=by
     exact(jt _ b _ hq).symm.trans e
    exact a7 b o d.1 d.2.2.1 d.2.2.2.1 d.2.2.2.2 e2
  refine wpAny_letOwnedTupleGo_zip a1 λh2 b1 A=>?_
  have Ic:Inv X B J (upd H s.z (.tup [x,y])) {s with heap:=h2}:=gZ (s:={s with heap:=G}) (t':=s.toks) Ib (λb o d e=>(A.2 b (λq=>d (by simp[q]))).trans e) p
  refine⟨.ref s.z,_,Ic,rfl,⟨_,x,y,ab,rfl,λad Q=>by rw[mE I Q q1];exact C,λag Y=>by rw[mE I Y M];exact hy,rfl⟩,⟨b1,?_,⟨u,v,?_⟩,?_,?_⟩,λb d=>(p b d).1⟩
  .exact(A.2 _ D.TIz).trans (a7 _ _ D.TIz D.TITO D.TIi1 D.TIi2 f)
  .exact(A.2 _ D.TOz).trans a2
  .exact dF a3 λo e=>(A.2 _ D.i1z).trans e
  .exact dF a4 λo e=>(A.2 _ D.i2z).trans e
 done:=by
  intro X Z S T hc i B s J H E I L g hg;subst Z S T;obtain⟨xs,ys,q1,M,C⟩:=hg;obtain⟨us,r1,p1,_⟩:=eW I q1;obtain⟨vs,r2,O,_⟩:=eW I M;obtain⟨j,f,⟨a,c,n⟩,t,r⟩:=g;have n1:=r1.length;have n2:=r2.length;refine vW (I.ok.hd hc) D j f n t r p1 O (C.elim (λh=>.inl (by simp;lia)) λh=>.inr (by simp;lia)) λG k=>⟨rfl,gZ (t':=s.toks) I (λb o d e=>?_) L⟩
  simp only[av,kh,or_false,not_or]at d;exact k b o d.1 d.2.2.1 d.2.2.2.1 d.2.2.2.2 e
 self:=λ_ _ _ _ _ g h=>wpAny_pyIter_zip g.1 h
section
variable{X:Cx}{ad:Ad}{cc:cf}{s:Shared}{σ:St}{H G:Hp}{Q:VK}{E:Nat->Hp->Prop}{ap cp:Pos}{o a:Expr}{f g:F}
def GN(e:Same G1 H1)(q:Seq X ad G1 H1 (.lst ds) x): ∃l xs,x= .ref l/\SqL X.K H1 l xs/\aJ X.K ad G1 ds xs:=by rcases q with q|⟨l,a,ds',e1,e2,e3,e4,e5⟩;unfold Rep at q;obtain⟨l,a,rfl,b,c⟩:=q;exact⟨l,a,rfl,e.seq b,c⟩;cases e1;exact⟨l,a,e2,SqL.of e4,e5⟩
def AD{m}{id}{r}(slot:PySem.Slot "list" m id)(hty:typeOf (.builtin id)=pure (.type "method_descriptor"))
  (ho:ML X ad o f) (ha:ME X ad a g) (hs:starEach [a] X.env=(q7,eval a X.env)::starEach [] X.env) (hbase:attributeBase o m X.env (eval o X.env)=eval o X.env) (hline:(ap.endLine==cp.line)=qz)
  (hm: ∀cc s (σ:St) H G l xs ds y v u Q E,Inv X cc σ H s->Same G H->SqL X.K H l xs->aJ X.K ad G ds xs->Rep X.K ad G y v->bG v u->
   RK X.K ad G H (r [.lst ds,y]) Q E->X.wp (call (.builtin id) [.ref l,u]) (EP X cc σ Q) X.xe s):ME X ad (.Call (.Attribute o m ap) [a] [] cp) (oN r f g):=by
 refine λcc s σ H Q I W=>W.el λG B E T c e L=>?_
 refine wpAny_Call_method_late hbase (iB hs) hline rfl (L2.thn (ho.lk cc s σ H G B _ Q E I T c e L) λv s1 b=>?_)
 obtain⟨x,d,G1,H1,q,N,st1,q1,h⟩:=b
 cases d<;>try exact ba h
 rename_i ds;obtain⟨l,xs,rfl,i,rq⟩:=GN st1.gh q1
 cases (show v=qh l from N)
 obtain⟨Y,rv,z,_⟩:=q.list i;obtain⟨p,n,j,e2,U,e4⟩:=z;refine⟨"list",id,fq,slot,hty,⟨p,j,e2⟩,λa' O=>by cases O;exact⟨p,j,U⟩,?_⟩
 rw[hs];refine f6 rfl (h8 (iw (L2.thn (ha.thn q st1.gh (c.step st1) e h) λu J ⟨w,y,M,C,I2,t,st2,Z,S⟩=>jh ?_)))
 exact hm cc J σ C M l xs ds y w u Q E I2 st2.gh (st2.sh.seq i) (rq.mono st2.sg) Z t S
def vX(hu:X.A.units+62<cLine)(ho:ML X ad o f)(ha:ME X ad a g)(hs:starEach [a] X.env=(q7,eval a X.env)::starEach [] X.env)(hbase:attributeBase o "count" X.env (eval o X.env)=eval o X.env)(hline:(ap.endLine==cp.line)=qz):
  ME X ad (.Call (.Attribute o "count" ap) [a] [] cp) (oN qY f g):=by
 refine AD PySem.F.slot_list_count PySem.F.type_list_count ho ha hs hbase hline ?_;intro S s O H G l T d y v u Q E I m B M q r k;have c:RK X.K ad G H (if FP y d then .ok (.int ((d.countP λz=>deq z y):Nat))else .bad) Q E:=k;by_cases i:FP y d=qz
 .rw[if_pos i]at c;obtain⟨h,J,⟨⟨N,dd,j,L⟩,n,p,t,C,w⟩,_⟩:=I.list B;simp only at t C w;subst t w;obtain⟨e,x,_,b,_⟩:=Ep hu I m i q r M J;refine call_meets PySem.F.slot_list_count ⟨_,p,rfl⟩ PySem.F.entry_list_count (PySem.F.args_list_count_2 _ _) (SeqAt.list_countAt l h.toArray n dd L u e) ⟨p,x,?_⟩;refine⟨.int _,H,I.tok _,⟨_,rfl⟩,?_⟩;rw[<-b]at c;exact c.ok_now m bU
 .rw[if_neg i]at c;exact c.elim
def vY(hu:X.A.units+62<cLine)(ho:ML X ad o f)(ha:ME X ad a g)(hs:starEach [a] X.env=(q7,eval a X.env)::starEach [] X.env)(hbase:attributeBase o "index" X.env (eval o X.env)=eval o X.env)(hline:(ap.endLine==cp.line)=qz):
  ME X ad (.Call (.Attribute o "index" ap) [a] [] cp) (oN qZ f g):=by
 refine AD PySem.F.slot_list_index PySem.F.type_list_index ho ha hs hbase hline ?_;intro cc s σ H G l xs d y v u Q E I x O W q r k;have c:RK X.K ad G H (if FP y d then(match d.findIdx? λz=>deq z y with|some k=>.ok (.int (k:Nat))|none=>.bad)else .bad) Q E:=k;by_cases p:FP y d=qz;rw[if_pos p]at c;obtain⟨i,J,⟨⟨Y,dd,w,U⟩,n,C,L,S,M⟩,hz⟩:=I.list O;simp only at L S M;subst L M;obtain⟨e,N,_,_,b⟩:=Ep hu I x p q r W J;cases B:d.findIdx? λz=>deq z y with
 |none=>rw[B]at c;exact c.elim
 |some j=>
  rw[B]at c b;obtain⟨T,hit,h⟩:=List.findIdx?_eq_some_iff_getElem.mp b;have Z:=J.length;refine call_meets PySem.F.slot_list_index ⟨_,C,rfl⟩ PySem.F.entry_list_index (PySem.F.args_list_index_2 _ _) (SeqAt.list_indexAt l i.toArray n dd U u e j (by simpa using T) ?_ (by simpa using hit) (λm hm t=>by simpa using h m t)) ⟨C,N,?_⟩;have:(sizeLine:Nat)<2^63-1:=by decide
  lia;exact⟨.int _,H,I.tok _,⟨_,rfl⟩,c.ok_now x bU⟩
 rw[if_neg p]at c;exact c.elim
def iZp(K:oe)(ta:TA):TI:=λσ H R=>ta σ H λvs H1=>∃l m xs ys,vs=[.ref l,.ref m]/\SqT K H1 l xs/\SqT K H1 m ys/\(xs.length<=sizeLine->R (GM K l m) H1)
def KL{kt}(hg:L2.Gl X "zip")(hm:X.mg "zip"=qw)(ha:PA X [a,b] ta)(he:starEach [a,b] X.env=(q7,eval a X.env)::starEach [b] X.env)(he2:starEach [b] X.env=(q7,eval b X.env)::starEach [] X.env):
  PI X (.Tuple es kt tp) (.Call (.Name "zip" p) [a,b] [] pos) (iZp X.K ta):=by
 intro N s L H R I h;refine Call_ (gR (u:=.type "zip") I hg hm (by decide+kernel) (dt (L2.thn (ha pos N s L H _ I h) λus c ⟨Z,E,f,A,q1⟩=>?_) he (by rw[he2];rfl)) (by decide) (by decide));obtain⟨l,m,U,Y,rfl,g,i,q⟩:=q1;obtain⟨u,v,rfl,B,Q⟩:=A.two;cases (show u=qh l from B);cases (show v=qh m from Q);obtain⟨M,_,w,S⟩:=eW f g;obtain⟨t,_,r,_⟩:=eW f i;refine rW w r λT n J O G x W y=>wpAny_pyIter_zip n ?_;have z:l<c.z:=by obtain⟨o,e,_⟩:=w;exact ah e
 have C:m<c.z:=by obtain⟨o,e,_⟩:=r;exact ah e
 refine⟨c.z+4,[c.z+4,c.z+2,c.z+3,c.z,c.z+1],_,GM X.K l m,E,rfl,f.kept (t':=c.toks) y,AC (rS z C),⟨n,J,⟨_,_,O⟩,G,x⟩,λb j=>?_,q S⟩;have d:c.z<=b:=by
  simp only[av,kh,or_false]at j;rcases j with rfl|rfl|rfl|rfl|rfl;exact kl _ 4;exact kl _ 2;exact kl _ 3;exact aj _;exact kl _ 1
 exact f.fpOk d (f.hok.fresh d)
def AE{ds es:L1 D}{i:Nat}{d}(e:((ds.zip es).map λp=>D.tup [p.1,p.2])[i]? =pi d): ∃x y,ds[i]? =pi x/\es[i]? =pi y/\d= .tup [x,y]:=by rw[ji]at e;rcases q:(ds.zip es)[i]? with _|p;rw[q]at e;cases e;rw[q]at e;rw[List.getElem?_zip_eq_some]at q;exact⟨p.1,p.2,q.1,q.2,(ku e).symm⟩
abbrev isA(ds:L1 D)(d:D):Prop:=d= .tup ds
def o7(c:isA ds d)(r:Rep X.K ad G1 d v): ∃l vs,v= .ref l/\SqT X.K G1 l vs/\aJ X.K ad G1 ds vs:=by cases c;unfold Rep at r;exact r
def CW{G1 H1 H2:Hp}{l m}{i}{vs ws}{ds es}{d}{x:V}(h1:SqT X.K G1 l vs)(r1:aJ X.K ad G1 ds vs)(h2:SqT X.K G1 m ws)(r2:aJ X.K ad G1 es ws)(hg:Same G1 H1)(e:((ds.zip es).map λp=>D.tup [p.1,p.2])[i]? =pi d):
  (GM X.K l m).go i H1/\∀x H2,(GM X.K l m).yld i H1 x H2->∃G2,Step G1 H1 G2 H2/\Rep X.K ad G2 d x:=by
 obtain⟨x,y,s,q,rfl⟩:=AE e;obtain⟨v,f,q1⟩:=r1.get s;obtain⟨w,b,o⟩:=r2.get q;refine⟨⟨vs,ws,v,w,bA hg h1,bA hg h2,f,b⟩,?_⟩;rintro t r ⟨p,u,z,c,rfl,n,j,rfl⟩;have h:=n vs (bA hg h1);rw[f]at h;cases h;have g:=j ws (bA hg h2);rw[b]at g;cases g;refine⟨upd G1 p (.tup [v,w]),Step.new hg c,?_⟩;have a:Same G1 (upd G1 p (.tup [v,w])):=Same.upd_new (hg.free c);unfold Rep;exact⟨p,[v,w],rfl,SqT.of aH,aJ.cons (q1.mono a) (aJ.cons (o.mono a) aJ.nil)⟩
def CY{G1 H1:Hp}{l m}{vs ws}{ds es:L1 D}(h1:SqT X.K H1 l vs)(n1:vs.length=ds.length)(h2:SqT X.K H1 m ws)(n2:ws.length=es.length):(GM X.K l m).stop ((ds.zip es).map λp=>D.tup [p.1,p.2]).length H1:=by
 refine⟨vs,ws,h1,h2,?_⟩;simp only[aq,ly]
 lia
def KM{kt}(hg:L2.Gl X "zip")(hm:X.mg "zip"=qw)(ha:ME X ad a f)(hb:ME X ad b g)(he:starEach [a,b] X.env=(q7,eval a X.env)::starEach [b] X.env)(he2:starEach [b] X.env=(q7,eval b X.env)::starEach [] X.env):
  MI X ad (.Tuple es kt tp) (.Call (.Name "zip" p) [a,b] [] pos) (qU f g):=by
 rintro Y s t H W I ⟨G,ρ,E,T,w,z,S⟩;refine KL (ta:=tH (tE X ad f) (tH (tE X ad g) IZ)) hg hm (cJ ha (cJ hb eP he2) he) he he2 Y s t H W I ?_;show tE X ad f t H λv C=>tE X ad g t C λJ H2=>∃l m xs ys,[v,J]=[.ref l,.ref m]/\SqT X.K H2 l xs/\SqT X.K H2 m ys/\(xs.length<=sizeLine->W (GM X.K l m) H2);refine uA T w z S λv d G1 C B r k=>?_;refine uA B.gh (w.step B) z k λJ M A H2 st2 O o=>?_;obtain⟨q,j,U,c2,o⟩: ∃q j,isA q d/\isA j M/\IK X ad A H2 (.ok (.lst ((q.zip j).map λp=>D.tup [p.1,p.2]))) W E:=by
  cases d<;>try exact ba o
  cases M<;>try exact ba o
  exact⟨_,_,rfl,rfl,o⟩
 obtain⟨al,e,hw⟩:=o;cases e;obtain⟨l,vs,rfl,q1,Z⟩:=o7 U r;obtain⟨m,Q,rfl,u,L⟩:=o7 c2 O;have n:=bA st2.sg q1;have h:=Z.mono st2.sg;refine⟨l,m,vs,Q,rfl,bA st2.gh n,bA st2.gh u,λab=>hw _ A H2 (Step.refl st2.gh) ⟨λi y N d' c e=>?_,λy N c=>CY (G1:=y) (bA c.sh (bA st2.gh n)) h.length (bA c.sh (bA st2.gh u)) L.length,?_⟩⟩;exact CW (H2:=N) (x:=.ref l) (bA c.sg n) (h.mono c.sg) (bA c.sg u) (L.mono c.sg) c.gh e;have:=h.length;simp only[aq,ly];lia
end
section
open AutoSeq1 (wpAny_loadPart')
open MeetsSeq MeetsSeq2 MeetsSeq3 SeqRoads2 SeqAt
end
def N5(o:Obj)(q:Str):Prop:= ∃vs t,o.data= .fields vs/\vs[1]? =pi (.str q t)
structure Tb(P:Addr)(q:Str)(ps:Array Value)(cs:cf):Prop where
 ok:TriplesOk ps.toList
 cod: ∀pos cv,codeAmong pos ps.toList=pi cv->∃c o,cv= .ref c/\(c,o)∈cs/\N5 o q
 ne: ∀p∈cs,p.1≠P
def rX{a b:Nat}(h:TriplesOk l):TriplesOk (l++[.int i a,.int j b,c]):=by
 fun_induction TriplesOk l with
 |case1=>trivial
 |case2 _ _ _ _ _ _ e=>exact e h
 |case3=>exact h.elim
def xV{pos pos':Pos}(t:TriplesOk l)(h:codeAmong pos' (l++[rawInt pos.line,rawInt pos.col,c])=pi cv):codeAmong pos' l=pi cv\/cv=c:=by
 fun_induction TriplesOk l with
 |case1=>
  simp only[lz,codeAmong,rawInt]at h;split at h
  .exact .inr (ku h).symm
  .cases h
 |case2 _ _ _ _ _ _ d=>
  simp only[km,codeAmong]at h ⊢;split at h
  .rename_i a;rw[if_pos a];exact .inl h
  .rename_i a;rw[if_neg a];exact d t h
 |case3=>exact t.elim
section
variable{cs cc:cf}{σ:St}{R':ce}
def AF(I:Inv X ((P,mq ps)::(cs++cc)) σ H s)(T:Tb P q ps cs)(hx:P∈X.ex)(hpn: ∀p∈X.pn++cc,p.1≠P)(hpar:defaultsOf params X.env=([],[]))(hq:X.env.qual++"<lambda>"=q)(hfree: ∀x,(x,nu)∈sc.names->X.env.kindOf x=pi .cell\/X.env.kindOf x=pi .free)(hcode:X.env.code= .ref c)(hC:mr s.heap c P)(hB:s.heap.BuiltinsAt X.mg P)(k: ∀(a:Addr) ps' (cs':cf) cv ctv s',Inv X ((P,mq ps')::(cs'++cc)) σ H s'->Tb P q ps' cs'->(∃more,ps'=ps++more)->(∀p∈cs',p∈cs\/s.z<=p.1)->s.z<=a->
   s'.heap.get? a=pi {cls:=.type "function",data:=.func (mw "<lambda>" q params body sc (l7 X.env.cells sc.names []) ((X.mg "__name__").getD .none) cv ctv)}->s'.heap.CodeRec cv q->(∃c',cv= .ref c'/\H c'=qw/\c'≠X.env.locals/\c'∉X.fs)->
   (∀b o,b≠P->s.heap.get? b=pi o->s'.heap.get? b=pi o)->R' (.ref a) s'):
  X.wp (eval (.Lambda params body sc pos) X.env) R' X.xe s:=by
 have L:closureFor sc X.env=pure (l7 X.env.cells sc.names []):=jY λx hx=>by
  obtain⟨c,h⟩:=I.ok.has x (hfree x hx);rw[h];rfl
 have l:=I.pin (P,mq ps) (bt _ (.head _));have hg:s.heap.Ns mainGlobals X.mg:=I.mod.glob.keeps I.bk
 have ab:mainGlobals≠P:=λz=>by
  obtain⟨o,es,ep,e,Q,_⟩:=hg;have Z:=l.1;rw[z]at e;rw[e]at Z;cases Z;cases Q
 have I0:Inv X (cs++cc) σ H s:=I.pins_of λp g=>I.pin p (bt _ (.tail _ g))
 have O: ∀p∈X.pn++(cs++cc),p.1≠P:=λp g=>by
  rcases k6.mp g with h|h
  .exact hpn p (g8 _ h)
  .rcases k6.mp h with h|h
   .exact T.ne p h
   .exact hpn p (bt _ h)
 have ak: ∀b∈[P],(b∈X.ex\/X.s₀.z<=b)/\b≠X.env.locals/\(∀x c,X.env.cells.lookup x=pi c->c≠b)/\∀p∈X.pn++(cs++cc),p.1≠b:=λb j=>by
  rw[i3.mp j];exact⟨.inl hx,(I.ok.exf P hx).1,(I.ok.exf P hx).2,O⟩
 have after: ∀(y:Heap) (E:Nat),(∀b o,b≠P->s.heap.get? b=pi o->y.get? b=pi o)->Inv X (cs++cc) σ H {s with heap:=y,toks:=E}:=λy E f=>by
  have C: ∀b,b∉[P]->b≠P:=λb j z=>j (by rw[z];exact .head _)
  refine I0.step (ch:=[P]) (g':=s.gens) (d':=s.drawn) ak (λb o _ _ j e _=>f b o (C b j) e) (λb o _ _ j e _=>⟨o.slots,f b o (C b j) e⟩) (λb o _ _ n=>n) (λb o j e=>⟨o,f b o (C b j) e⟩) (λ_ _ e=>e) (λ_ _ _ e=>e) (λb ps e=>⟨#[],by rw[e];simp⟩) (λm hn=>?_) (λa o e=>?_) I.bare
  .obtain⟨o,es,ep,e,r⟩:=hn;exact⟨o,es,ep,f _ o (I.ok.exf P hx).1.symm e,r⟩
  .have nP: ∀b,H b≠qw->b≠P:=λb j z=>j (by rw[z];exact l.2.1)
   refine(I.hok a o e).stay (λb u j q=>f b u ?_ q) (λ_ q=>q) λ_ _ q=>q
   rcases j with rfl|j
   .exact nP _ (by rw[e];exact λz=>nomatch z)
   .exact nP _ (by rw[j];exact λz=>nomatch z)
 refine PySem.W.kla_eval hpar ?_;rw[hq]
 cases hf:codeAmong pos ps.toList with
 |some cv=>
  refine PySem.W.kla_makeFunctionHit (mg:=X.mg) L I.ok.glob hg hcode hC l.1 T.ok hf hB λctv y E hk am=>?_
  obtain⟨K,U,e1,m1,r1⟩:=T.cod pos cv hf;have p1:=I.pin (K,U) (bt _ (.tail _ (g8 _ m1)))
  have f: ∀b o,s.heap.get? b=pi o->(y.push {cls:=.type "function",data:=.func (mw "<lambda>" q params body sc (l7 X.env.cells sc.names []) ((X.mg "__name__").getD .none) cv ctv)}).get? b=pi o:=λb o e=>ae _ (hk b o e)
  refine k _ ps cs cv ctv _ ((after _ E λb o _ e=>f b o e).pins_of λp g=>?_) T ⟨#[],by simp⟩ (λp g=>.inl g) am (af _ rfl) ?_ ⟨K,e1,p1.2.1,p1.2.2.1,p1.2.2.2.1⟩ λb o _ e=>f b o e
  .have:=I.pin p (bt _ g)
   exact⟨f _ _ this.1,this.2⟩
  .obtain⟨vs,t,d,v⟩:=r1;exact⟨K,U,vs,t,e1,f _ _ p1.1,d,v⟩
 |none=>
  refine PySem.W.kla_makeFunction (mg:=X.mg) L I.ok.glob hg hcode hC l.1 T.ok hf ab hB λc' ctv y E ad i al M ag=>?_
  obtain⟨c2,Y,vs,t,Z,J,Q,hv⟩:=M;cases Z
  have f: ∀b o,b≠P->s.heap.get? b=pi o->(y.push (PySem.W.kla_obj "<lambda>" q params body sc (l7 X.env.cells sc.names []) ((X.mg "__name__").getD .none) c' ctv)).get? b=pi o:=λb o ne e=>ae _ (ad b o ne e)
  have N:P<s.z:=ah l.1;have B: ∀v,Y.data≠ .cell v:=λv z=>by rw[Q]at z;cases z
  have S:H c'=qw:=I.hok.fresh i
  refine k _ (ps++ #[rawInt pos.line,rawInt pos.col,.ref c']) ((c',Y)::cs) (.ref c') ctv _ ((after _ E f).pins_of λp g=>?_) ⟨?_,?_,?_⟩ ⟨_,rfl⟩ (λp g=>(av.mp g).elim (λz=>.inr (by rw[z];exact i)) .inl) (om i (oo al)) (af _ rfl) ?_ ⟨c',rfl,S,ou (bg I.lt i),I.nofs i⟩ f
  .rcases av.mp g with rfl|g
   .exact⟨ae _ ag,l.2.1,l.2.2.1,l.2.2.2.1,λv z=>nomatch z⟩
   .rcases av.mp g with rfl|g
    .refine⟨ae _ J,S,?_,I.nofs i,B⟩;exact ou (bg I.lt i)
    .have:=I.pin p (bt _ (.tail _ g))
     exact⟨f _ _ (O p (bt _ g)) this.1,this.2⟩
  .rw[Array.toList_append];exact rX T.ok
  .intro G cv h;rw[Array.toList_append]at h;rcases xV T.ok h with h|rfl
   .obtain⟨K,U,e1,m1,r1⟩:=T.cod G cv h;exact⟨K,U,e1,.tail _ m1,r1⟩
   .exact⟨c',Y,rfl,.head _,vs,t,Q,hv⟩
  .intro p g;rcases av.mp g with rfl|g
   .exact ou (bg N i)
   .exact T.ne p g
  .exact⟨c',Y,vs,t,rfl,ae _ J,Q,hv⟩
end
noncomputable abbrev EJ(qual:Str)(sc:Scope)(L f:Addr)(cd:Value)(cl:L1 (Str×Addr)):qm:=PySem.W.envX qual sc L f cd cl
noncomputable def cxL(CX:CXT)(P:Program)(w:World)(K:oe)(mg:Str->L7 Value)(base:Heap)(N:L1 Str)(qual:Str)(sc:Scope)(f:Addr)(cd:Value)(cl:L1 (Str×Addr))(A:Around)(outer:L1 qm)(s:Shared)(H:Hp)(E:XK):Cx where
 prog:=P;w:=w;K:=K;mg:=mg;base:=base;A:=A.deeper (EJ qual sc s.z f cd cl);N:=N;s₀:=s;H₀:=H;env:=EJ qual sc s.z f cd cl;outer:=outer;stack:=EJ qual sc s.z f cd cl::outer;ex:=[];calm:=qz;fn:=λ_=>q7;pn:=[];xe:=λe s'=>wpAny (model P w) (A.deeper (EJ qual sc s.z f cd cl)) (leaving (EJ qual sc s.z f cd cl) e) (λ_ s''=>CX outer H s E e s'') (λe' s''=>CX outer H s E e' s'') s'
structure LamSc(N:List Str)(sc:Scope):Prop where
 kind:sc.kind= .function
 co:sc.isCoroutine=q7
 gen:sc.isGenerator=q7
 nocell: ∀x∈sc.names,x.2≠ .cell
 noloc: ∀x,sc.names.lookup x≠pi .local
section
variable{K:oe}{vs:L1 V}
def AG(S:LamSc N sc)(hd:A.handled=qw)(e0:Env0 P w K mg base A outer s H)(hns:h'.Ns s.z m)(hk: ∀b o,s.heap.get? b=pi o->h'.get? b=pi o)(inj: ∀x y c,cl.lookup x=pi c->cl.lookup y=pi c->x=y)(has: ∀x,sc.names.lookup x=pi .free->∃c,cl.lookup x=pi c)(cel: ∀x c,cl.lookup x=pi c->(∃v,s.heap.IsCell c v)/\H c=qw)(hl:vs.length=N.length)(hv: ∀(i:Nat) x v,N[i]? =pi x->vs[i]? =pi v->sc.names.lookup x=pi .free->∃u c,bG v u/\cl.lookup x=pi c/\s.heap.IsCell c (pi u)):
  Inv (cxL CX P w K mg base N qual sc f cd cl A outer s H E) [] (vs.map pi) H {s with heap:=h',toks:=t'}:=by
 have e: ∀b:Addr,b∉(cxL CX P w K mg base N qual sc f cd cl A outer s H E).ex:=λb z=>absurd (show b∈([]:L1 Addr) from z) (by simp);have j: ∀x,sc.names.lookup x≠pi .cell:=λx z=>S.nocell _ (ii z) rfl;refine⟨⟨e0.mod,S.kind,rfl,rfl,aj _,inj,λy d=>?_,λy c d _=>(bf d).elim,λ_=>hd,Around.frames_deeper e0.frames,.inr ⟨rfl,rfl⟩,λb z=>absurd z (e b),e0.bs,e0.bsz,λb _ _=>e b,λb z=>absurd z (e b),e0.funs,e0.frf⟩,
  rfl,e0.bare,Un.kept hk,⟨m,hns,λi y v B g l=>?_⟩,λy c h=>?_,e0.hok.fresh (aj _),λy c h=>(cel y c h).2,λp C=>absurd (show p∈([]:cf) from C) (by simp),e0.hok.kept hk,(aq ..).trans hl⟩
 have d:sc.names.lookup y=pi .cell\/sc.names.lookup y=pi .free:=d;rcases d with d|d;exact absurd d (j y);exact has y d;have t:vs[i]? =pi v:=by
  rw[ji]at g;rcases q:vs[i]? with _|a;rw[q]at g;cases g;rw[q]at g;cases g;rfl
 have l:sc.names.lookup y=pi .local\/sc.names.lookup y=pi .cell\/sc.names.lookup y=pi .free:=l;rcases l with z|z|z;exact absurd z (S.noloc y);exact absurd z (j y);obtain⟨u,c,r,G,o,n,hd⟩:=hv i y v B t z;exact⟨u,r,.inr ⟨.inr z,c,G,o,hk _ _ n,hd⟩⟩;obtain⟨⟨v,o,n,hd⟩,_⟩:=cel y c h;exact⟨v,o,hk _ _ n,hd⟩
def GO(S:LamSc N sc)(hobj:s.heap.get? f=pi {cls:=.type "function",data:=.func (mw name qual params body sc cl pm cd ct)})(hcd:s.heap.CodeRec cd qual)(hbind:bindArgs (mw name qual params body sc cl pm cd ct) ⟨[],[]⟩=pure [])(hr:Room (k+1) A)(e0:Env0 P w K mg base A outer s H)(inj: ∀x y c,cl.lookup x=pi c->cl.lookup y=pi c->x=y)(has: ∀x,sc.names.lookup x=pi .free->∃c,cl.lookup x=pi c)(cel: ∀x c,cl.lookup x=pi c->(∃v,s.heap.IsCell c v)/\H c=qw)(hl:vs.length=N.length)(hv: ∀(i:Nat) x v,N[i]? =pi x->vs[i]? =pi v->sc.names.lookup x=pi .free->∃u c,bG v u/\cl.lookup x=pi c/\s.heap.IsCell c (pi u))(hb: ∃t,PE (cxL CX P w K mg base N qual sc f cd cl A outer s H E) body t/\t (vs.map pi) H Q):
  codeAny (model P w) A (.call (.ref f) ⟨[],[]⟩) (CR CX outer P w H s Q E) s:=by
 have lim:s.heap.NoLimit:=e0.mod.nolimit.keeps λb o e=>(e0.bs b o e).1;refine PySem.W.kla_callFunE hr.depth hobj rfl S.co S.gen rfl hcd ?_;rw[hbind];refine ac (wpAny_newFunctionEnv S.nocell (λx l=>nomatch l) (λp g a=>⟨lim.fresh _ a,?_⟩) S.kind);have hk: ∀b o,s.heap.get? b=pi o->p.get? b=pi o:=λb o e=>a.extBut b o (bh (ah e)) (ae _ e);show codeAny _ _ (.expr body (EJ qual sc s.z f cd cl)) _ _;obtain⟨t,h,r⟩:=hb;have I:=AG (CX:=CX) (E:=E) (t':=s.toks+0) (qual:=qual) (f:=f) (cd:=cd) S hr.hd e0 g hk inj has cel hl hv;refine PySem.W.kla_codeExpr (wpAny_mono (h [] _ (vs.map pi) H Q I r) (λv m d=>?_) λe m d=>d);obtain⟨x,n,J,j,q⟩:=d;exact⟨x,n,J.os,J.bare,J.base,J.hok,j,q⟩
end
structure RoomQ(k:Nat)(A:Around):Prop where
 dp:A.depth+3*k+5<recursionLimit
 un:A.units+16*k+200<cLine
structure FnOkQ(P:Program)(w:World)(K:oe)(mg:Str->Option Value)(base:Heap)(CX:CXT)(k:Nat)(f:Addr)(fd:FuncData)(ps:List Str)(sp:Sp):Prop where
 len: ∀vs H Q E,sp vs H Q E->vs.length=ps.length
 run: ∀(A:Around) (outer:List qm) (s:Shared) (H:Hp) (args:Args) (us:List Value) (vs:List V) (Q:VK) (E:XK),RoomQ k A->Env0 P w K mg base A outer s H->BindsTo s fd args (ps.zip us)->cD vs us->sp vs H Q E->
  codeAny (model P w) A (.call (.ref f) args) (CR CX outer P w H s Q E) s
noncomputable def qX(X:Cx)(A:Around)(Ex:ce):Cx:={X with A:=A,calm:=q7,xe:=Ex}
section
variable{σ:St}
def KN(hA:A.frames=X.A.frames)(I:Inv X cc σ H s):Inv (qX X A Ex) cc σ H s:=
 ⟨⟨I.ok.mod,I.ok.kind,I.ok.glob,I.ok.blt,I.ok.above,I.ok.inj,I.ok.has,I.ok.cab,(λz=>(bf z).elim),hA.trans I.ok.frames,I.ok.stk,I.ok.exf,I.ok.bs,I.ok.bsz,I.ok.noex,I.ok.exfs,I.ok.funs,I.ok.frf⟩,I.os,I.bare,I.base,I.loc,I.cell,I.free,I.freeC,I.pin,I.hok,I.len⟩
def KO(h:Cx.Ok X)(I:Inv (qX X A Ex) cc σ H s):Inv X cc σ H s:=
 ⟨h,I.os,I.bare,I.base,I.loc,I.cell,I.free,I.freeC,I.pin,I.hok,I.len⟩
end
section
variable{ad:Ad}{i:Nat}{q1:Str}{F:Fn}
def CZ(hi:X.N[i]? =pi en)(hv:Vis X.env.scope en)(hde:(en==gV)=q7)(hdc:(en==hK)=q7)(hg:L2.Gl X x)(hm:X.mg x=pi (.ref fa))(hdb:(x==gV)=q7)(hk:mh X.K (.ref fa)=qz)(hf:FnOkQ X.prog X.w X.K X.mg X.base (CXe X.prog X.w) kf fa fd [q1] (xT X.K ad 1 F))(hb:eA X.K fd [q1] [])(hr:RoomQ kf X.A)(he:starEach [.Name en p2] X.env=(q7,eval (.Name en p2) X.env)::starEach [] X.env)(hpl:(backTo pos (starEach [] X.env)).any (·.1)=q7):
  PE X (.Call (.Name x p) [.Name en p2] [] pos) (λσ H Q=>σ[i]? =pi (pi (.ref ea))/\xT X.K ad 1 F [.ref ea] H Q λ_ _ _=>False):=by
 rintro o s σ H Q I ⟨j,d⟩;refine wpAny_Call_Name_kw (eT I hg hm ?_ hdb);refine i0 (h₀:=X.base) I.ok.mod.kin hk (L2.thn (cJ (yR hi hv hde hdc) eP he pos o s σ H (λg f=>g=[.ref ea]/\f=H) I ⟨.ref ea,j,rfl,rfl⟩) λc h ⟨g,f,b,r,q,n⟩=>⟨b.kIn,?_⟩) he hpl;subst q n;have m:(c++[]).length=[q1].length:=by rw[k7, <-r.length];rfl
 refine wpAny_call (codeAny_mono (hf.run X.A X.stack h f ⟨c,[]⟩ c [.ref ea] Q (λ_ _ _=>False) hr b.env0 (by have:=hb h c b.kIn m;rwa [k7]at this) r d) λr t a=>?_);rcases r with e|l;obtain⟨_,_,_,_,_,_,_,_,_,_,_,_,_,_,z⟩:=a;exact z.elim;cases l with
 |ret u=>exact b.after a
 |next=>exact ba a
 |brk=>exact ba a
 |cont=>exact ba a
end
section
variable{ad:Ad}{σ:St}
def xW{i:Nat}{F}{q1}(F0:Fram X)(hN:X.N.Nodup)(hi:X.N[i]? =pi en)(hil:X.env.scope.names.lookup en=pi .local)(hic:(en==hK)=q7)(hgx:L2.Gl X x)(hmx:X.mg x=pi (.ref fa))(hdx:(x==gV)=q7)(hkx:mh X.K (.ref fa)=qz)(hfx:FnOkQ X.prog X.w X.K X.mg X.base (CXe X.prog X.w) kf fa fd [q1] (xT X.K ad 1 F))(hbx:eA X.K fd [q1] [])(hrq: ∀v,RoomQ kf (X.A.mark v))(hg:L2.Gl X cx)(hm:X.mg cx=pi (.ref (ad.cls 0)))(hdb:(cx==gV)=q7)(hde:(en==gV)=q7)(hx:exmOne X.K (.ref (ad.cls c)) (.ref (ad.cls 0))=pi qz)(I:Inv X cc σ H s)(ho:s'.os=s.os)(hgn:AllBare s'.gens)(fly:Heap.FlyingW B X.stack ea (.ref (ad.cls c)) a0 s'.heap)(un:Un (frs X.stack) [] H H' s.heap s'.heap)(hok:HOk X.prog X.w H' s'.heap)(ne:H' ea=qw)(c8: ∀b o,s.heap.get? b=pi o->b∉frs X.stack->∃o',B.get? b=pi o')(c9: ∀b o,H' b=pi o->∃o',B.get? b=pi o')(hGe: ∃G,Same G (upd H' ea (El (ad.cls c) ea))/\Rep X.K ad G (.exc c) (.ref ea)/\RK X.K ad G (upd H' ea (El (ad.cls c) ea)) (F [.exc c]) D'.rt λ_ _=>False):
  (tX X cc D' (.ExceptHandler (pi (.Name cx cp)) (pi en) [.Return (pi (.Call (.Name x xp) [.Name en ep] [] ap)) rq] hp')).xe (.ref ea) s':=by
 have ar:X.A.frames=pi (X.env::X.outer):=by rw[<-F0.stk];exact I.ok.frames
 have Q: ∀{h:Heap},h.FunFrames B X.stack->∀b∈frs X.stack, ∀o,h.get? b=pi o->∀C,o.data≠ .fields C:=λff b Y o e=>by
  obtain⟨_,o2,Z,nf⟩:=ff.mem (b:=b) Y;rw[e]at Z;cases Z;exact nf
 have O: ∀l:Heap,B.StaysIn l->s'.heap.UpToSlots l->Inv X cc σ H' {s' with heap:=l}:=λl st2 up=>
  I.call' (ch:=[]) (s':={s' with heap:=l}) ho (N1 un fly.1 st2 up (Q fly.2.2.1) c8) (KG hok fly.1 st2 c9) hgn λb Y=>by simp at Y
 have f:s.heap.get? ea=qw:=by
  cases e:s.heap.get? ea with
  |none=>rfl
  |some o=>
   by_cases hf:ea∈frs X.stack
   .obtain⟨J,C,_,_,_,t,_,r,_⟩:=fly.2.2.2;exact absurd r (Q fly.2.2.1 ea hf J t C)
   .obtain⟨o',e'⟩:=c8 ea o e hf;rw[fly.2.1]at e';cases e'
 show X.wp (noteFrame (.ref ea) X.env) _ X.xe s';have j:=fly;rw[F0.stk]at j;refine wpAny_looks_onW ar F0.fr j λh1 E ab=>?_
 refine wpAny_landsW E λl g an=>?_
 have q:=ab.trans an;have L:=O l g.1 q;refine wpAny_handleBy_cons (codeAny_handlers_test ?_) (by intro z;cases z)
 refine dw L.ok.kind hg (Calls.loadGlobal_global (by rw[L.ok.glob];exact L.mod.glob.keeps L.bk) hm ?_) hdb
 have LT:Looks (model X.prog X.w) l (typeOf (.ref ea)) (.ref (ad.cls c)):=by
  obtain⟨J,C,_,_,_,t,⟨U,_⟩,r,_⟩:=g.2.2.2;exact U▸(Looks.ld t).andThen .now
 refine(exm_one (K:=X.K) L.kIn LT hx).at ?_;show codeAny _ _ _ _ _;refine codeAny_handlers_suite_as ?_;refine lands_againW g λh3 n ag=>?_
 have J3:=O h3 n.1 (q.trans ag)
 have T:oS h3 ea (ad.cls c):=by
  obtain⟨J,C,_,_,_,t,⟨U,_⟩,r,_⟩:=n.2.2.2;exact⟨J,C,t,U,r⟩
 have J4:Inv X cc σ (upd H' ea (El (ad.cls c) ea)) {s' with heap:=h3}:=by
  refine J3.track ne ?_ (λz=>?_) (λy d r z=>?_) (λp hp z=>?_) ?_
  .cases e:X.s₀.heap.get? ea with
   |none=>rfl
   |some o=>
    obtain⟨o',e1⟩:=I.base.there ea o e (by rw[F0.ex];simp)
    rw[f]at e1;cases e1
  .obtain⟨m,hn,_⟩:=I.loc;obtain⟨o,_,_,a,_⟩:=hn;rw[<-z,f]at a;cases a
  .obtain⟨v,o,a,_⟩:=I.cell y d r;rw[z,f]at a;cases a
  .obtain⟨a,_⟩:=I.pin p hp;rw[z,f]at a;cases a
  .obtain⟨J,C,t,U,r⟩:=T;refine⟨⟨J,C,t,U,r⟩,⟨J,t⟩,?_⟩;rintro ha Y ⟨o1,v1,e1,Z,e3⟩ k;exact⟨o1,v1,k _ e1,Z,e3⟩
 refine hJ J4 hN hi (.inl hil) (v:=.ref ea) rfl (λs5 J5=>?_) (.inr hil)
 have am:i<σ.length:=by rw[J4.len];exact(ay.mp hi).1
 have al:(σ.set i (pi (.ref ea)))[i]? =pi (pi (V.ref ea)):=bj am
 obtain⟨G,sG,rG,hq⟩:=hGe
 refine wpAny_mono (oH (u6 (CZ (X:=qX X (X.A.mark (pi (.ref ea))) _) (i:=i) (ea:=ea) hi (.inl hil) hde hic hgx hmx hdx hkx hfx hbx (hrq _) rfl rfl)) cc s5 (σ.set i (pi (.ref ea))) _ ⟨λ_ _=>False,λv H1=>D'.rt v H1,λ_ _=>False,λ_ _=>False⟩ (KN rfl J5) ⟨al,G,[.exc c],sG,?_,rfl,hq⟩) (λfl s6 hs=>?_) λ_ _ h=>h
 .unfold aJ;exact⟨.ref ea,[],rfl,rG,by unfold aJ;rfl⟩
 .cases fl with
  |next=>obtain⟨_,_,_,z⟩:=hs;exact z.elim
  |brk=>obtain⟨_,_,_,z⟩:=hs;exact z.elim
  |cont=>obtain⟨_,_,_,z⟩:=hs;exact z.elim
  |ret u=>
   obtain⟨v,S,H6,ak,r6,q6⟩:=hs;have J6:Inv X cc S H6 s6:=KO J4.ok ak;have M:i<S.length:=by rw[J6.len];exact(ay.mp hi).1
   show wpAny _ _ (do bindName X.env en .none;unbindBehindTheSuite X.env en hp') _ _ s6
   refine aa (wpAny_bindName (hJ J6 hN hi (.inl hil) (v:=.non) rfl (λs7 J7=>?_) (.inr hil)))
   unfold unbindBehindTheSuite;refine wpAny_onRaise (CO J7 hN hi hil (v:=.non) (bj M) λs8 J8=>?_)
   exact⟨v,_,_,J8,r6,q6⟩
end
noncomputable def o8(F:Fn):R->R
 |.ok d=>.ok d
 |.ow xs=>.ow xs
 |.ex c=>match F [.exc c]with
  |.ok d=>.ok d
  |.ow xs=>.ow xs
  |_=>.bad
 |.bad=>.bad
section
variable{dn en x cx:Str}{cp xp ep ap hp' rq np dp rp tp:Pos}
noncomputable def k9(dn en x cx:Str)(cp xp ep ap hp' rq np dp rp tp:Pos):Stmt:=
 .Try [.Return (pi (.Call (.Name dn np) [] [] dp)) rp] [.ExceptHandler (pi (.Name cx cp)) (pi en) [.Return (pi (.Call (.Name x xp) [.Name en ep] [] ap)) rq] hp'] [] [] tp
end
abbrev mF(h:Heap)(z TI TO T:Addr)(f:Bool):Prop:=h.get? z=pi {cls:=.type "zip",dict:=qw,data:=.fields #[rawInt T,.bool f,.bool q7,.ref TI,.ref TO],slots:= #[]}
section
variable{Ex:ce}
def KP(ho:s.heap.get? a=pi o)(h:Q (pi o) s):wpAny (model prog w) A (loadIfAlive a) Q Ex s:=by
 have b:Q (s.heap.get? a) s:=by rw[ho];exact h
 exact λ_ _ _=>b
def KQ{z TI TO T}(hz:mF s.heap z TI TO T f)(hT:s.heap.get? T=pi o)(hQ: ∀h',mF h' z TI TO T qz->oq z s.heap h'->Q q7 {s with heap:=h'}):
  wpAny (model prog w) A (dm (.ref z)) Q Ex s:=by
 unfold dm;refine aa (wpAny_field hz rfl (x:=rawInt T) rfl ?_);show wpAny _ _ (loadIfAlive ((T:Int).toNat) >>= _) _ _ _;rw[jr];refine aa (KP hT ?_);simp only[Option.isNone_some,az,if_false];refine aa (wpAny_field hz rfl (x:=.bool f) rfl ?_);rcases f with _|_;rw[if_pos (show(p3 q7 != p3 qz)=qz from rfl)];refine aa (wpAny_setField_rec hz (by simp) λc b a=>?_);exact ac (hQ c b a);rw[if_neg (show ¬((p3 qz != p3 qz)=qz) from bf)];exact ac (hQ s.heap hz (oq.refl _ _))
def AH{z TI TO i1 i2 l1 l2 T}(D:ZipApart z TI TO i1 i2 l1 l2)(hz:mF s.heap z TI TO T f)(hT:s.heap.get? T=pi o)(hTI:IsPair s.heap TI (.ref i1) (.ref i2))(h1:ItA s.heap i1 l1 k1)(h2:ItA s.heap i2 l2 k2)(hl1:SeA s.heap l1 xs)(hl2:SeA s.heap l2 ys)(hx:xs[k1]? =pi x)(hy:ys[k2]? =pi y)(hQ: ∀h',mF h' z TI TO T qz->ItA h' i1 l1 (k1+1)->ItA h' i2 l2 (k2+1)->IsPair h' s.z x y->h'.objs.size=s.z+1->
   (∀c o,c≠z->c≠i1->c≠i2->s.heap.get? c=pi o->h'.get? c=pi o)->Q (pi (.ref s.z)) {s with heap:=h'}):wpAny (model prog w) A (pyNext (.ref z)) Q Ex s:=by
 have g:s.TypeIs (.ref z) "zip":=⟨_,hz,rfl⟩;unfold pyNext;refine aa (wpAny_attempt (wpAny_callSpecial?_slot (name:=pc "__next__") g lr (wpAny_call_entry lr g kj ?_ (js _))));show wpAny _ _ (field (.ref z) 2 >>= _) _ _ _;refine aa (wpAny_field hz rfl (x:=.bool q7) rfl ?_);show wpAny _ _ (field (.ref z) 3 >>= _) _ _ _;refine aa (wpAny_field hz rfl (x:=.ref TI) rfl (aa (wpAny_seqItems hTI rfl ?_)));show wpAny _ _ (dm (.ref z) >>= _) _ _ _;refine aa (KQ hz hT λu r b=>?_);simp only[az,if_false];refine aa ?_;simp only[Array.forIn_toList,List.forIn_toArray,lm,mo];refine aa (aa (wpAny_holding ?_));show wpAny _ _ (ee (.ref i1) >>= _) _ _ _;refine aa (fD (bZ h1 b D.i1z) (eX hl1 b D.l1z) hx λt p d=>ac ?_);refine ac (aa (aa (wpAny_holding ?_)));show wpAny _ _ (ee (.ref i2) >>= _) _ _ _;refine aa (fD (bZ (bZ h2 b D.i2z) d D.i12.symm) (eX (eX hl2 b D.l2z) d D.l2i1) hy λa q h=>ac ?_);refine ac (ac (aa (wpAny_newTuple (hsz:=by rw[sizeLine_eq];simp) ?_)));have hsz:a.objs.size=s.z:=by rw[h.1,d.1,b.1]
 have m:mF a z TI TO T qz:=(h.2 _ D.i2z.symm).trans ((d.2 _ D.i1z.symm).trans r);have n: ∀c o,c≠z->c≠i1->c≠i2->s.heap.get? c=pi o->a.get? c=pi o:=λc o j i l e=>(h.2 _ l).trans ((d.2 _ i).trans ((b.2 _ j).trans e));have up: ∀{c:Addr} {x':Obj},a.get? c=pi x'->(a.push {cls:=.type "tuple",data:=.seq #[x,y]}).get? c=pi x':=λe=>ae _ e;refine ac ⟨_,rfl,ac ?_⟩;show Q (pi (.ref a.objs.size)) _;rw[hsz];refine hQ _ (up m) ?_ ?_ (by rw[<-hsz];exact af _ rfl) (by rw[ai,hsz]) λc o j i l e=>up (n c o j i l e);exact dF (bZ p h D.i12) λo e=>up e;exact dF q λo e=>up e
def C1{z TI TO i1 i2 l1 l2 T}(hh:A.handled=qw)(D:ZipApart z TI TO i1 i2 l1 l2)(hz:mF s.heap z TI TO T f)(hT:s.heap.get? T=pi o)(hTI:IsPair s.heap TI (.ref i1) (.ref i2))(h1:ItA s.heap i1 l1 k1)(h2:ItA s.heap i2 l2 k2)(hl1:SeA s.heap l1 xs)(hl2:SeA s.heap l2 ys)(he:xs[k1]? =qw\/ys[k2]? =qw)(hQ: ∀h',(∀c o,c≠z->c≠TO->c≠i1->c≠i2->s.heap.get? c=pi o->h'.get? c=pi o)->Q qw {s with heap:=h'}):wpAny (model prog w) A (pyNext (.ref z)) Q Ex s:=by
 have i:s.TypeIs (.ref z) "zip":=⟨_,hz,rfl⟩;unfold pyNext;have d: ∀(h':Heap) (e:Addr),(∀c o,c≠z->c≠TO->c≠i1->c≠i2->s.heap.get? c=pi o->h'.get? c=pi o)->(∃o,h'.get? e=pi o/\o.cls= .type "StopIteration")->wpAny (model prog w) A (do if(<-isInstance (.ref e) (.type "StopIteration"))=qz then pure qw else throw (.ref e)) Q Ex {s with heap:=h'}:=λh' e p he=>by
  obtain⟨o,r,q⟩:=he;exact aa (wpAny_isInstance (T:="StopIteration") (b:=qz) ⟨o,r,q⟩ isSubtype_stop (ac (hQ _ p)))
 refine aa (wpAny_attempt (wpAny_callSpecial?_slot (name:=pc "__next__") i lr (wpAny_call_entry lr i kj ?_ (js _))));show wpAny _ _ (field (.ref z) 2 >>= _) _ _ _;refine aa (wpAny_field hz rfl (x:=.bool q7) rfl ?_);show wpAny _ _ (field (.ref z) 3 >>= _) _ _ _;refine aa (wpAny_field hz rfl (x:=.ref TI) rfl (aa (wpAny_seqItems hTI rfl ?_)));show wpAny _ _ (dm (.ref z) >>= _) _ _ _;refine aa (KQ hz hT λC E a=>?_);simp only[az,if_false];refine aa ?_;simp only[Array.forIn_toList,List.forIn_toArray,lm,mo];refine aa (aa (wpAny_holding ?_));show wpAny _ _ (ee (.ref i1) >>= _) _ _ _;rcases j:xs[k1]? with _|x;refine aa (jI hh (bZ h1 a D.i1z) (eX hl1 a D.l1z) j λn e g he=>?_);exact d n e (λc o m _ l _ x=>g _ _ l ((a.2 _ m).trans x)) he;have v:ys[k2]? =qw:=he.resolve_left λh=>by rw[j]at h;cases h
 refine aa (fD (bZ h1 a D.i1z) (eX hl1 a D.l1z) j λn B g=>ac ?_);refine ac (aa (aa (wpAny_holding ?_)));show wpAny _ _ (ee (.ref i2) >>= _) _ _ _;refine aa (jI hh (bZ (bZ h2 a D.i2z) g D.i12.symm) (eX (eX hl2 a D.l2z) g D.l2i1) v λu e t he=>?_);exact d u e (λc o m G l y x=>t _ _ y ((g.2 _ l).trans ((a.2 _ m).trans x))) he
end
def ZS(z TI TO i1 i2 l m N:Addr)(i:Nat)(h:Heap):Prop:=
 (IsZip h z TI TO .none\/∃T f o,mF h z TI TO T f/\N<=T/\h.get? T=pi o)/\IsPair h TI (.ref i1) (.ref i2)/\(∃a b,IsPair h TO a b)/\ItA h i1 l i/\ItA h i2 m i
structure ZB(z TI TO i1 i2 N:Addr):Prop where
 z:z<N
 TI:TI<N
 TO:TO<N
 i1:i1<N
 i2:i2<N
section
variable{Ex:ce}{TI TO:Addr}
def ZS.keep(B:ZB z TI TO i1 i2 N)(q:ZS z TI TO i1 i2 l m N i h)(k: ∀c o,(c=z\/c=TI\/c=TO\/c=i1\/c=i2\/N<=c)->h.get? c=pi o->h'.get? c=pi o):ZS z TI TO i1 i2 l m N i h':=by obtain⟨d,q1,⟨a,b,j⟩,g,n⟩:=q;refine⟨?_,k _ _ (by simp) q1,⟨a,b,k _ _ (by simp) j⟩,dF g λo e=>k _ o (by simp) e,dF n λo e=>k _ o (by simp) e⟩;rcases d with d|⟨T,f,o,d,hN,hT⟩;exact .inl (k _ _ (by simp) d);exact .inr ⟨T,f,o,k _ _ (by simp) d,hN,k _ _ (by simp[hN]) hT⟩
def GP(D:ZipApart z TI TO i1 i2 l m)(B:ZB z TI TO i1 i2 N)(hN:N<=s.z)(q:ZS z TI TO i1 i2 l m N i s.heap)(hl1:SeA s.heap l xs)(hl2:SeA s.heap m ys)(hx:xs[i]? =pi x)(hy:ys[i]? =pi y)(hQ: ∀h',ZS z TI TO i1 i2 l m N (i+1) h'->IsPair h' s.z x y->h'.objs.size=s.z+1->
   (∀c o,c≠z->c≠TO->c≠i1->c≠i2->s.heap.get? c=pi o->h'.get? c=pi o)->Q (pi (.ref s.z)) {s with heap:=h'}):wpAny (model prog w) A (pyNext (.ref z)) Q Ex s:=by
 obtain⟨g,q1,⟨a,b,t⟩,v,u⟩:=q;rcases g with g|⟨T,f,o,g,hT,hTo⟩;refine rV D g q1 t v u hl1 hl2 hx hy λh' n I j r h p d=>hQ h' ⟨.inr ⟨_,q7,_,n,hN,h⟩,d _ _ D.TIz D.TITO D.TIi1 D.TIi2 q1,⟨_,_,I⟩,j,r⟩ h p d;have G:=B.z;have E:=B.i1;have C:=B.i2;have L:=B.TO;refine AH D g hTo q1 v u hl1 hl2 hx hy λh' n j r h p d=>hQ h' ⟨.inr ⟨T,qz,_,n,hT,d _ _ ?_ ?_ ?_ hTo⟩,d _ _ D.TIz D.TIi1 D.TIi2 q1,⟨_,_,d _ _ D.TOz D.TOi1 D.TOi2 t⟩,j,r⟩ h p λc o J M H K e=>d c o J H K e;exact ou (bg G hT);exact ou (bg E hT);exact ou (bg C hT)
def KR(hh:A.handled=qw)(D:ZipApart z TI TO i1 i2 l m)(q:ZS z TI TO i1 i2 l m N i s.heap)(hl1:SeA s.heap l xs)(hl2:SeA s.heap m ys)(he:xs[i]? =qw\/ys[i]? =qw)(hQ: ∀h',(∀c o,c≠z->c≠TO->c≠i1->c≠i2->s.heap.get? c=pi o->h'.get? c=pi o)->Q qw {s with heap:=h'}):wpAny (model prog w) A (pyNext (.ref z)) Q Ex s:=by obtain⟨d,q1,⟨a,b,h⟩,g,e⟩:=q;rcases d with d|⟨T,f,o,d,hT,hTo⟩;exact vW hh D d q1 h g e hl1 hl2 he hQ;exact C1 hh D d hTo q1 g e hl1 hl2 he hQ
end
def Step.put(st:Step G H G' H')(n:H S=qw)(g:G' S=qw):Step G H G' (upd H' S o):=
 ⟨st.sg,λb u e=>by rw[aC (aO e g)];exact st.gh b u e,λb u e=>by rw[aC (aO e n)];exact st.sh b u e,st.nw⟩
section
variable{ad:Ad}{σ:L2.St}{TI TO:Addr}{R:Result->Shared->Prop}
noncomputable abbrev pD(ds es:L1 D):L1 D:=(ds.zip es).map λp=>D.tup [p.1,p.2]
def C2(hh:A.handled=qw)(D:ZipApart z TI TO i1 i2 l m)(B:ZB z TI TO i1 i2 N)(hSN:S<N)res(hq1:SqT X.K G0 l xs)(hq2:SqT X.K G0 m ys)(hr1:aJ X.K ad G0 ds xs)(hr2:aJ X.K ad G0 es ys)(hS0:H0 S=qw):
  ∀k i G H s acc c vs,(pD ds es).length-i=k->i<=(pD ds es).length->N<=s.z->Inv X cc σ H s->(∀b∈[z,TI,TO,i1,i2],oJ X cc H b)->Step G0 H0 G H->G S=qw->H S=pi (.lst vs)->
   ZS z TI TO i1 i2 l m N i s.heap->s.heap.get? S=pi {cls:=.type "list",dict:=qw,data:=.seq acc c,slots:= #[]}->cD vs acc.toList->aJ X.K ad G ((pD ds es).take i) vs->
   (∀s' G' H' vs',Inv X cc σ H' s'->Step G0 H0 G' H'->G' S=qw->H' S=pi (.lst vs')->aJ X.K ad G' (pD ds es) vs'->R (.ok (.ret res)) s')->
   codeAny (model X.prog X.w) A (.builtin "list.extend.loop" ⟨[.ref S,.ref z,res],[]⟩) R s:=by
 intro k
 induction k with
 |zero=>
  intro i G H s acc c vs hk hi n I E f gS O Z C T t hR
  have M:i=(pD ds es).length:=by lia
  obtain⟨us,r1,p1,_⟩:=eW I (bA f.gh (bA f.sg hq1));obtain⟨ws,r2,U,_⟩:=eW I (bA f.gh (bA f.sg hq2));have n1:=r1.length;have n2:=r2.length;have n3:=hr1.length;have n4:=hr2.length;refine codeAny_builtin F.entry_extend_loop ?_;rw[ia ik _];show wpAny _ A.in1 (pyNext (.ref z) >>= _) _ _ s;refine aa (KR hh D Z p1 U ?_ λr kp=>?_)
  .simp only[pD,aq,ly]at M
   by_cases q:us.length<=i
   .exact .inl (by simpa using q)
   .exact .inr (by simp;lia)
  .have I2:Inv X cc σ H {s with heap:=r}:=gZ (t':=s.toks) I (λb o a e=>by
    simp only[av,kh,or_false,not_or]at a;exact kp b o a.1 a.2.2.1 a.2.2.2.1 a.2.2.2.2 e) E
   refine ac (hR _ G H vs I2 f gS O ?_);rw[M,kd]at t;exact t
 |succ k ih=>
  intro i G H s acc c vs hk hi n I E f gS O Z C T t hR;have j:i<(pD ds es).length:=by lia
  obtain⟨us,r1,p1,z1⟩:=eW I (bA f.gh (bA f.sg hq1));obtain⟨ws,r2,U,_⟩:=eW I (bA f.gh (bA f.sg hq2));obtain⟨d1,d2,e1,Y,hd⟩:=AE (bd j);obtain⟨x,g1,q1⟩:=hr1.get e1;obtain⟨y,g2,q2⟩:=hr2.get Y;obtain⟨u,hu,ru⟩:=r1.get g1;obtain⟨v,hw,rv⟩:=r2.get g2;have n3:=hr1.length
  have nv:vs.length=i:=by rw[t.length,j3];lia
  have na:acc.size=i:=by have:=T.length;simp at this;lia
  have il:i+1<=sizeLine:=by simp only[pD,aq,ly]at j;lia
  refine codeAny_builtin F.entry_extend_loop ?_;rw[ia ik _];show wpAny _ A.in1 (pyNext (.ref z) >>= _) _ _ s;refine aa (GP D B n Z p1 U (x:=u) (y:=v) (by simpa using hu) (by simpa using hw) λr ab a5 a6 a7=>?_)
  have ag:H s.z=qw:=I.hok.fresh (aj _)
  have Ia:Inv X cc σ (upd H s.z (.tup [x,y])) {s with heap:=s.heap.push {cls:=.type "tuple",data:=.seq #[u,v]} }:=
   I.laid (t':=s.toks) (λb o e=>ae _ e) (aj _) (show ObjOk X.prog X.w _ _ _ (.tup [x,y]) from⟨by rw[sizeLine_eq];simp,[u,v],.cons ru (.cons rv .nil),⟨_,af _ rfl,rfl,_,rfl⟩,⟨_,af _ rfl,rfl⟩⟩)
  have bz:=B.z;have b1:=B.i1;have b2:=B.i2;have b3:=B.TO;have b4:=B.TI
  have W: ∀b∈[z,TI,TO,i1,i2],b≠s.z:=λb a=>by
   simp only[av,kh,or_false]at a;rcases a with rfl|rfl|rfl|rfl|rfl
   .exact bh (bg bz n)
   .exact bh (bg b4 n)
   .exact bh (bg b3 n)
   .exact bh (bg b1 n)
   .exact bh (bg b2 n)
  have L:S≠s.z:=bh (bg hSN n)
  have d: ∀b∈[z,TI,TO,i1,i2],b≠S:=λb a e=>by
   have:=(E b a).1
   rw[e,O]at this;cases this
  have p: ∀b∈[z,TI,TO,i1,i2],oJ X cc (upd H s.z (.tup [x,y])) b:=λb a=>⟨by rw[aC (W b a)];exact(E b a).1,(E b a).2⟩
  have Ib:Inv X cc σ (upd H s.z (.tup [x,y])) {s with heap:=r}:=by
   refine gZ (s:={s with heap:=s.heap.push {cls:=.type "tuple",data:=.seq #[u,v]} }) (t':=s.toks) Ia (λb o a e=>?_) p
   simp only[av,kh,or_false,not_or]at a
   by_cases hq:b=s.z
   .subst hq;rw[show(s.heap.push {cls:=.type "tuple",data:=.seq #[u,v]}).get? s.z=pi _ from af _ rfl]at e
    cases e;exact a5
   .have Y:s.heap.get? b=pi o:=by
     exact(jt _ b _ hq).symm.trans e
    exact a7 b o a.1 a.2.2.1 a.2.2.2.1 a.2.2.2.2 Y
  have Q:(upd H s.z (.tup [x,y])) S=pi (.lst vs):=by rw[aC L];exact O
  have g:r.get? S=pi {cls:=.type "list",dict:=qw,data:=.seq acc c,slots:= #[]}:=a7 S _ (qu (d z (by simp))) (qu (d TO (by simp))) (qu (d i1 (by simp))) (qu (d i2 (by simp))) C
  have st1:Step G H (upd G s.z (.tup [x,y])) (upd H s.z (.tup [x,y])):=Step.new f.gh ag
  have rp:Rep X.K ad (upd G s.z (.tup [x,y])) (.tup [d1,d2]) (.ref s.z):=by
   unfold Rep;exact⟨_,[x,y],rfl,SqT.of aH,aJ.cons (q1.mono (f.sg.trans st1.sg)) (aJ.cons (q2.mono (f.sg.trans st1.sg)) aJ.nil)⟩
  have J:(upd G s.z (.tup [x,y])) S=qw:=by rw[aC L];exact gS
  show wpAny _ A.in1 (updateSeq S (·.push (.ref s.z)) >>= _) _ _ _
  refine aa ?_
  have yW:cD (vs++[.ref s.z]) (acc.push (.ref s.z)).toList:=by
   rw[Array.toList_push];exact T.append (.cons rfl .nil)
  refine wpAny_updateSeq g rfl (ac ⟨plainId_quiet ik _,ih (i+1) (upd G s.z (.tup [x,y])) (upd (upd H s.z (.tup [x,y])) S (.lst (vs++[.ref s.z]))) _ (acc.push (.ref s.z)) _ (vs++[.ref s.z]) (by lia) j ?_ ?_ ?_ ((f.trans st1).put hS0 J) J aH (ZS.keep B ab λc o h e=>?_) (gm _ g rfl) yW ?_ hR⟩)
   (by rw[na];lia) (by show(acc.push _).size<=sizeLine+1;rw[Array.size_push,na];lia)
  .show N<=(r.update S _).objs.size;rw[kn,a6];exact Nat.le_succ_of_le n
  .refine Inv.write (t':=s.toks) Ib (x:=S) (e:=S) (by rw[Q];trivial) (.inl rfl) (λb o a e=>(fz _ _ (qu a)).trans e) ⟨_,gm _ g rfl⟩ ?_
   exact show ObjOk X.prog X.w _ _ _ (.lst _) from⟨by simp;lia,(acc.push (.ref s.z)).toList,_,yW,by rw[Array.toArray_toList];exact gm (qb (·.push (.ref s.z))) g rfl⟩
  .intro b a;refine⟨?_,(p b a).2⟩;rw[aC (d b a)];exact(p b a).1
  .refine(fz _ _ (λq:S=c=>?_)).trans e
   subst q;rcases h with h|h|h|h|h|h
   .exact d z (by simp) h.symm
   .exact d TI (by simp) h.symm
   .exact d TO (by simp) h.symm
   .exact d i1 (by simp) h.symm
   .exact d i2 (by simp) h.symm
   .exact absurd hSN (Nat.not_lt.mpr h)
  .rw[List.take_succ,bd j,hd];exact(t.mono st1.sg).append (aJ.cons rp aJ.nil)
end
def xX:typeLookup (.type "zip") "__len__"=pure qw:=by rw[typeLookup_type,builtinLookup_eq_fast];kernel_rfl
def uE:typeLookup (.type "zip") "__length_hint__"=pure qw:=by rw[typeLookup_type,builtinLookup_eq_fast];kernel_rfl
section
variable{R:Result->Shared->Prop}
def GQ{z TI TO S}(hz:IsZip s.heap z TI TO .none)(hS:s.heap.get? S=pi {cls:=.type "list",data:=.seq #[] c₀})(hL: ∀h' c,(∀b o,b≠S->s.heap.get? b=pi o->h'.get? b=pi o)->h'.objs.size=s.z->h'.get? S=pi {cls:=.type "list",dict:=qw,data:=.seq #[] c,slots:= #[]}->codeAny (model prog w) A (.builtin "list.extend.loop" ⟨[.ref S,.ref z,res],[]⟩) R {s with heap:=h'}):
  wpAny (model prog w) A.in1 (dv (.ref S) (.ref z) res)
   (λfin s'=>match fin with|.done f=>R (.ok f) s'|.again c'=>c'.quiet=qz/\codeAny (model prog w) A c' R s') (λe s'=>R (.error e) s') s:=by
 have h:S≠z:=λe=>by rw[e,hz]at hS;simp at hS
 have i:s.TypeIs (.ref z) "zip":=⟨_,hz,rfl⟩;unfold dv;refine aa (wpAny_typeOf i ?_);have l:Builtin.List.listSameRef (.ref S) (.ref z)=q7:=by simp[Builtin.List.listSameRef,h]
 have n:(p4 "zip"==p4 "list")=q7:=by decide
 have m:(p4 "zip"==p4 "tuple")=q7:=by decide
 simp only[l,n,m,Bool.or_false,az,if_false];refine aa (wpAny_pyIter_zip hz ?_);refine aa (wpAny_holding ?_);unfold Builtin.List.listLengthHint;refine aa (wpAny_specialOf i xX ?_);show wpAny _ A.in1 (specialOf (qh z) (pc "__length_hint__") >>= _) _ _ _;refine aa (wpAny_specialOf i uE ?_);refine ac ?_;show wpAny _ A.in1 (rule "list.extend.makes-room" >>= λ_=>Builtin.List.listTouch (.ref S) >>= λ_=>
  again (.builtin "list.extend.loop" ⟨[.ref S,.ref z,res],[]⟩)) _ _ _
 refine aa (wpAny_rule ?_);refine aa ?_;show wpAny _ A.in1 (updateSeq S (·.push .none) >>= λ_=>updateSeq S (·.pop)) _ _ _;refine aa (wpAny_updateSeq hS rfl ?_);have a:=gm (qb (·.push pw)) hS rfl;refine wpAny_updateSeq (hz:=by seq_fits) a rfl ?_;have d:=gm (qb (·.pop)) a rfl;have g: ∀b o,b≠S->s.heap.get? b=pi o->((s.heap.update S (qb (·.push pw))).update S (qb (·.pop))).get? b=pi o:=
  λb o j e=>(fz _ _ (qu j)).trans ((fz _ _ (qu j)).trans e)
 exact ac ⟨plainId_quiet ik _,hL _ _ g (by rw[kn,kn]) d⟩
def C3{z TI TO S}(hz:IsZip s.heap z TI TO .none)(hS:s.heap.get? S=pi {cls:=.type "list",data:=.seq #[]})(hL: ∀h' c,(∀b o,b≠S->s.heap.get? b=pi o->h'.get? b=pi o)->h'.objs.size=s.z->h'.get? S=pi {cls:=.type "list",dict:=qw,data:=.seq #[] c,slots:= #[]}->codeAny (model prog w) A (.builtin "list.extend.loop" ⟨[.ref S,.ref z,.none],[]⟩) R {s with heap:=h'}):
  wpAny (model prog w) A.in1 (Builtin.«list.__init__» ⟨[.ref S,.ref z],[]⟩)
   (λfin s'=>match fin with|.done f=>R (.ok f) s'|.again c'=>c'.quiet=qz/\codeAny (model prog w) A c' R s') (λe s'=>R (.error e) s') s:=by
 have i:S≠z:=λe=>by rw[e,hz]at hS;simp at hS
 show wpAny _ _ (do let old<-Builtin.List.listItems (.ref S);Builtin.List.listUpdate (.ref S) (λ_=> #[]);letGo old.toList.reverse;dv (.ref S) (.ref z) .none) _ _ s;refine aa ?_;unfold Builtin.List.listItems;refine aa (wpAny_seqItems hS rfl (ac ?_));show wpAny _ _ (updateSeq S (λ_=> #[]) >>= λ_=>letGo (#[]:Array Value).toList.reverse >>= λ_=>dv (.ref S) (.ref z) .none) _ _ s;refine aa (wpAny_updateSeq hS rfl ?_);have a:=gm (qb (λ_=>(#[]:Array Value))) hS rfl;have d: ∀b o,b≠S->s.heap.get? b=pi o->(s.heap.update S (qb (λ_=>(#[]:Array Value)))).get? b=pi o:=
  λb o g e=>(fz _ _ (qu g)).trans e
 refine aa (wpAny_letGo ?_);refine GQ (d z _ (qu i) hz) a λh' c hk j h=>?_;exact hL h' c (λb o g e=>hk b o g (d b o g e)) (by rw[j];exact kn ..) h
end
section
variable{ad:Ad}{σ:St}
def o9(hc:X.calm=qz)(I:Inv X cc σ H s)(hG:Same G H)(hq1:SqT X.K G l xs)(hq2:SqT X.K G m ys)(hr1:aJ X.K ad G ds xs)(hr2:aJ X.K ad G es ys)(k:RK X.K ad G H (.ow (pD ds es)) Q E):
  X.wp (call (.type "zip") [.ref l,.ref m]) (λv s1=>X.wp (call (.type "list") [v]) (EP X cc σ Q) X.xe s1) X.xe s:=by
 obtain⟨us,_,M,_⟩:=eW I (bA hG hq1);obtain⟨ws,_,L,_⟩:=eW I (bA hG hq2);refine rW M L λa C a2 a3 Z O p S=>?_;have T:l<s.heap.objs.size:=by obtain⟨o,e,_⟩:=M;exact ah e
 have Y:m<s.heap.objs.size:=by obtain⟨o,e,_⟩:=L;exact ah e
 refine callType_codes (Q₁:=λj d=>j= .ref a.objs.size/\d={s with heap:=a.push {cls:=.type "list",data:=.seq #[]} }) F.called_list (F.typeCall_list_1 _) F.entry_list_init
  (code_list_new _ ⟨rfl,rfl⟩) λj d h=>?_
 obtain⟨rfl,rfl⟩:=h;have B:(a.push {cls:=.type "list",data:=.seq #[]}).get? a.objs.size=pi {cls:=.type "list",data:=.seq #[]}:=af _ rfl;have z:IsZip (a.push {cls:=.type "list",data:=.seq #[]}) _ _ _ .none:=ae _ C;refine⟨⟨_,B,rfl⟩,F.args_list_init_2 _ _,C3 (A:=X.A.in1) z B λi c hk hn n=>?_⟩;have ge: ∀b,s.heap.objs.size<=b->oJ X cc H b:=λb g=>I.fpOk g (I.hok.fresh g);have q:H a.objs.size=qw:=I.hok.fresh (by rw[p];exact kl _ _);have up: ∀b o,a.get? b=pi o->i.get? b=pi o:=λb o e=>hk b o (bh (ah e)) (ae _ e);have I2:Inv X cc σ (upd H a.objs.size (.lst [])) {s with heap:=i}:=
  I.laid (t':=s.toks) (λb o e=>up b o (S b o e)) (by rw[p];exact kl _ _) (show ObjOk X.prog X.w _ i _ (.lst []) from⟨by simp,[],c,.nil,n⟩)
 have x:i.objs.size=s.heap.objs.size+6:=by rw[hn];show(a.push _).objs.size=_;rw[ai,p]
 refine C2 (A:=X.A.in1) (ad:=ad) (G0:=G) (H0:=H) (N:=s.heap.objs.size+6) (I.ok.hd hc) (rS T Y) ⟨?_,?_,?_,?_,?_⟩ ?_ .none hq1 hq2 hr1 hr2 q _ 0 G _ {s with heap:=i} #[] c [] rfl (bu _) (Nat.le_of_eq x.symm) I2 (λb g=>?_) (Step.own hG q) (hG.free q) aH
  ⟨.inl (up _ _ C),up _ _ a2,⟨_,_,up _ _ a3⟩,dF Z λo e=>up _ o e,dF O λo e=>up _ o e⟩ n .nil aJ.nil λs' U J u W y t r r'=>?_
 exact im (by decide) _;exact im (by decide) _;exact im (by decide) _;exact Nat.lt_add_of_pos_right (by decide);exact im (by decide) _;rw[p];exact im (by decide) _;have f:s.heap.objs.size<=b/\b≠s.heap.objs.size+5:=by
  simp only[av,kh,or_false]at g;rcases g with rfl|rfl|rfl|rfl|rfl<;>exact⟨by simp,by simp⟩
 exact⟨by rw[aC (by rw[p];exact f.2)];exact(ge b f.1).1,(ge b f.1).2⟩;exact⟨rfl,.ref a.objs.size,J,W,rfl,k _ u U J y q t r r'⟩
def zl:D->D->R
 |.tup xs,.tup ys=>.ow (pD xs ys)
 |_,_=>.bad
def GR:aE xO [qU f g] ρ=(f ρ).bind λx=>(g ρ).bind λy=>zl x y:=by unfold aE lP args args qU;rcases f ρ with x|b|c|_;rcases g ρ with y|a|c|_;cases x<;>cases y<;>rfl;cases x<;>rfl;rfl;rfl;rcases g ρ with y|a|c|_;cases y<;>rfl;rfl;rfl;rfl;rfl;rfl
def uF(hg:L2.Gl X "zip")(hm:X.mg "zip"=qw)(hgl:L2.Gl X "list")(hml:X.mg "list"=qw)(hc:X.calm=qz)(ha:ME X ad a f)(hb:ME X ad b g)(he:starEach [a,b] X.env=(q7,eval a X.env)::starEach [b] X.env)(he2:starEach [b] X.env=(q7,eval b X.env)::starEach [] X.env):
  ME X ad (.Call (.Name "list" p) [.Call (.Name "zip" p2) [a,b] [] pos2] [] pos) (aE xO [qU f g]):=by
 refine λcc s σ H Q I O=>O.el λG ρ E M o r t=>?_;rw[GR]at t;refine Call_ (gR (u:=.type "list") I hgl hml (by decide+kernel) (dt ?_ rfl rfl) (by decide) (by decide));refine iw ?_;refine Call_ (gR (u:=.type "zip") I hg hm (by decide+kernel) (dt ?_ he (by rw[he2];rfl)) (by decide) (by decide));rw[he];refine iw (L2.thn (ha.thn I M o r t) λu s1 c=>?_);obtain⟨v,d,G1,H1,T,C,w,q,J⟩:=c;rw[he2];refine iw (L2.thn (hb.thn T w.gh (o.step w) r J) λA s2 ⟨v2,x,L,B,W,y,st2,S,e⟩=>jh ?_);obtain⟨h,i,N,Z,U⟩: ∃h i,isA h d/\isA i x/\RK X.K ad L B (.ow (pD h i)) Q E:=by
  cases d<;>try exact ba e
  cases x<;>try exact ba e
  exact⟨_,_,rfl,rfl,e⟩
 obtain⟨l,xs,rfl,n,w1⟩:=o7 N (q.mono st2.sg);obtain⟨m,ys,rfl,j,Y⟩:=o7 Z S;cases (show u=qh l from C);cases (show A=qh m from y);exact L2.thn (o9 hc W st2.gh n j w1 Y U) λv s3 z=>jh z
end
theorem vZ{α β:Type}{f g:α->L7 β}: ∀{l:L1 α},(∀x∈l,f x=g x)->l.filterMap f=l.filterMap g
 |[],_=>rfl
 |a::l,h=>by rw[ib,ib,h a (.head _),vZ λx b=>h x (.tail _ b)]
section
variable{X:Cx}{ad:Ad}{cc:cf}{s:Shared}{σ:St}{H G:Hp}{ρ:Rho}{E:St->Nat->Hp->Prop}{pos:Pos}
def N6:V->V->V->Hp->(Hp->Prop)->Prop:=λo i v H Q=>JR o i v H Q\/∃a x es,o= .ref a/\i= .str x/\H a=pi (.dK es)/\es.length<sizeLine/\Q (upd H a (.dK (L2.putK es (.inr x) v)))
def C4(hu:X.A.units+62<cLine):Nm X N6:=λf s j H o i v b iv u Q I e c d h=>by
 rcases h with h|⟨a,x,es,rfl,rfl,ha,hl,q⟩;exact Ci f s j H o i v b iv u Q I e c d h;cases (show b=qh a from e);exact rF (by lia) I (F8.k (k:=.inr x) ha hl) c d λl g=>⟨_,g,q⟩
def KS{K}(h:HR K ad G held kvs)x:(kvs.any λq=>decide (q.1=(qt x:L2.Key)))=held.any λp=>decide (p.1=x):=by
 induction h with
 |nil=>rfl
 |@cons p q c d b t a=>
  rw[nq,nq,a];have e:decide (q.1=(qt x:L2.Key))=decide (p.1=x):=by
   rw[b.1];by_cases z:p.1=x;rw[z];simp;simp[z]
  rw[e]
def v5{K}(h:HR K ad G held kvs)(rv:Rep K ad G y v)x:HR K ad G (fY held x y) (L2.putK kvs (qt x) v):=by
 unfold fY L2.putK;rw[KS h x];by_cases b:(held.any λp=>decide (p.1=x))=qz;rw[if_pos b,if_pos b];clear b;induction h with
 |nil=>exact .nil
 |@cons p q e f a t c=>
  rw[ni,ni];refine .cons ?_ c;by_cases z:p.1=x;have d:q.1=(qt x:L2.Key):=by rw[a.1,z]
  rw[if_pos z,if_pos d];exact⟨a.1,rv⟩;have d: ¬q.1=(qt x:L2.Key):=λy=>z (by rw[a.1]at y;exact pf y);rw[if_neg z,if_neg d];exact a
 rw[if_neg b,if_neg b];clear b;induction h with
 |nil=>exact .cons ⟨rfl,rv⟩ .nil
 |cons a t c=>exact .cons a c
def KU(hu:X.A.units+62<cLine)(hV:kT X i x)(he:ME X ad e f)(hk:ME X ad kx fk)(ha: ∀v,assign (.Subscript (.Name x p) kx tp) X.env v=(do
   let ov<-holding [v] (eval (.Name x p) X.env);let iv<-holding [v,ov] (eval kx X.env);standAt tp;holding [v,ov,iv] (setItem ov iv v);release [v,ov,iv] []))(hs:swapsWithSole [.Subscript (.Name x p) kx tp] e pos.line X.env=pure q7)(hw:swappedStores [.Subscript (.Name x p) kx tp] e X.env=pure qw):
  MS X ad Z (.Assign [.Subscript (.Name x p) kx tp] e pos) (yM i fk f):=by
 refine PS.imp (yU he (JC (bQ hV) hk (C4 hu) ha) hs hw rfl) ?_;rintro Q Y H ⟨c,G,w,E,S,B,T⟩;unfold yM at T;refine f8 S B T λv d G1 H1 l r k=>?_;rcases q:w[i]? with _|sl;rw[q]at k;exact k.elim;rw[q]at k;rcases sl with _|d|M|kvs|d|⟨_,_⟩;exact k.elim;exact k.elim;obtain⟨a,vs,h,U,O,N⟩:=(S.step l).sl.ow q;refine⟨.ref a,h,?_⟩;refine f8 (S.step l) B k λv2 y C H2 st2 n o=>?_;obtain⟨g2,g⟩:=jH st2 U O;cases y<;>try exact ba o
 rename_i j;unfold Rep at n;subst n;have b:OKo X ad c (match ixD M.length j with|some m=>.nx (w.set i (.ow (M.set m d)))|none=>.rt .bad) Q E:=o;rcases K:ixD M.length j with _|m;rw[K]at b;exact b.elim;rw[K]at b;have r4:=N.mono st2.sg;refine .inl ⟨a,vs,j,m,rfl,rfl,g,by rw[N.length, <-EC];exact K,?_⟩;exact b Y C _ (((S.step l).step st2).upd q h g2 (aJ.set (r.mono st2.sg) m r4));obtain⟨a,es,h,U,O,N,h5⟩:=(S.step l).sl.dc q;refine⟨.ref a,h,?_⟩;refine f8 (S.step l) B k λv2 y C H2 st2 n o=>?_;have W:=(S.step l).step st2;obtain⟨I,u,s,g,J,t,ab⟩:=W.sl.dc q;have ea:I=a:=by rw[h]at s;cases s;rfl
 subst ea;cases y<;>try exact ba o
 rename_i z;have b:OKo X ad c (if kvs.length<LIM then .nx (w.set i (.dc (fY kvs z d)))else .rt .bad) Q E:=o;by_cases L:kvs.length<LIM;rw[if_pos L]at b;unfold Rep at n;subst n;have hl:u.length=kvs.length:=(ng t).symm;refine .inr ⟨I,z,u,rfl,rfl,J,by rw[hl];exact bg L (by decide),?_⟩;exact b Y C _ (W.updG q rfl h ⟨I,_,rfl,g,aH,v5 t (r.mono st2.sg) z,trivial⟩);rw[if_neg L]at b;exact b.elim;exact k.elim;exact k.elim
def RK.bool_share{E}(hb:(∃b,r= .ok (.bl b))\/r= .bad)(g:G a=qw)(k:RK X.K ad G H r Q E):RK X.K ad (upd G a (.lst vs)) H r Q E:=by
 rcases hb with ⟨b,rfl⟩|rfl;intro v f l h q;have j:v= .bl b:=by unfold Rep at q;exact q
 subst j;refine k (.bl b) (λc=>if c=a then qw else f c) l ⟨λc u e=>?_,λc u e=>?_,h.sh,λc n m=>?_⟩ dJ;have i:c≠a:=aO e g;show(if c=a then qw else f c)=pi u;rw[if_neg i];exact h.sg c u (by rw[aC i];exact e);have d:(if c=a then qw else f c)=pi u:=e;by_cases z:c=a;rw[if_pos z]at d;cases d;rw[if_neg z]at d;exact h.gh c u d;have d:(if c=a then qw else f c)≠qw:=m;by_cases z:c=a;rw[if_pos z]at d;exact absurd rfl d;rw[if_neg z]at d;exact h.nw c (by rw[aC z];exact n) d;exact k
def GS{E}(hu:X.A.units+62<cLine)(I:Inv X cc σ H s)(hG:Same G H)(qx:Seq X ad G H x v)(qy:Seq X ad G H y w)(ru:bG v u)(rz:bG w z)(k:RK X.K ad G H (eS op x y) Q E):X.wp (compareOp op u z) (EP X cc σ Q) X.xe s:=by
 have l:=zT (op:=op) (x:=x) (y:=y)
 have sh: ∀{G:Hp} {a:Addr} {vs:L1 V} {ds:L1 D},Same G H->H a=pi (.lst vs)->aJ X.K ad G ds vs->Same (upd G a (.lst vs)) H/\Rep X.K ad (upd G a (.lst vs)) (.lst ds) (.ref a):=λ{G a vs ds} hG h2 h3=>by
  have n:G a=qw\/G a=pi (.lst vs):=by
   cases q:G a with
   |none=>exact .inl rfl
   |some o=>rw[hG a o q]at h2;exact .inr h2
  have m:Same G (upd G a (.lst vs)):=λb o e=>by
   by_cases d:b=a
   .subst d;rcases n with q|q
    .rw[q]at e;cases e
    .rw[aH, <-q];exact e
   .rw[aC d];exact e
  refine⟨λb o e=>?_,?_⟩
  .by_cases d:b=a
   .subst d;rw[aH]at e;cases e;exact h2
   .rw[aC d]at e;exact hG b o e
  .unfold Rep;exact⟨a,vs,rfl,SqL.of aH,h3.mono m⟩
 have f: ∀{G:Hp} {a:Addr} {vs:L1 V},G a=qw->Same G (upd G a (.lst vs)):=λg=>Same.upd_new g
 have c: ∀{G:Hp},Same G H->Rep X.K ad G x v->Seq X ad G H y w->RK X.K ad G H (eS op x y) Q E->X.wp (compareOp op u z) (EP X cc σ Q) X.xe s:=λ{G} hG rx qy k=>by
  rcases qy with ry|⟨a,vs,ds,rfl,rfl,g1,h2,h3⟩
  .exact gY op hu cc s σ H G x y v w u z Q E I hG rx ry ru rz k
  .obtain⟨i,h⟩:=sh hG h2 h3;exact gY op hu cc s σ H _ x _ v _ u z Q E I i (rx.mono (f g1)) h ru rz (k.bool_share l g1)
 rcases qx with rx|⟨a,vs,ds,rfl,rfl,g1,h2,h3⟩
 .exact c hG rx qy k
 .obtain⟨i,h⟩:=sh hG h2 h3;refine c i h ?_ (k.bool_share l g1);rcases qy with ry|⟨a',vs',ds',rfl,rfl,g1',h2',h3'⟩
  .exact .inl (ry.mono (f g1))
  .by_cases j:a'=a
   .subst j;rw[h2]at h2';cases h2';refine .inl ?_;unfold Rep;exact⟨a',vs,rfl,SqL.of aH,h3'.mono (f g1)⟩
   .exact .inr ⟨a',vs',ds',rfl,rfl,by rw[aC j];exact g1',h2',h3'.mono (f g1)⟩
def AI{E}(hu:X.A.units+62<cLine)(ha:MLk X ad a f)(hb:MLk X ad b g)(I:Inv X cc σ H s)(hG:Same G H)(hS:SL X.K ad G H ρ σ)(hx:XP X ad σ E)(hr:RK X.K ad G H (bF op f g ρ) Q E):
  X.wp (eval a X.env) (λu s1=>X.wp (eval b X.env) (λz s2=>X.wp (compareOp op u z) (EP X cc σ Q) X.xe s2) X.xe s1) X.xe s:=by
 refine L2.thn (ha cc s σ H G ρ (λx=>(g ρ).bind λy=>eS op x y) Q E I hG hS hx hr) λu s1 d=>?_;obtain⟨v,q,e,p,j,l,st1,q1,m⟩:=d;refine L2.thn (hb cc s1 σ p e ρ (λy=>eS op q y) Q E j st1.gh (hS.step st1) hx m) λz s2 c=>?_;obtain⟨w,B,t,r,n,h,st2,i,o⟩:=c;exact GS hu n st2.gh (Seq.step q1 st2) i l h o
def GT(hu:X.A.units+62<cLine)(ha:MLk X ad a f)(hb:MLk X ad b g)(hm:behindInMarks op b=q7):ME X ad (.Compare a [op] [b] pos) (bF op f g):=by refine λj s m H Q I c=>c.el λG l E e d h i=>?_;exact wpAny_Compare1 (AI hu ha hb I e d h i) hm
def v6{op}{a b}{F'}(hm:behindInMarks op b=q7)
  (go: ∀{cc} {s} {σ:St} {H G} {ρ} {Q} {E},Inv X cc σ H s->Same G H->SL X.K ad G H ρ σ->XP X ad σ E->RK X.K ad G H (F' ρ) Q E->
   X.wp (eval a X.env) (λu s1=>X.wp (eval b X.env) (λz s2=>X.wp (compareOp op u z) (EP X cc σ Q) X.xe s2) X.xe s1) X.xe s):MT X ad (.Compare a [op] [b] pos) F':=by
 refine λcc s σ H Q I f=>f.el λG ρ E o g h r i=>?_;refine wpAny_isTrue_Compare1 (L2.thn (go I o g h i) λv s1 d=>L2.thn d λu s2 n=>L2.thn n λc t p=>?_) hm;obtain⟨x,m,j,l,k,e,q⟩:=p;subst e;cases l;exact wpAny_truthy_bool ⟨m,j,q⟩
def GU(hu:X.A.units+62<cLine)(ha:MLk X ad a f)(hb:MLk X ad b g)(hm:behindInMarks op b=q7):MT X ad (.Compare a [op] [b] pos) (bF op f g):=
 v6 hm λI c h d e=>AI hu ha hb I c h d e
end
section
variable{X:Cx}{ad:Ad}{σ:St}{A:Nat}
def j6(hr:RK X.K ad G H (xQ A i k ρ) Q E): ∃r,ρ[i]? =pi (.rk A r)/\RK X.K ad G H (k r) Q E:=by unfold xQ at hr;rcases e:ρ[i]? with _|c;rw[e]at hr;exact hr.elim;rw[e]at hr;rcases c with _|d|d|d|d|⟨C,r⟩;exact hr.elim;exact hr.elim;exact hr.elim;exact hr.elim;exact hr.elim;have a:RK X.K ad G H (if C=A then k r else .bad) Q E:=hr;by_cases b:C=A;rw[if_pos b]at a;subst b;exact⟨r,rfl,a⟩;rw[if_neg b]at a;exact a.elim
def lA{K}(h:HR K ad G held kvs)x:match bI held x with|none=>lY kvs (qt x)=qw|some d=>∃v,lY kvs (qt x)=pi v/\Rep K ad G d v:=by
 induction h with
 |nil=>exact Cs
 |@cons p q f g a t b=>
  unfold bI;rw[lh];by_cases e:p.1=x;rw[decide_eq_true e];exact⟨q.2,jC (by rw[a.1,e]),a.2⟩;rw[decide_eq_false e];have c: ¬q.1=(qt x:L2.Key):=λz=>e (by rw[a.1]at z;exact pf z);rw[hW c];exact b
def g0(RC:RkC X.K A)(h:RackIn X.K ad A G H p0 r dx d l1 l2)(hi:σ[i]? =pi (pi (.ref p0)))(hf:[(("held":Str),V.ref d),("done",.ref l1),("undone",.ref l2)].lookup fd=pi v)(na:iJ X.K A fd)(q:Q v H):MJ X.K (IY i) fd σ H Q:=
 ⟨.ref p0,hi,p0,A,dx,_,v,rfl,h.ins,RC.cl,na,hf,q⟩
def EK(RC:RkC X.K A)(hV:kT X i x)(bb:Bool):
  ML X ad (.Attribute (.Name x p) (if bb then "done" else "undone") pos) (FX A i bb):=by
 refine PE.imp (gT (bQ hV) rfl) λJ H Q g=>?_;obtain⟨G,s,E,j,o,z,b⟩:=g;unfold FX xQ at b;rcases e:s[i]? with _|t;rw[e]at b;exact b.elim;rw[e]at b;rcases t with _|d|d|d|d|⟨C,r⟩;exact b.elim;exact b.elim;exact b.elim;exact b.elim;exact b.elim;have a:LK X ad G H (if C=A then .ok (.lst (B6 bb r))else .bad) Q E:=b;by_cases f:C=A;rw[if_pos f]at a;subst f;obtain⟨B,I,d,n,u,h,c⟩:=o.rk e;obtain⟨v,m,l⟩:=c.done;obtain⟨q,y,w⟩:=c.undone;cases bb;exact g0 RC c h (fd:="undone") rfl RC.n3 (a _ G H (Step.refl j) (.inr ⟨u,q,_,rfl,rfl,c.g2,y,w⟩));exact g0 RC c h (fd:="done") rfl RC.n2 (a _ G H (Step.refl j) (.inr ⟨n,v,_,rfl,rfl,c.g1,m,l⟩));rw[if_neg f]at a;exact a.elim
def GV(hu:X.A.units+62<cLine)(RC:RkC X.K A)(hV:kT X i x)(hf:ME X ad a f)(hs:NQ a):
  ME X ad (.Subscript (.Attribute (.Name x p) "held" ap) a pos) (Cm A i f):=by
 refine PE.imp (Gc (by lia) (gT (bQ hV) rfl) hf hs) λN H Q g=>?_;obtain⟨G,M,E,z,j,t,b⟩:=g;unfold Cm at b;obtain⟨r,e,b⟩:=j6 b;obtain⟨S,T,d,L,O,o,n⟩:=j.rk e;refine g0 RC n o (fd:="held") rfl RC.n1 ?_;refine fG z j t b λv w s B m l k=>?_;obtain⟨kvs,u,C⟩:=(n.step m).held;cases w with
 |str y=>
  unfold Rep at l;subst l;have h:=lA C y;have c:RK X.K ad s B (match bI r.held y with|some d=>.ok d|none=>.bad) Q E:=k;rcases q:bI r.held y with _|dd;rw[q]at c;exact c.elim;rw[q]at c h;obtain⟨v,J,I⟩:=h;refine⟨d,v,rfl,?_,c.ok_now m.gh I⟩;rw[<-J];exact pZ.k (k:=qt y) u
 |_=>exact ba k
def GW(hu:X.A.units+62<cLine)(RC:RkC X.K A)(hV:kT X i x)(hf:ME X ad a f)(hm:M1 X (.Attribute (.Name x p) "held" pos) "get" ap a cp):
  ME X ad (.Call (.Attribute (.Attribute (.Name x p) "held" pos) "get" ap) [a] [] cp) (Cn A i f):=by
 refine PE.imp (Cu (by lia) (gT (bQ hV) rfl) hf hm) λU H Q m=>?_;obtain⟨G,O,E,w,n,t,c⟩:=m;unfold Cn at c;obtain⟨r,e,c⟩:=j6 c;obtain⟨T,W,d,N,S,s,l⟩:=n.rk e;obtain⟨b,J,_⟩:=l.held;refine g0 RC l s (fd:="held") rfl RC.n1 ⟨d,rfl,.inl ⟨b,.inl J⟩,?_⟩;refine fG w n t c λv L I z j o k=>?_;obtain⟨kvs,u,B⟩:=(l.step j).held;cases L with
 |str y=>
  unfold Rep at o;subst o;have g:=lA B y;have h:RK X.K ad I z (.ok ((bI r.held y).getD .non)) Q E:=k;refine⟨lY kvs (qt y),pZ.k (k:=qt y) u,?_⟩;rcases q:bI r.held y with _|dd;rw[q]at h g;rw[g];exact h.ok_now j.gh (by unfold Rep;rfl);rw[q]at h g;obtain⟨v,C,M⟩:=g;rw[C];exact h.ok_now j.gh M
 |_=>exact ba k
def KW(hu:X.A.units+62<cLine)(RC:RkC X.K A)(hV:kT X i x)(hf:ME X ad a f)(neg:Bool):
  PC X (if neg then .NotIn else .In) a (.Attribute (.Name x p) "held" ap) (tE X ad (Jc neg A i f)):=by
 have M: ∀(b:Bool) (c:St) (H:Hp) (Q:VK),tE X ad (Jc b A i f) c H Q->tE X ad f c H λy u=>MJ X.K (IY i) "held" c u λz w=>∃a o,z= .ref a/\pZ w a y o/\Q (.bl (b != o.isSome)) w:=λb c H Q g=>by
  obtain⟨G,n,E,m,h,l,j⟩:=g;unfold Jc at j;refine fG m h l j λv Z W u B L k=>?_;obtain⟨r,e,k⟩:=j6 k;obtain⟨p0,dx,d,l1,l2,N,C⟩:=(h.step B).rk e;refine g0 RC C N (fd:="held") rfl RC.n1 ?_;obtain⟨kvs,O,S⟩:=C.held;cases Z with
  |str y=>
   unfold Rep at L;subst L;have t:=lA S y;have Y:RK X.K ad W u (.ok (.bl (b != (bI r.held y).isSome))) Q E:=k;refine⟨d,lY kvs (qt y),rfl,pZ.k (k:=qt y) O,?_⟩;have U:(lY kvs (qt y)).isSome=(bI r.held y).isSome:=by
    rcases q:bI r.held y with _|dd;rw[q]at t;rw[t];rfl;rw[q]at t;obtain⟨v,T,_⟩:=t;rw[T];rfl
   rw[U];exact Y.ok_now B.gh (by unfold Rep;rfl)
  |_=>exact ba k
 intro J s c H Q I g;cases neg;refine Ke (by lia) hf (gT (bQ hV) rfl) J s c H Q I ?_;obtain⟨G,n,E,m,h,l,j⟩:=M q7 c H Q g;exact⟨G,n,E,m,h,l,by simpa using j⟩;refine zL (by lia) hf (gT (bQ hV) rfl) J s c H Q I ?_;obtain⟨G,n,E,m,h,l,j⟩:=M qz c H Q g;exact⟨G,n,E,m,h,l,by simpa using j⟩
end
def EL(h1:ltS b a=q7)(h2:ltS c b=q7):ltS c a=q7:=by unfold ltS at *;rw[decide_eq_false_iff_not]at *;rw[List.not_lt]at *;exact List.le_trans h1 h2
def mG(h1:ltS a b=q7)(h2:ltS b a=q7):a=b:=by unfold ltS at *;rw[decide_eq_false_iff_not]at *;rw[List.not_lt]at *;have e:=List.le_antisymm h2 h1;obtain⟨⟨x⟩⟩:=a;obtain⟨⟨y⟩⟩:=b;cases e;rfl
def C5(h:ltS a b=qz):ltS b a=q7:=by unfold ltS at *;rw[decide_eq_true_iff]at h;rw[decide_eq_false_iff_not,List.not_lt];exact List.le_of_lt h
theorem mH x: ∀l,(FY x l).Perm (x::l)
 |[]=>qo.refl _
 |y::l=>by
  unfold FY;split;exact((mH x l).cons y).trans (qo.swap x y l);exact qo.refl _
theorem eE: ∀l,(eY l).Perm l
 |[]=>qo.refl _
 |x::l=>(mH x _).trans ((eE l).cons x)
theorem nU x: ∀{l},l.Pairwise (λa b=>ltS b a=q7)->(FY x l).Pairwise (λa b=>ltS b a=q7)
 |[],_=>by simp[FY]
 |y::l,h=>by
  rw[jb]at h;unfold FY;split;rename_i e;rw[jb];refine⟨λz c=>?_,nU x h.2⟩;rcases av.mp ((mH x l).mem_iff.mp c)with rfl|c;exact C5 e;exact h.1 z c;rename_i e;have d:ltS y x=q7:=by simpa using e
  rw[jb];refine⟨λz c=>?_,jb.mpr h⟩;rcases av.mp c with rfl|c;exact d;exact EL d (h.1 z c)
theorem eF: ∀l,(eY l).Pairwise (λa b=>ltS b a=q7)
 |[]=>.nil
 |x::l=>nU x (eF l)
theorem v7: ∀{l} {p},risingS p l=qz->(p::l).Pairwise (λa b=>ltS b a=q7)
 |[],p,_=>by simp
 |x::r,p,h=>by
  unfold risingS at h;rw[aw]at h;have d:=v7 h.2;have e:ltS x p=q7:=by
   have:=h.1;rw[ltCps_eq]at this;simpa[ltS]using this
  rw[jb];refine⟨λz c=>?_,d⟩;rcases av.mp c with rfl|c;exact e;exact EL e ((jb.mp d).1 z c)
def xY(p:m.Perm l)(h:sortedS m=qz):m=eY l:=by
 have c:m.Pairwise (λa b=>ltS b a=q7):=by
  rcases m with _|⟨x,r⟩;exact .nil;exact v7 h
 exact er (λa b _ _ x y=>mG y x) c (eF l) (p.trans (eE l).symm)
section
variable{Ex:ce}
def uG(S:KdlSrc prog w T r d n P OK)(hh:A.handled=qw)(hok:OK s.heap)(hn:n<=sizeLine)(h: ∀h' tk vs,(∀b o,s.heap.get? b=pi o->h'.get? b=pi o)->vs.length=n->(∀j v,vs[j]? =pi v->P j v)->Q vs {s with heap:=h',toks:=tk}):wpAny (model prog w) A (collect (.ref r)) Q Ex s:=by
 have lt:=S.there _ hok;unfold collect;refine aa (wpAny_runValue (codeAny_builtin entry_proto_collect' ?_));refine aa (wpAny_newList (ac ⟨Code.quiet_builtin _ (by decide+kernel),codeAny_builtin entry_list_iadd' ?_⟩));refine kdl_extend (A:=A) (R:=λq i=>match q with
  |.ok (.ret v)=>wpAny (model prog w) A (match v with
   |.ref a=>(do
    let o<-load a;match o.data with
    |.seq m _=>pure m.toList
    |_=>unsupported "internal:collect")
   |_=>unsupported "internal:collect") Q Ex i
  |.ok _=>False
  |.error e=>Ex e i) (s:={s with heap:=s.heap.push (seqObj "list" #[] 0)}) S hh (S.keep _ _ hok λb _ o e=>ae _ e) s.z (ou lt.1) (ou lt.2) (.ref s.z) 0 (af _ rfl) (λh' tk g c hk l f=>?_) hn
 refine aa (wpAny_load l (ac ?_));refine h h' tk g.toList (λb o e=>hk b o (bh (ah e)) (ae _ e)) (by rw[ic];exact f.1) λj v e=>f.2 j v (by rw[<-Array.getElem?_toList];exact e)
def xZ{Q:ce}(S:KdlSrc prog w T r d n P OK)(hh:A.handled=qw)(hok:OK s.heap)(h64:n<64)(hP: ∀vs,vs.length=n->(∀j v,vs[j]? =pi v->P j v)->StrsAre vs ss)(h: ∀(h1 h':Heap) tk out e,(∀b o,s.heap.get? b=pi o->h1.get? b=pi o)->(∀b o,h1.get? b=pi o->h'.get? b=pi o)->h'.get? h1.objs.size=pi (seqObj "list" out.toArray e)->StrsAre out (eY ss)->Q (.ref h1.objs.size) {s with heap:=h',toks:=tk}):
  wpAny (model prog w) A (call (.builtin "sorted") [.ref r]) Q Ex s:=by
 refine Calls.call_function_entry kind_sorted plain_sorted entry_sorted (args_sorted1 _) ?_;unfold Builtin.«sorted»;refine aa (m:=checkCount "sorted" 1 1 _) (ac ?_);refine aa (uG (A:=A.in1) S hh hok (by rw[sizeLine_eq];lia) λh1 tk vs hk u C=>?_);have g:=hP vs u C;refine aa (wpAny_newList ?_ (by rw[sizeLine_eq];lia));have a:(h1.push (seqObj "list" vs.toArray 0)).get? h1.objs.size=pi (seqObj "list" vs.toArray 0):=af _ rfl;refine aa (wpAny_holding (wpAny_call_entry slot_list_sort ⟨_,a,rfl⟩ entry_list_sort (list_sort_treeK (s:={s with heap:=h1.push (seqObj "list" vs.toArray 0),toks:=tk}) strKind_oneLt a g.keysOf (λi l dO e=>keyKind_strs (by rw[<-e];exact g)) (by lia) λc x z=>⟨_,rfl,?_⟩) (args_list_sort _)));obtain⟨B,q,p,t⟩:=sorted_out_str g x z;obtain⟨e,y⟩:=sortedHeap_at (out:=(arrOf c).map (·.2)) a;have f: ∀b o,h1.get? b=pi o->(sortedHeap (h1.push (seqObj "list" vs.toArray 0)) h1.objs.size vs ((arrOf c).map (·.2))).get? b=pi o:=λb o q1=>by
  have lt:b<h1.objs.size:=ah q1;rw[sortedHeap_old (bh lt) (by rw[ai];exact jm lt),jt _ _ _ (bh lt)];exact q1
 exact ac ⟨_,rfl,h h1 _ tk ((arrOf c).map (·.2)).toList e hk f (by rw[Array.toArray_toList];exact y) (by rw[<-xY p t];exact q)⟩
end
def KY:L1 V->Hp->VK->Prop:=λxs H Q=>∃d kvs ks,xs=[V.ref d]/\Rd H d (.dK kvs)/\kvs.map (·.1)=ks.map (λk:Str=>(qt k:L2.Key))/\ks.length<64/\∀p,H p=qw->Q (.ref p) (upd H p (.lst ((eY ks).map V.str)))
def AJ(h:StrsAre vs ss):cD (ss.map V.str) vs:=by
 induction h with
 |nil=>exact .nil
 |cons y t _ a=>exact .cons ⟨t,rfl⟩ a
def nV(hc:X.calm=qz):lJ X (.builtin "sorted") KY:=by
 intro Y s T H xs us Q I r h;obtain⟨d,kvs,a,rfl,hd,hk,A,q⟩:=h;obtain⟨u,rfl,O⟩:=cD.one r;cases O;obtain⟨z,lo,E,L,dd⟩:=jW I.hok hd;obtain⟨o,U,ep,m1,Z,m3,m4,m5,W⟩:=dd;have b:E.map (·.1)=a.map (λk:Str=>(qt k:L2.Key)):=by rw[<-L.keys];exact hk
 have ab:E.length=a.length:=by simpa using congrArg pp b
 refine xZ (ss:=a) (kdl_dict (knd:=bJ X.prog X.w) (kvs:=E) (ep:=ep) lo) (I.ok.hd hc) ⟨o,U,m1,Z,m3,m4,m5,W⟩ (by lia) (λc f m=>?_) λp h' J C e M N i l=>?_;have B: ∀(c:L1 Value) (a:L1 Str),c.length=a.length->(∀(j:Nat) (v:Value),c[j]? =pi v->∃k,a[j]? =pi k/\∃t,v=qg k t)->StrsAre c a:=by
  intro c;induction c with
  |nil=>intro a f _;cases a with|nil=>exact .nil|cons _ _=>cases f
  |cons v c ih=>
   intro a f m;rcases a with _|⟨k,a⟩;cases f;obtain⟨k',i,t,l⟩:=m 0 v rfl;cases i;subst l;exact .cons k t (ih a (by simpa using f) λj v e=>m (j+1) v e)
 refine B c a (by lia) λj v e=>?_;obtain⟨k,x,i,l⟩:=m j v e;have g:(a.map (λk:Str=>(qt k:L2.Key)))[j]? =pi k:=by rw[<-b,ji,i];rfl
 rw[ji]at g;rcases G:a[j]? with _|y;rw[G]at g;cases g;rw[G]at g;cases g;refine⟨y,rfl,?_⟩;exact Value.isStrOf_shape l;have K:Inv X Y T H {s with heap:=p,toks:=J}:=I.kept M;have n:=K.hok.fresh (aj p.objs.size);have S:((eY a).map V.str).length<=sizeLine:=by
  rw[aq,(eE a).length_eq];exact om (oo A) (by decide)
 exact⟨.ref p.objs.size,_,K.laid (o:=.lst ((eY a).map V.str)) (t':=J) N (aj _) ⟨S,C,e,AJ l,i⟩,rfl,q _ n⟩
section
variable{ad:Ad}{A:Nat}
def GY{K}(h:HR K ad G held kvs):kvs.map (·.1)=(held.map (·.1)).map (λk:Str=>(qt k:L2.Key)):=by
 induction h with
 |nil=>rfl
 |cons b t a=>rw[ni,ni,ni,a,b.1]
theorem mI{K}{G}: ∀ss:L1 Str,aJ K ad G (ss.map D.str) (ss.map V.str)
 |[]=>aJ.nil
 |s::ss=>aJ.cons (by unfold Rep;rfl) (mI ss)
def GZ(hc:X.calm=qz)(RC:RkC X.K A)(hg:L2.Gl X "sorted")(hm:X.mg "sorted"=qw)(hV:kT X i x):
  ME X ad (.Call (.Name "sorted" p) [.Attribute (.Name x np) "held" ap] [] pos) (FZ A i):=by
 refine PE.imp (vB (nV hc) hg hm rfl (cJ (gT (bQ hV) rfl) eP rfl)) λy H Q c=>?_;obtain⟨G,s,E,l,h,t,a⟩:=c;obtain⟨r,e,a⟩:=j6 a;obtain⟨v,w,d,o,u,g,f⟩:=h.rk e;obtain⟨kvs,j,m⟩:=f.held;by_cases b:r.held.length<64;rw[if_pos b]at a;refine g0 RC f g (fd:="held") rfl RC.n1 ⟨d,kvs,r.held.map (·.1),rfl,.inl j,GY m,by simpa using b,λq n=>?_⟩;exact a.ow_new l (mI _) n;rw[if_neg b]at a;exact a.elim
end
def v8{m:Str}(h:m≠"held"/\m≠"done"/\m≠"undone"):[(("held":Str),V.ref d),("done",.ref l1),("undone",.ref l2)].lookup m=qw:=by
 have c:(m==("held":Str))=q7:=by simpa using h.1
 have a:(m==("done":Str))=q7:=by simpa using h.2.1
 have b:(m==("undone":Str))=q7:=by simpa using h.2.2
 rw[ke,c,ke,a,ke,b,List.lookup_nil]
def jJ(hb:attributeBase o m env (eval o env)=eval o env)(hf:methodCallForm (es.length+([]:L1 Keyword).length) (backTo cp (starEach es env)) (backToKw cp (keywordEach [] env))=qz)(hl:(ap.endLine==cp.line)=qz):
  eval (.Call (.Attribute o m ap) es [] cp) env=(do
   let ov<-eval o env;standAt ap.atName;let (f,first)<-holding [ov] (getMethod ov m (do return (<-importBound o env).getD qz));callWith cp f first (backTo cp (starEach es env)) (backToKw cp (keywordEach [] env))):=by
 rw[arm_eval_Call,hb];unfold methodCall calleeOf methodCallPos;rw[hf,hl];rfl
section
variable{X:Cx}{ad:Ad}{σ:St}{Q:VK}{E:Nat->Hp->Prop}{p ap cp:Pos}{es:L1 Expr}{fs:L1 F}{A i n:Nat}{x m:Str}{M:FM}
def uH{m}(h:RK X.K ad G H m.told Q E):RMK X.K ad A G H p0 dx d l1 l2 m Q E:=by rcases m with x|⟨_,_⟩;exact h;exact ba h
theorem RMK.impE{G H}{p0 dx d l1 l2}{m}{E'}(h:RMK X.K ad A G H p0 dx d l1 l2 m Q E)(k: ∀c H',E c H'->E' c H'):RMK X.K ad A G H p0 dx d l1 l2 m Q E':=by rcases m with x|⟨_,_⟩;exact RK.impE h k;exact h
def mJ(M0:MetOk X ad A m n M)(I:Inv X cc σ H s)(hG:Same G H)(hR:RackIn X.K ad A G H p0 r dx d l1 l2)(rv:cD vs us)(rq:aJ X.K ad G ds vs)(hl:ds.length=n)(hx:XP X ad σ E)(h:RMK X.K ad A G H p0 dx d l1 l2 (M r ds) Q E)(hf:Meth X.K A m f):
  X.wp (call (.ref f) (.ref p0::us)) (EP X cc σ Q) X.xe s:=by
 obtain⟨l,k,q,t,a,g,b,j⟩:=M0.ok;have e:l=f:=by
  have z:=a.at_.symm.trans hf.at_;cases z;rfl
 subst e;exact l6 (vs:=V.ref p0::vs) (E:=xk ad E) g b j I (.cons rfl rv) ⟨G,p0,r,dx,d,l1,l2,ds,vs,rfl,hG,hR,rq,hl,h.impE λc p e=>⟨c,rfl,e⟩⟩ λe o i=>hx cc H s e o I i
def C6(RC:RkC X.K A)(M0:MetOk X ad A m n M)(hV:kT X i x)(ha:MA X ad (a::es) fs)(hn:fs.length=n)(hst:starEach (a::es) X.env=(q7,eval a X.env)::starEach es X.env)(hpl:(backTo cp (starEach es X.env)).any (·.1)=q7)(hfm:methodCallForm ((a::es).length+([]:L1 Keyword).length) (backTo cp (starEach (a::es) X.env)) (backToKw cp (keywordEach [] X.env))=qz)(hln:(ap.endLine==cp.line)=qz)(I:Inv X cc σ H s)(hG:Same G H)(hS:SL X.K ad G H ρ σ)(hx:XP X ad σ E)(h1:σ[i]? =pi (pi (.ref p0)))(hR:RackIn X.K ad A G H p0 r dx d l1 l2)(hr:RK X.K ad G H (lP fs ρ W) Q E)(hq: ∀ds G1 H1,Step G H G1 H1->RK X.K ad G1 H1 (W ds) Q E->RMK X.K ad A G1 H1 p0 dx d l1 l2 (M r ds) Q E):
  X.wp (eval (.Call (.Attribute (.Name x p) m ap) (a::es) [] cp) X.env) (EP X cc σ Q) X.xe s:=by
 obtain⟨f,k,N,J,l,_⟩:=M0.ok;refine gw (L2.thn (bQ hV cc s σ H (λv H1=>v= .ref p0/\H1=H) I ⟨.ref p0,h1,rfl,rfl⟩) λu C o=>?_) (jJ rfl hfm hln);obtain⟨v,H1,h,y,z,B⟩:=o;subst z;subst B;cases (show u=qh p0 from y);refine hU h hR.ins RC.cl l (v8 M0.no) ?_;refine i0 (first:=[.ref p0]) (h₀:=X.base) h.ok.mod.kin l.kp (L2.thn (ha cp cc C σ H1 (λj b=>∃ds G1,Step G H1 G1 b/\aJ X.K ad G1 ds j/\ds.length=fs.length/\RK X.K ad G1 b (W ds) Q E) h
  (t6 hG hS hx hr λj ds G1 b c g e k=>⟨ds,G1,c,g,e,k⟩)) λO L ⟨j,b,q,t,ds,G1,c,g,e,k⟩=>⟨q.kIn,?_⟩) hst hpl
 exact mJ M0 q c.gh (hR.step c) t g (e.trans hn) hx (hq ds G1 b c k) l
def AL(RC:RkC X.K A)(M0:MetOk X ad A m 0 M)(hV:kT X i x)(hln:(ap.endLine==cp.line)=qz)(I:Inv X cc σ H s)(hG:Same G H)(hx:XP X ad σ E)(h1:σ[i]? =pi (pi (.ref p0)))(hR:RackIn X.K ad A G H p0 r dx d l1 l2)(hq:RMK X.K ad A G H p0 dx d l1 l2 (M r []) Q E):
  X.wp (eval (.Call (.Attribute (.Name x p) m ap) [] [] cp) X.env) (EP X cc σ Q) X.xe s:=by
 obtain⟨f,k,l,n,c,_⟩:=M0.ok;refine gw (L2.thn (bQ hV cc s σ H (λv e=>v= .ref p0/\e=H) I ⟨.ref p0,h1,rfl,rfl⟩) λu o b=>?_) (jJ rfl rfl hln);obtain⟨v,e,a,g,j,h⟩:=b;subst j;subst h;cases (show u=qh p0 from g);refine hU a hR.ins RC.cl c (v8 M0.no) ?_;exact ig (first:=[.ref p0]) a.kIn c.kp (mJ M0 a hG hR .nil aJ.nil rfl hx hq c)
def KZ(RC:RkC X.K A)(M0:MetOk X ad A m n M)(hV:kT X i x)(ha:MA X ad es fs)(hn:fs.length=n)(hst: ∀a r,es=a::r->starEach (a::r) X.env=(q7,eval a X.env)::starEach r X.env/\(backTo cp (starEach r X.env)).any (·.1)=q7)(hl:es.length=fs.length)(hfm:methodCallForm (es.length+([]:L1 Keyword).length) (backTo cp (starEach es X.env)) (backToKw cp (keywordEach [] X.env))=qz)(hln:(ap.endLine==cp.line)=qz):
  ME X ad (.Call (.Attribute (.Name x p) m ap) es [] cp) (bO A i M fs):=by
 refine λu s L H Q I o=>o.el λG v E l g h b=>?_;obtain⟨r,e,b⟩:=j6 b;obtain⟨B,J,d,t,z,c,j⟩:=g.rk e;rcases es with _|⟨a,f⟩;rcases fs with _|⟨_,_⟩;subst hn;exact AL RC M0 hV hln I l h c j (uH b);cases hl;exact C6 RC M0 hV ha hn (hst a f rfl).1 (hst a f rfl).2 hfm hln I l g h c j b λy q C w k=>uH k
def G6(T:CT X tn (spM X.K ad A 0 M))(hg:L2.Gl X tn)(hdb:(tn==gV)=q7)(hV:kT X i x):
  ME X ad (.Call (.Name tn p) [.Name x px] [] cp) (bO A i M []):=by
 refine λL s B H Q I J=>J.el λG ρ E w o q b=>?_;obtain⟨fa,k,fd,prs,U,hk,u,f,l⟩:=T;obtain⟨r,e,b⟩:=j6 b;obtain⟨a,Y,d,n,v,j,S⟩:=o.rk e;refine wpAny_Call_Name_kw (eT I hg U ?_ hdb);refine i0 (h₀:=X.base) I.ok.mod.kin hk (L2.thn (cJ (bQ hV) eP rfl cp _ s B H (λvs y=>vs=[.ref a]/\y=H) I ⟨.ref a,j,rfl,rfl⟩) λus t z=>?_) rfl rfl;obtain⟨vs,h,g,m,C,Z⟩:=z;subst C;subst Z;exact⟨g.kIn,l6 (vs:=[V.ref a]) (E:=xk ad E) u f l g m ⟨G,a,r,Y,d,n,v,[],[],rfl,w,S,aJ.nil,rfl,(uH (show RK X.K ad G h (M r []).told Q E from b)).impE λc H' e=>⟨c,rfl,e⟩⟩ λe O N=>q L h t e O g N⟩
end
theorem EM{K}{ad}{G}: ∀{ks:L1 Str} {ds} {es:L1 (L2.Key×V)},es.map (·.1)=ks.map qt->aJ K ad G ds (es.map (·.2))->HR K ad G (ks.zip ds) es
 |[],ds,[],_,_=>.nil
 |[],_,_::_,h,_=>by simp at h
 |_::_,_,[],h,_=>by simp at h
 |k::ks,ds,(q,v)::es,h1,h2=>by
  rw[ni,ni]at h1;obtain⟨f,e⟩:=nr h1;rw[ni]at h2;rcases ds with _|⟨d,ds⟩;unfold aJ at h2;cases h2;unfold aJ at h2;obtain⟨i,g,c,a,b⟩:=h2;cases c;exact .cons ⟨f,a⟩ (EM e b)
def RK.imp{K}{ad}(h:RK K ad G H r Q E)(k: ∀v H,Q v H->Q' v H):RK K ad G H r Q' E:=by rcases r with d|i|c|_;exact λv f a b q=>k _ _ (h v f a b q);exact λp g f a b n m e q=>k _ _ (h p g f a b n m e q);exact h;exact h
noncomputable def Pc:R->L7 D
 |.ok d=>pi d
 |.ow xs=>pi (.lst xs)
 |_=>qw
section
variable{X:Cx}{ad:Ad}{cc:cf}{s:Shared}{σ:St}{H G:Hp}{a o:Expr}{f:F}
def K0(X:Cx)(ad:Ad)(f:F):TE:=λσ H Q=>tE X ad f σ H λv H1=>∃a o es,v= .ref a/\H1 a=pi (.frz o (.dK es))/\∀q,H1 q=qw->Q (.ref q) (upd H1 q (.dK es))
def C7(hg:L2.Gl X "dict")(hm:X.mg "dict"=qw)(ha:ME X ad a f)(he:starEach [a] X.env=(q7,eval a X.env)::starEach [] X.env):PE X (.Call (.Name "dict" p) [a] [] pos) (K0 X ad f):=by intro l s K H Q I h;refine wpAny_Call_Name_kw (gR I hg hm (u:=.type "dict") (by decide+kernel) ?_ (by decide) (by decide));refine dt (L2.thn (cJ ha eP he pos l s K H (λg b=>∃v,g=[v]/\∃a o c,v= .ref a/\b a=pi (.frz o (.dK c))/\∀q,b q=qw->Q (.ref q) (upd b q (.dK c))) I ?_) λN M ⟨g,b,x,y,v,B,z,w,c,j,d,q⟩=>?_) he rfl;obtain⟨G,m,E,J,i,r,t⟩:=h;refine⟨G,m,E,J,i,r,?_⟩;exact RK.imp t λv b k=>⟨v,rfl,k⟩;subst B;subst j;obtain⟨u,rfl,C⟩:=lK y;cases (show u=qh z from C);exact Cy x (.inr ⟨w,d⟩) λe L n A=>⟨.ref e,_,A,rfl,q e n⟩
def C8(hN:X.N.Nodup)(hi:X.N[i]? =pi x)(hl:Loc X.env.scope x)(hg:L2.Gl X "dict")(hm:X.mg "dict"=qw)(ha:ME X ad a f)(he:starEach [a] X.env=(q7,eval a X.env)::starEach [] X.env)(hf:X.fn x=qz\/X.env.scope.names.lookup x=pi .local):
  MS X ad Z (.Assign [.Name x pos'] (.Call (.Name "dict" p) [a] [] cp) pos) (nG i f):=by
 refine PS.imp (nE hN hi hl (C7 hg hm ha he) rfl hf) ?_;rintro j C H ⟨b,G,l,E,S,m,s⟩;refine f8 S m s λv d g B c r k=>?_;cases d<;>try exact ba k
 rename_i h z;unfold Rep at r;obtain⟨u,t,e,rfl,y,o,A⟩:=r;refine⟨u,t,e,rfl,c.gh _ _ y,λq n=>?_⟩;have w:g q=qw:=c.gh.free n;exact(show OKo X ad b (.nx (l.set i (.dc (h.zip z)))) j E from k) _ g _ ((S.step c).setNew (Step.own c.gh n) n ⟨q,e,rfl,w,aH,EM o A,trivial⟩)
def uI{q}{es}{ks:L1 Str}{ds}{Q}(I:Inv X cc σ (upd H q (.dK es)) s)(hG:Same G H)(n:H q=qw\/H q=pi (.dK []))(gn:G q=qw)(h1:es.map (·.1)=ks.map qt)(h2:aJ X.K ad G ds (es.map (·.2)))(hr: ∀v G' H',(∀c,c≠q->G' c=G c)->Same G G'->Same G' H'->(∀c,c≠q->H' c=H c)->Rep X.K ad G' (.dct ks ds) v->Q v H'):EP X cc σ Q (.ref q) s:=by obtain⟨o,b⟩:=Inv.frzD I aH;rw[yP]at b;refine⟨.ref q,_,b,rfl,hr (.ref q) (upd G q (.frz o (.dK es))) _ (λc a=>aC a) (Same.upd_new gn) (λc u e=>?_) (λc a=>aC a) ?_⟩;by_cases z:c=q;subst z;rw[aH]at e ⊢;exact e;rw[aC z]at e ⊢;exact hG c u e;unfold Rep;exact⟨q,o,es,rfl,aH,h1,h2.mono (Same.upd_new gn)⟩
def C9:ME X ad (.Dict [] [] pos) lS:=by
 refine λy s p H Q I x=>x.el λG M E d L N h=>?_;refine L2.thn (vE y s p H (λv b=>∃q,v= .ref q/\H q=qw/\b=upd H q (.dK [])) I λq n=>⟨q,rfl,n,rfl⟩) λu O a=>?_;obtain⟨v,b,A,m,q,t,n,J⟩:=a;subst t;subst J;cases (show u=qh q from m);refine uI (ad:=ad) (ks:=[]) (ds:=[]) A d (.inl n) (d.free n) rfl aJ.nil λv g j o l i C r=>?_;exact(show RK X.K ad G H (.ok (.dct [] [])) Q E from h) v g j ⟨l,i,λc w e=>by rw[C c (λz=>by rw[z,n]at e;cases e)];exact e,λc B f=>by
  by_cases z:c=q;rw[z];exact n;rw[o c z,B]at f;exact absurd rfl f⟩ r
def EN(hG:Same G H)(hS:SL X.K ad G H ρ σ)(hx:XP X ad σ E)(hv:Pc (f ρ)=pi x)(q: ∀v G1 H1,Step G H G1 H1->Rep X.K ad G1 x v->Q v H1):tE X ad f σ H Q:=by refine⟨G,ρ,E,hG,hS,hx,?_⟩;rcases e:f ρ with d|i|c|_;rw[e]at hv;cases hv;exact q;rw[e]at hv;cases hv;intro p j G1 H1 g n m h r;obtain⟨a,st2,b⟩:=dP (X:=X) (ad:=ad) g n m h r;exact q _ a H1 st2 b;rw[e]at hv;cases hv;rw[e]at hv;cases hv
def K1(hG:Same G H)(hS:SL X.K ad G H ρ σ)(hx:XP X ad σ E)(hv:f ρ= .ex c)(q: ∀G1 H1,Step G H G1 H1->E c H1):tE X ad f σ H Q:=
 ⟨G,ρ,E,hG,hS,hx,by rw[hv];exact q⟩
def v9{r}{k}{Q}{E}(h:RK X.K ad G H (r.bind k) Q E):(∃x,Pc r=pi x/\RK X.K ad G H (k x) Q E)\/∃c,r= .ex c/\∀G1 H1,Step G H G1 H1->E c H1:=by rcases r with d|a|c|_;exact .inl ⟨d,rfl,h⟩;exact .inl ⟨.lst a,rfl,h⟩;exact .inr ⟨c,rfl,h⟩;exact h.elim
def Da(ha:ME X ad a f)(hb:ME X ad b g):ME X ad (.Dict [pi (.Constant (.str k1) j1 p1),pi (.Constant (.str k2) j2 p2)] [a,b] pos) (vC k1 k2 f g):=by
 refine λcc s W H Q I h9=>h9.el λG T E U C J hr=>?_;have P:=vF (pos:=pos) (kU (X:=X) (ad:=ad) (k:=.str k1) (j:=j1) (pos:=p1) (d:=.str k1) rfl) ha (vF (kU (X:=X) (ad:=ad) (k:=.str k2) (j:=j2) (pos:=p2) (d:=.str k2) rfl) hb Gd);have rk: ∀(k:Str) (m h:Hp),Same m h->SL X.K ad m h T W->∀(Z:VK),(∀O N,Step m h O N->Z (.str k) N)->tE X ad (rK (.str k)) W h Z:=λk m h hg hs Z q=>⟨m,T,E,hg,hs,J,λv O N S r=>by
  have r':v= .str k:=by unfold Rep at r;exact r
  subst r';exact q O N S⟩
 refine L2.thn (Ge P rfl rfl (by simp) (by simp) cc s W H (λv h=>∃q p A x y t B,v= .ref q/\H q=qw/\Step G (upd H q (.dK [])) p A/\Rep X.K ad p x t/\Rep X.K ad p y B/\RK X.K ad G H (.ok (.dct [k1,k2] [x,y])) Q E/\h=upd A q (.dK [(.inr k1,t),(.inr k2,B)])) I λq n=>?_) λu L hz=>?_;have gq:G q=qw:=U.free n;have st0:Step G H G (upd H q (.dK [])):=Step.own U n;have ab:RK X.K ad G H ((f T).bind λx=>(g T).bind λy=>if k1=k2 then .bad else .ok (.dct [k1,k2] [x,y])) Q E:=hr;refine rk k1 G _ st0.gh (C.step st0) _ λm h st1=>?_;have L:=st0.trans st1;rcases v9 ab with ⟨x,vx,h1⟩|⟨c,ec,he⟩;refine EN st1.gh (C.step L) J vx λt O N st2 r2=>?_;have s2:=L.trans st2;refine rk k2 O _ st2.gh (C.step s2) _ λG3 H3 l=>?_;have Y:=s2.trans l;rcases v9 h1 with ⟨y,vy,h2⟩|⟨c,ec,he⟩;refine EN l.gh (C.step Y) J vy λB p A M r4=>?_;have o:Step G (upd H q (.dK [])) p A:=((st1.trans st2).trans l).trans M;have hk: ¬k1=k2:=λz=>by
  have i:RK X.K ad G H (if k1=k2 then .bad else .ok (.dct [k1,k2] [x,y])) Q E:=h2;rw[if_pos z]at i;exact i.elim
 have i:RK X.K ad G H (if k1=k2 then .bad else .ok (.dct [k1,k2] [x,y])) Q E:=h2;rw[if_neg hk]at i;refine⟨o.sh _ _ aH,[(.inr k1,t),(.inr k2,B)],rfl,by simp,q,p,A,x,y,t,B,rfl,n,o,(r2.mono l.sg).mono M.sg,r4,i,?_⟩;have nk: ¬((qt k1:L2.Key)= .inr k2):=λz=>hk (pf z);simp[jE,L2.putK,nk];exact K1 l.gh (C.step Y) J ec λm h S=>he m h (Y.trans S);exact K1 st1.gh (C.step L) J ec λm h S=>he m h (L.trans S);obtain⟨v,h,I1,ru,q,p,A,x,y,t,B,rfl,n,o,r1,r2,hk,rfl⟩:=hz;cases (show u=qh q from ru);have gq:p q=qw:=o.gnone (U.free n) aH;refine uI (ad:=ad) (ks:=[k1,k2]) (ds:=[x,y]) I1 o.gh (.inr (o.sh _ _ aH)) gq rfl (aJ.cons r1 (aJ.cons r2 aJ.nil)) λv G' H' g1 g2 g3 g4 r=>?_;refine hk v G' H' ⟨o.sg.trans g2,g3,λc w e=>?_,λc z1 z2=>?_⟩ r;have nc:c≠q:=λz=>by rw[z,n]at e;cases e
 rw[g4 c nc];exact o.sh _ _ (by rw[aC nc];exact e);by_cases z:c=q;rw[z];exact n;rw[g1 c z]at z2;have:=o.nw c z1 z2;rw[aC z]at this;exact this
def Db(hu:X.A.units+62<cLine)(ho:ME X ad o f)(ha:ME X ad a g)(hb:ME X ad b h)(m:M2 X o "get" ap a b cp):ME X ad (.Call (.Attribute o "get" ap) [a,b] [] cp) (rB f g h):=by
 refine λcc s σ H Q I h9=>h9.el λG M E hG n p Y=>?_;refine Cv (by lia) ho ha hb m cc s σ H Q I ?_;refine fG hG n p Y λv d G1 H1 e r k=>?_;cases d<;>try exact ba k
 rename_i C B;unfold Rep at r;obtain⟨N,u,j,rfl,O,W,a2⟩:=r;refine⟨N,rfl,.inl ⟨j,.inr ⟨u,e.gh _ _ O⟩⟩,?_⟩;refine fG e.gh (n.step e) p (show RK X.K ad G1 H1 ((g M).bind λy=>(h M).bind λz=>(match y with|.str k=>.ok ((bI (C.zip B) k).getD z)|_=>.bad)) Q E from k) λv2 d2 G2 H2 st2 J k2=>?_;refine fG st2.gh ((n.step e).step st2) p k2 λv3 U L T c r3 S=>?_;cases d2<;>try exact ba S
 rename_i x;unfold Rep at J;subst J;have Z:T N=pi (.frz u (.dK j)):=c.sh _ _ (st2.sh _ _ (e.gh _ _ O));refine⟨_,.inl ⟨j,.inr x,.inr ⟨u,Z⟩,rfl,rfl⟩,?_⟩;have i:RK X.K ad L T (.ok ((bI (C.zip B) x).getD U)) Q E:=S;have t:aJ X.K ad L B (j.map (·.2)):=(a2.mono st2.sg).mono c.sg;rcases rJ (x:=x) W t with ⟨q,l,_⟩|⟨w,d,q,l,b3,_,_⟩;rw[l]at i;rw[q];exact i.ok_now c.gh r3;rw[l]at i;rw[q];exact i.ok_now c.gh b3
def uJ(hc:X.calm=qz):BOp X ad (.builtin "sorted") jB:=by
 intro m s y H G x v u Q E I j q t f;by_cases i: ∃c g,x= .dct c g;obtain⟨c,g,rfl⟩:=i;have b:RK X.K ad G H (if c.length<64 then .ow ((eY c).map D.str)else .bad) Q E:=f;have h:Rep X.K ad G (.dct c g) v:=by
  rcases q with q|⟨_,_,_,z,_⟩;exact q;cases z
 unfold Rep at h;obtain⟨a,o,l,rfl,w,r,A⟩:=h;by_cases d:c.length<64;rw[if_pos d]at b;exact nV hc m s y H [.ref a] [u] Q I (.cons t .nil) ⟨a,l,c,rfl,.inr ⟨o,j _ _ w⟩,r,d,λp n=>b.ow_new j (mI _) n⟩;rw[if_neg d]at b;exact b.elim;have e:jB [x]= .bad:=by
  cases x<;>first|rfl|exact absurd ⟨_,_,rfl⟩ i
 rw[e]at f;exact f.elim
end
section
variable{E:ce}{h:Heap}{g:Array GenState}{d:Drawn}{os:OsState}
def x6{Q:α->Shared->Prop}(hh:A.handled=qw)(hm:msg.length<=sizeLine)(hq: ∀e h' t',(∀b o,h.get? b=pi o->h'.get? b=pi o)->(∃o,h'.get? e=pi o/\o.cls= .type "AttributeError")->E (.ref e) ⟨h',g,d,t',os⟩):
  wpAny (model prog w) A (raiseAttrError (.ref a) nm msg) Q E ⟨h,g,d,t,os⟩:=by
 unfold raiseAttrError newExc;repeat (any_goals (first|assumption|wp_step))
 have l:isSubtype (.type "AttributeError") (.type "AttributeError")=pure qz:=by rw[isSubtype_type];kernel_rfl
 have j:((Manifest.find? "AttributeError").elim q7 λt=>t.mro.contains "StopIteration"||t.mro.contains "SystemExit")=q7:=by kernel_rfl
 have i:ownMembersOf (p4 "AttributeError") [qg msg t]= #[unsetMember,unsetMember]:=by rfl
 simp only[j,i,az,if_false];repeat (any_goals (first|assumption|wp_step))
 unfold raiseNew;refine aa (wpAny_handled ?_);rw[hh];refine aa (ac (wpAny_throw ?_));have f:((h.push {cls:=p4 "tuple",data:=Data.seq #[qg msg t]}).push {cls:=p4 "AttributeError",data:=Data.fields (#[qh h.objs.size,pw,pw,pw,p3 q7,pw]++ #[unsetMember,unsetMember])}).get? (h.push {cls:=p4 "tuple",data:=Data.seq #[qg msg t]}).objs.size=pi _:=af _ rfl;refine hq _ _ _ (λb o e=>?_) ⟨_,gm _ f rfl,rfl⟩;have lt:b<h.objs.size:=ah e;refine(fz _ _ (λz=>?_)).trans (ae _ (ae _ e));have c:b=(h.push {cls:=p4 "tuple",data:=Data.seq #[qg msg t]}).objs.size:=by first|exact z|exact z.symm
 rw[ai]at c;rw[c]at lt;exact absurd lt (Nat.not_lt.mpr (pj _))
def rY:typeLookup (.type "list") "keys"=pure qw:=by rw[typeLookup_type,builtinLookup_eq_fast];kernel_rfl
def rZ:typeLookup (.type "list") "__getattr__"=pure qw:=by rw[typeLookup_type,builtinLookup_eq_fast];kernel_rfl
def AM(E:ce)(h:Heap)(g:Array GenState)(d:Drawn)(os:OsState):Prop:= ∀e h' t',(∀b o,h.get? b=pi o->h'.get? b=pi o)->(∃o,h'.get? e=pi o/\o.cls= .type "AttributeError")->E (.ref e) ⟨h',g,d,t',os⟩
def x8(hh:A.handled=qw)(hx:h.get? a=pi {cls:=.type "list",dict:=qw,data:=.seq its nn,slots:=sl})(hq:AM E h g d os):
  wpAny (model prog w) A (Builtin.«object.__getattribute__» ⟨[.ref a,.str "keys" tk],[]⟩) Q E ⟨h,g,d,t,os⟩:=by
 have c:(⟨h,g,d,t,os⟩:Shared).TypeIs (.ref a) "list":=⟨_,hx,rfl⟩;have b:=rY;repeat (any_goals (first|assumption|wp_step))
 exact x6 hh (by decide+kernel) hq
def AN{R}(hh:A.handled=qw)(hx:h.get? a=pi {cls:=.type "list",dict:=qw,data:=.seq its nn,slots:=sl})(hq:AM (λe s=>R (.error e) s) h g d os):
  codeAny (model prog w) A (.call (.builtin "list.__getattribute__") ⟨[.ref a,.str "keys" tk],[]⟩) R ⟨h,g,d,t,os⟩:=
 codeAny_call_builtin et.plain F.entry_list_ga (et.check _ _ _ _ _ _ _ _ (show(⟨h,g,d,t,os⟩:Shared).TypeIs (.ref a) "list" from⟨_,hx,rfl⟩) (F.args_list_getattribute_2 _ _) (x8 (by exact hh) hx hq))
def G8{Q:ce}(hh:A.handled=qw)(hx:h.get? a=pi {cls:=.type "list",dict:=qw,data:=.seq its nn,slots:=sl})(hq:AM E h g d os):wpAny (model prog w) A (getAttrBy (.ref a) (.str "keys" tk) q7) Q E ⟨h,g,d,t,os⟩:=by
 have r:(⟨h,g,d,t,os⟩:Shared).TypeIs (.ref a) "list":=⟨_,hx,rfl⟩;have p:=et.lookup;have q:=et.bind (.ref a);have n:=rZ;have m:isSubtype (.type "AttributeError") (.type "AttributeError")=pure qz:=by rw[isSubtype_type];kernel_rfl
 repeat (any_goals (first|assumption|wp_step))
 refine AN hh hx λe i f hk o=>?_;obtain⟨c,l,j⟩:=o;have b:(⟨i,g,d,f,os⟩:Shared).TypeIs (.ref e) "AttributeError":=⟨c,l,j⟩;show wpAny _ _ (getattributeRaised _ _ _ _ _ _ _) _ _ _;unfold getattributeRaised;refine aa (wpAny_isInstance b m ?_);rw[if_pos rfl];unfold hookBehind;refine aa ?_;show wpAny _ _ (typeLookup (.type "list") "__getattr__") _ _ _;rw[n];refine ac ?_;exact wpAny_throw (hq e i f hk ⟨c,l,j⟩)
def AO(hh:A.handled=qw)(hx:h.get? a=pi {cls:=.type "list",dict:=qw,data:=.seq its nn,slots:=sl})(hq: ∀h' t',(∀b o,h.get? b=pi o->h'.get? b=pi o)->Q qw ⟨h',g,d,t',os⟩):
  wpAny (model prog w) A (getAttr? (.ref a) "keys") Q E ⟨h,g,d,t,os⟩:=by
 have f:isSubtype (.type "AttributeError") (.type "AttributeError")=pure qz:=by rw[isSubtype_type];kernel_rfl
 unfold getAttr? getAttrBy?;refine aa (wpAny_mkText ?_);refine aa (wpAny_attempt (G8 hh hx λe h' t' hk j=>?_));obtain⟨i,m,l⟩:=j;have c:(⟨h',g,d,t',os⟩:Shared).TypeIs (.ref e) "AttributeError":=⟨i,m,l⟩;refine aa (wpAny_isInstance c f ?_);rw[if_pos rfl];exact ac (hq h' t' hk)
end
def iN:entryFor table "dict.update.loop"=pi Builtin.«dict.update.loop»:=entryFor_of_tree rfl
def eN:plainId "dict.update.loop"=qz:=by decide+kernel
section
variable{E:ce}
def x9(ho:s.heap.get? t=pi o)(hc:o.cls= .type "tuple")(hd:o.data= .seq #[x,y] n)(h:Q [x,y] s):wpAny (model prog w) A (Builtin.Dict.pairItems (.ref t)) Q E s:=by unfold Builtin.Dict.pairItems;refine aa (wpAny_typeOf (T:="tuple") ⟨o,ho,hc⟩ ?_);rw[if_pos (by decide)];exact aa (wpAny_seqItems ho hd (ac h))
end
section
variable{X:Cx}{ad:Ad}{σ:L2.St}{R:Result->Shared->Prop}{G:Hp}{d l:Addr}
def Dc(hh:A.handled=qw)res(hG:Same G H)(hn:G d=qw)(hl:SqL X.K G l vs)(hp:Paired (λv (p:Str×V)=>∃t,v= .ref t/\SqT X.K G t [.str p.1,p.2]) vs pv)(h1000:pv.length<=1000):
  ∀k i s es,pv.length-i=k->i<=pv.length->es.length<=i->Inv X cc σ (upd H d (.dK es)) s->oJ X cc (upd H d (.dK es)) it->s.heap.IsListIter it l i->
   (∀s',Inv X cc σ (upd H d (.dK (jE es ((pv.drop i).map λp=>(qt p.1,p.2))))) s'->R (.ok (.ret res)) s')->
   codeAny (model X.prog X.w) A (.builtin "dict.update.loop" ⟨[.ref d,.ref it,rawInt i,res],[]⟩) R s:=by
 intro k
 have T: ∀es,Same G (upd H d (.dK es)):=λes c u e=>by
  rw[aC (aO e hn)];exact hG c u e
 have ag:vs.length=pv.length:=ng hp
 induction k with
 |zero=>
  intro i s es hk hi he I hf Z hR
  have ab:i=pv.length:=by lia
  obtain⟨ad,E,Q,_⟩:=I.list ((T es).seq hl);obtain⟨f,C,f2,N,J,L⟩:=hf;have nl:=E.length;refine codeAny_builtin iN ?_;rw[ia eN _];show wpAny _ A.in1 (pyNext (.ref it) >>= _) _ _ s;refine aa (wpAny_pyNext_list_end hh Z Q.isList (by simp;lia) λS U=>?_)
  have h:Inv X cc σ (upd H d (.dK es)) {s with heap:=S}:=I.turned (t':=s.toks) (λb o O e=>U b o O e) f C N J L
  show wpAny _ A.in1 (Builtin.Dict.addKeywords d [] >>= _) _ _ _;refine aa (ac (ac (hR _ ?_)));rw[ab,kg];exact h
 |succ k ih=>
  intro i s es hk hi he I hf Z hR;have n:i<pv.length:=by lia
  obtain⟨ad,E,Q,_⟩:=I.list ((T es).seq hl)
  obtain⟨v,p,e1,M,t,rfl,ht⟩: ∃v p,vs[i]? =pi v/\pv[i]? =pi p/\∃t,v= .ref t/\SqT X.K G t [.str p.1,p.2]:=by
   have e:vs[i]? =pi (vs[i]'(by lia)):=bd _
   obtain⟨p,M,r⟩:=jZ hp e;exact⟨_,p,e,M,r⟩
  obtain⟨u,hu,ru⟩:=E.get e1
  cases (show u=qh t from ru)
  have nl:=E.length;obtain⟨f,C,f2,N,J,L⟩:=id hf;refine codeAny_builtin iN ?_;rw[ia eN _];show wpAny _ A.in1 (pyNext (.ref it) >>= _) _ _ s;refine aa (wpAny_pyNext_list_item Z Q.isList (x:=.ref t) (by simpa using hu) λS W sb=>?_)
  have h:Inv X cc σ (upd H d (.dK es)) {s with heap:=S}:=I.turned (t':=s.toks) (λb o O e=>(sb.2 b O).trans e) f C N J L
  obtain⟨ak,Y,pt,_⟩:=h.tuple ((T es).seqT ht);obtain⟨x,y,rfl,rx,ry⟩:=cD.two Y;obtain⟨tk,rfl⟩:=(show ∃tk,x=qg p.1 tk from rx)
  obtain⟨ot,q1,q2,nt,q3⟩:=pt;obtain⟨z,hd,kvs,B,dd⟩:=zI h.hok (aH (H:=H) (a:=d) (o:=.dK es))
  have hz:kvs.length=es.length:=(KV.length B).symm
  refine aa (wpAny_holding (aa (wpAny_tryCatch (x9 q1 q2 q3 ?_))));refine wpAny_holding (wpAny_dictSet_pairs (knd:=bJ X.prog X.w) (k:=.inr p.1) (lF _ _ _ _) dd (λh2 m j=>?_) (by rw[hz,sizeLine_eq];lia))
  have hit:it≠d:=λz=>by rw[z,aH]at f;cases f
  have z2:(L2.putK es (.inr p.1) p.2).length<=es.length+1:=gC _ _ _
  have I3:Inv X cc σ (upd H d (.dK (L2.putK es (.inr p.1) p.2))) {s with heap:=h2,toks:=s.toks+1}:=by
   have:=jX (t':=s.toks+1) (ob:=.dK (L2.putK es (.inr p.1) p.2)) h (by rw[aH];exact qa) j (let ⟨q,_,_,hq,_⟩:=m;⟨q,hq⟩) (nJ (by rw[sizeLine_eq];lia) hd (B.put (.inr p.1) ry) m)
   rw[yP]at this;exact this
  refine ac ⟨plainId_quiet eN _,?_⟩
  have g:=ih (i+1) {s with heap:=h2,toks:=s.toks+1} (L2.putK es (.inr p.1) p.2) (by lia) (by lia) (by lia) I3 ⟨by rw[aC hit]at f ⊢;exact f,C,f2,N,J,L⟩ (W.extBut j.extBut hit) λs' Is=>hR s' (by
   rw[dz n]
   have ep:pv[i]=p:=by rw[bd n]at M;exact ku M
   rw[ep,ni];exact Is)
  exact g
theorem wB: ∀{ds} {ps} {vs},kJ ds=pi ps->aJ X.K ad G ds vs->∃pv,Paired (λv (p:Str×V)=>∃t,v= .ref t/\SqT X.K G t [.str p.1,p.2]) vs pv/\Paired (λp q=>q.1=p.1/\Rep X.K ad G p.2 q.2) ps pv
 |[],ps,vs,h,r=>by
  cases h;unfold aJ at r;subst r;exact⟨[],.nil,.nil⟩
 |d::ds,ps,vs,h,r=>by
  unfold aJ at r;obtain⟨v,u,rfl,e,g⟩:=r;unfold kJ at h;split at h;rename_i k x;obtain⟨s,f,rfl⟩:=zMd h;obtain⟨pv,n,l⟩:=wB f g;unfold Rep at e;obtain⟨t,o,rfl,m,b⟩:=e;unfold aJ at b;obtain⟨y,z,rfl,q1,c⟩:=b;unfold aJ at c;obtain⟨j,w,rfl,i,a⟩:=c;unfold aJ at a;subst a;unfold Rep at q1;subst q1;exact⟨(k,j)::pv,.cons ⟨t,rfl,m⟩ n,.cons ⟨rfl,i⟩ l⟩;cases h
theorem wC: ∀{ps:L1 (Str×D)} {pv:L1 (Str×V)},Paired (λ(p:Str×D) q=>q.1=p.1/\Rep X.K ad G p.2 q.2) ps pv->∀{acc} {es},HR X.K ad G acc es->
  HR X.K ad G (ps.foldl (λacc p=>fY acc p.1 p.2) acc) (jE es (pv.map λp=>(qt p.1,p.2)))
 |_,_,.nil,_,_,h=>h
 |_,_,.cons (a:=p) (b:=q) r t,acc,es,h=>by
  have c:=v5 h r.2 p.1;have:=wC t c;rw[ni];show HR X.K ad G _ (jE (L2.putK es (qt q.1) q.2) _);rw[r.1];exact this
def AQ(hc:X.calm=qz)(I:Inv X cc σ H s)(hG:Same G H)(r:Rep X.K ad G x v)(ru:bG v u)(hr:RK X.K ad G H (nH x) Q E):
  X.wp (call (.type "dict") [u]) (EP X cc σ Q) X.xe s:=by
 cases x<;>try exact ba hr
 rename_i ds;have f:RK X.K ad G H (match kJ ds with|some i=>if i.length<=1000 then .ok (.dct ((tV i).map (·.1)) ((tV i).map (·.2)))else .bad|none=>.bad) Q E:=hr;rcases e:kJ ds with _|i;rw[e]at f;exact f.elim;rw[e]at f;have g:RK X.K ad G H (if i.length<=1000 then .ok (.dct ((tV i).map (·.1)) ((tV i).map (·.2)))else .bad) Q E:=f;by_cases J:i.length<=1000;rw[if_pos J]at g;unfold Rep at r;obtain⟨l,vs,rfl,sq,rs⟩:=r;cases (show u=qh l from ru);obtain⟨pv,p1,p2⟩:=wB e rs;have hh:X.A.handled=qw:=I.ok.hd hc;obtain⟨m,rv,pl,_⟩:=I.list (hG.seq sq);have j:(s.heap.push {cls:=.type "dict",data:=.dict #[]}).DictOf (bJ X.prog X.w) s.z []:=Heap.DictOf.new s.heap;have p:H s.z=qw:=I.hok.fresh (aj _);have I1:Inv X cc σ (upd H s.z (.dK [])) {s with heap:=s.heap.push {cls:=.type "dict",data:=.dict #[]} }:=I.laid (a:=s.z) (o:=.dK []) (t':=s.toks) (λ_ _ q=>ae _ q) (aj _) (oU s.heap I.bigK);refine callType_codes (Q₁:=λy h=>y= .ref s.z/\h={s with heap:=s.heap.push {cls:=.type "dict",data:=.dict #[]} }) F.kt_called_dict (F.kt_typeCall_dict_1 _) F.entry_dict_init (kt_code_dict_new _ ⟨rfl,rfl⟩) ?_;rintro y h ⟨rfl,rfl⟩;refine⟨j.typeIs,F.args_dict_init_2 _ _,?_⟩;unfold Builtin.«dict.__init__»;refine aa ?_;unfold Builtin.Dict.selfAndRest;refine aa (wpAny_notOrdered_dict j.typeIs ?_);show wpAny _ _ (pure (s.z,[qh l])) _ _ _;refine ac ?_;show wpAny _ _ (Builtin.Dict.updateFrom "dict.__init__" s.z (.ref l) [] .none) _ _ _;unfold Builtin.Dict.updateFrom;obtain⟨ol,O,T,S,Z,ab⟩:=pl;have C:s.heap.get? l=pi {cls:=.type "list",dict:=qw,data:=.seq m.toArray O,slots:=ol.slots}:=by
  rw[T];obtain⟨c0,d0,a0,s0⟩:=ol;have c1:c0= .type "list":=S;have d1:d0=qw:=Z;have a1:a0= .seq m.toArray O:=ab;rw[c1,d1,a1]
 have L:({s with heap:=s.heap.push {cls:=.type "dict",data:=.dict #[]} }:Shared).TypeIs (.ref l) "list":=⟨_,ae _ C,rfl⟩;refine aa (wpAny_typeOf L ?_);rw[if_pos (by decide)];refine aa (AO (by exact hh) (ae _ C) λn B t=>?_);rw[if_pos (show(qw:L7 Value).isNone=qz from rfl)];refine aa (wpAny_rule ?_);have N:Inv X cc σ (upd H s.z (.dK [])) {s with heap:=n,toks:=B}:=I1.kept (t':=B) t;have U:n.IsList l m.toArray:=⟨_,t _ _ (ae _ C),rfl,O,rfl⟩;refine aa (wpAny_pyIter_list (s:={s with heap:=n,toks:=B}) U ?_);refine ac ⟨plainId_quiet eN _,?_⟩;have I3:Inv X cc σ (upd H s.z (.dK [])) {s with heap:=n.push {cls:=.type "list_iterator",data:=.fields #[.ref l,.int 0 0]},toks:=B}:=N.kept (t':=B) λb o e=>ae _ e;refine Dc (A:=X.A.in1) (d:=s.z) (it:=n.objs.size) (l:=l) hh .none hG (hG.free p) sq p1 (by rw[<-ng p2];exact J) pv.length 0 _ [] (Nat.sub_zero _) (bu _) (aj _) I3 (N.fpOk (aj _) (N.hok.fresh (aj _))) ⟨_,af _ rfl,rfl,rfl⟩ λs' I'=>?_;rw[List.drop_zero]at I';have Y:=wC p2 (acc:=[]) (es:=[]) .nil;obtain⟨W,M⟩:=Y.rep;refine⟨rfl,uI (ad:=ad) I' hG (.inl p) (hG.free p) W M λv G' H' g1 g2 g3 g4 rr=>?_⟩;refine g v G' H' ⟨g2,g3,λc w e=>?_,λc z1 z2=>?_⟩ rr;rw[g4 c (λz=>by rw[z,p]at e;cases e)];exact e;by_cases z:c=s.z;rw[z];exact p;rw[g1 c z,z1]at z2;exact absurd rfl z2;rw[if_neg J]at g;exact g.elim
def Dd(hc:X.calm=qz)(hg:L2.Gl X "dict")(hm:X.mg "dict"=qw)(ha:ME X ad a f)(he:starEach [a] X.env=(q7,eval a X.env)::starEach [] X.env):ME X ad (.Call (.Name "dict" p) [a] [] pos) (nI f):=by refine λj s x H Q I h=>h.el λG y E w i l m=>?_;refine wpAny_Call_Name_kw (gR I hg hm (u:=.type "dict") (by decide+kernel) ?_ (by decide) (by decide));refine dt (L2.thn (cJ ha eP he pos j s x H (λg c=>∃v d b,g=[v]/\Step G H b c/\Rep X.K ad b d v/\RK X.K ad b c (nH d) Q E) I ?_) λA z ⟨g,c,n,o,v,d,b,q,e,r,k⟩=>?_) he rfl;exact fG w i l m λv d b c e r k=>⟨v,d,b,rfl,e,r,k⟩;subst q;obtain⟨u,rfl,t⟩:=lK o;exact AQ hc n e.gh r t k
end
def cE(h:one l=pi a):l=[a]:=by unfold one at h;split at h;cases h;rfl;cases h
def jK(h:two l=pi (a,b)):l=[a,b]:=by unfold two at h;split at h;cases h;rfl;cases h
def bB(h:cH e=pi (x,p)):e= .Name x p:=by cases e<;>first|(cases h;rfl)|(cases h;done)
def De(h:cH e=qw): ∀x p,e≠ .Name x p:=λx p z=>by subst z;cases h
def AR(h:Jb e=pi (es,k,p)):e= .Tuple es k p:=by cases e<;>first|(cases h;rfl)|(cases h;done)
def AS{lo hi}(h:Eh e=pi (lo,hi)): ∃p,e= .Slice lo hi qw p:=by
 cases e<;>try (cases h;done)
 rename_i a b c p;rcases c with _|c;cases h;exact⟨p,rfl⟩;cases h
def M3(h:J0 dE C a=pi f): ∃x p b q,a= .Call (.Name x p) [b] [] q/\glo C x=pi (.py .range)/\dE b=pi f:=by unfold J0 at h;split at h;rename_i l j d q;split at h;rename_i hk;obtain⟨⟨x,p⟩,c,h⟩:=zBd h;obtain⟨b,e,h⟩:=zBd h;split at h;rename_i i g;exact⟨x,p,b,q,by rw[bB c,cE e,ko.mp hk],g,h⟩;cases h;cases h;cases h
def Df(e:FW dE C a=pi h): ∃x p b c q f g,a= .Call (.Name x p) [b,c] [] q/\glo C x=pi (.py .zip)/\dE b=pi f/\dE c=pi g/\h=qU f g:=by unfold FW at e;split at e;rename_i s r i q;split at e;rename_i hk;obtain⟨⟨x,p⟩,d,e⟩:=zBd e;obtain⟨⟨b,c⟩,l,e⟩:=zBd e;simp only at e;split at e;rename_i o n;obtain⟨f,j,e⟩:=zBd e;obtain⟨g,m,e⟩:=zMd e;exact⟨x,p,b,c,q,f,g,by rw[bB d,jK l,ko.mp hk],n,j,m,e.symm⟩;cases e;cases e;cases e
def eG{α:Type}{l:L1 α}(h:l.isEmpty=qz):l=[]:=ko.mp h
def gN:Expr->Prop
 |.Starred _ _=>False
 |_=>True
def aK(h:gN e):starEach (e::es) env=(q7,eval e env)::starEach es env:=by cases e<;>first|rfl|exact h.elim
def nW:Expr->Prop
 |.Set _ _ _=>False
 |_=>True
def e9(h:nW e):behindInMarks op e=q7:=by cases e<;>first|rfl|exact h.elim
def r8(h:nW c):lastMarks [op,op'] [b,c]=q7:=by show behindInMarks op' c=q7;exact e9 h
def pA(h: ∀a b c d,e≠ .Slice a b c d):y0 e:=by intro o i;cases e<;>first|rfl|exact absurd rfl (h _ _ _ _)
def aL(h:bT n C e=pi f):gN e/\nW e/\∀a b c d,e≠ .Slice a b c d:=by rcases n with _|n;cases h;cases e<;>first|(cases h;done)|(refine⟨trivial,trivial,?_⟩;intro a b c d z;cases z;done)
def cZ(h:xR n C e=pi f):gN e/\nW e:=by
 rcases n with _|n;cases h;by_cases a: ∃x p,e= .Name x p;obtain⟨x,p,rfl⟩:=a;exact⟨trivial,trivial⟩;have:bT n C e=pi f:=by
  rw[<-h];cases e<;>first|rfl|exact absurd ⟨_,_,rfl⟩ a
 exact⟨(aL this).1,(aL this).2.1⟩
def jL(h:Cq n C tt e=pi f):nW e:=by rcases n with _|n;cases h;cases e<;>first|trivial|exact(cZ h).2
section
variable{ad:Ad}{X:Cx}{C:SK.Ctx}{n:Nat}
def p5(ad:Ad)(n:Nat):Prop:= ∀(X:Cx) (C:SK.Ctx) (e:Expr) (f:F),CtxOk X ad C->bT n C e=pi f->ME X ad e f/\MT X ad e f/\∀op es p,e= .BoolOp op es p->MW X ad e f
def Ha(ad:Ad)(n:Nat):Prop:= ∀(X:Cx) (C:SK.Ctx) (e:Expr) (f:F),CtxOk X ad C->xR n C e=pi f->ML X ad e f
def K2(ad:Ad)(n:Nat):Prop:= ∀(X:Cx) (C:SK.Ctx) (tg e:Expr) (tt:Bool) (f:F),CtxOk X ad C->(tt=qz->∃es k p,tg= .Tuple es k p)->Cq n C tt e=pi f->MI X ad tg e f/\(tt=q7->(∀x p,e≠ .Name x p)->MIG X ad tg e f)
theorem nB(hE:p5 ad n)(O:CtxOk X ad C): ∀{es} {fs},eM (bT n C) es=pi fs->MA X ad es fs/\∀e∈es,gN e
 |[],fs,h=>by
  cases h;exact⟨zU,λ_ h=>by cases h⟩
 |e::es,fs,h=>by
  unfold eM at h;rcases b:bT n C e with _|f;rw[b]at h;cases h;rw[b]at h;obtain⟨r,g,j⟩:=zMd h;subst j;obtain⟨q1,i⟩:=nB hE O g;have d:=(aL b).1;exact⟨oV (hE X C e f O b).1 q1 (aK d),λa c=>by
   rcases av.mp c with rfl|c;exact d;exact i a c⟩
theorem fS{α β}{f:α->L7 β}: ∀{l} {r},eM f l=pi r->r.length=l.length
 |[],r,h=>by cases h;rfl
 |x::l,r,h=>by
  unfold eM at h;rcases e:f x with _|y;rw[e]at h;cases h;rw[e]at h;obtain⟨c,a,b⟩:=zMd h;subst b;simp[fS a]
theorem wD{env}{pos}: ∀{es},(∀e∈es,gN e)->(backTo pos (starEach es env)).any (·.1)=q7
 |[],_=>rfl
 |e::es,h=>by
  rw[aK (h e (.head _))];show(q7||(backTo pos (starEach es env)).any (·.1))=q7;rw[wD λa b=>h a (.tail _ b)];rfl
def N7(hE:p5 ad n)(hL:Ha ad n)(O:CtxOk X ad C)(hg:glo C x=pi (.py p))(h:F1 (bT n C) (xR n C) C p as=pi f):ME X ad (.Call (.Name x np) as [] pos) f:=by obtain⟨l,q,o,m⟩:=O.gl hg;unfold F1 at h;split at h;have e:=zBd h;clear h;obtain⟨a,j,h⟩:=e;cases cE j;obtain⟨i,d,rfl⟩:=zMd h;subst o;exact l4 zZ l m (by decide+kernel) (hL X C _ i O d) (by decide) q (aK (cZ d).1);have e:=zBd h;clear h;obtain⟨a,j,h⟩:=e;cases cE j;obtain⟨i,d,rfl⟩:=zMd h;subst o;exact vL Gj l m (by decide+kernel) (hL X C _ i O d) (by decide) q (aK (cZ d).1);have e:=zBd h;clear h;obtain⟨a,j,h⟩:=e;cases cE j;obtain⟨i,d,rfl⟩:=zMd h;subst o;exact vL Gk l m (by decide+kernel) (hL X C _ i O d) (by decide) q (aK (cZ d).1);have e:=zBd h;clear h;obtain⟨a,j,h⟩:=e;cases cE j;obtain⟨i,d,rfl⟩:=zMd h;subst o;exact vL z9 l m (by decide+kernel) (hL X C _ i O d) (by decide) q (aK (cZ d).1);have e:=zBd h;clear h;obtain⟨a,j,h⟩:=e;cases cE j;subst o;rcases d:xR n C a with _|i;rw[d]at h;obtain⟨i,r,rfl⟩:=zMd h;obtain⟨y,K,b,c,L,z,E,rfl,J,v,u,rfl⟩:=Df r;obtain⟨G,M,B,A⟩:=O.gl J;subst B;exact uF G A l m O.calm (hE X C _ z O v).1 (hE X C _ E O u).1 (aK (aL v).1) (aK (aL u).1);rw[d]at h;cases h;exact vL CD l m (by decide+kernel) (hL X C _ i O d) (by decide) q (aK (cZ d).1);have e:=zBd h;clear h;obtain⟨a,j,h⟩:=e;cases cE j;obtain⟨i,d,rfl⟩:=zMd h;subst o;exact l4 (Gm O.hd) l m (by decide+kernel) (hL X C _ i O d) (by decide) q (aK (cZ d).1);have e:=zBd h;clear h;obtain⟨a,j,h⟩:=e;cases cE j;obtain⟨i,d,rfl⟩:=zMd h;subst o;exact l4 (Gn O.hd) l m (by decide+kernel) (hL X C _ i O d) (by decide) q (aK (cZ d).1);cases h;cases h;have e:=zBd h;clear h;obtain⟨a,j,h⟩:=e;cases cE j;obtain⟨i,d,rfl⟩:=zMd h;subst o;exact l4 (uJ O.calm) l m (by decide+kernel) (hL X C _ i O d) (by decide) q (aK (cZ d).1);cases h;cases h;have e:=zBd h;clear h;obtain⟨⟨a,b⟩,j,h⟩:=e;cases jK j;have e:=zBd h;clear h;obtain⟨⟨tn,N⟩,I,h⟩:=e;cases bB I;obtain⟨i,d,h⟩:=zBd h;obtain⟨g,H,h⟩:=zBd h;obtain⟨P,r,rfl⟩:=zMd h;subst o;obtain⟨Q,w,t⟩:=EI O H r;by_cases s:bsN C a=qz;rw[if_pos s]at d;exact uD O.exc l m w t (hL X C _ i O d) (aK (cZ d).1);rw[if_neg s]at d;exact uD O.exc l m w t (hE X C _ i O d).1.ml (aK (aL d).1);cases h
def K3(hE:p5 ad n)(O:CtxOk X ad C)(h:txN (bT n C) C x p m a=pi f)(hl:(ap.endLine==cp.line)=qz):ME X ad (.Call (.Attribute (.Name x p) m ap) [a] [] cp) f:=by unfold txN at h;split at h;split at h;rename_i d;subst d;obtain⟨fo,e,h⟩:=zBd h;obtain⟨c,b,rfl⟩:=zMd h;exact CU (hE X C _ fo O e).1 (hE X C _ c O b).1 rfl (aK (aL b).1) hl;split at h;rename_i d;subst d;obtain⟨fo,e,h⟩:=zBd h;obtain⟨c,b,rfl⟩:=zMd h;exact GI (hE X C _ fo O e).1 (hE X C _ c O b).1 rfl (aK (aL b).1) hl;cases h;split at h;rename_i d;subst d;split at h;rename_i kvs o;obtain⟨c,b,rfl⟩:=zMd h;obtain⟨j,i,A,g,l⟩:=O.gl o;exact KI l j g i (hE X C _ c O b).1 (aK (aL b).1) hl;cases h;cases h
def K4(hE:p5 ad n)(hL:Ha ad n)(O:CtxOk X ad C)(h:txA (bT n C) (xR n C) C o m as=pi f)(hl:(ap.endLine==cp.line)=qz):ME X ad (.Call (.Attribute o m ap) as [] cp) f:=by unfold txA at h;have g:=zBd h;clear h;obtain⟨a,c,h⟩:=g;cases cE c;split at h;split at h;split at h;rename_i e;subst e;obtain⟨d,b,rfl⟩:=zMd h;exact GH (hL X C _ d O b) (aK (cZ b).1) hl;cases h;cases h;exact K3 hE O h hl;cases h
def pB(h:ME X ad e f)(ht: ∀whole,isTrue e X.env whole=(do let v<-whole;standAt e.pos;holding [v] (truthy v)))(hb: ∀op es p,e≠ .BoolOp op es p):ME X ad e f/\MT X ad e f/\∀op es p,e= .BoolOp op es p->MW X ad e f:=
 ⟨h,Ew h ht,λop es p z=>absurd z (hb op es p)⟩
def AT(h:MW X ad e f):MT X ad e f:=λa s b H Q I t=>h _ a s b H Q I t
def K5{tg}(h:cF tg=pi (xs,k)):xs.length=(if k=0 then 1 else k)/\((k != 0)=qz->∃es j p,tg= .Tuple es j p):=by
 cases tg<;>try (cases h;done)
 cases h;exact⟨rfl,λz=>absurd z (by decide)⟩;rename_i es j p;unfold cF at h;obtain⟨c,d,a⟩:=zBd h;by_cases b:2<=c.length;rw[if_pos b]at a;cases a;exact⟨by rw[if_neg (by lia)],λ_=>⟨es,j,p,rfl⟩⟩;rw[if_neg b]at a;cases a
def nX(hE:p5 ad n)(hI:K2 ad n)(O:CtxOk X ad C){elt tg it}(h:bT (n+1) C (.ListComp elt [⟨tg,it,ifs,0⟩] sc pos)=pi f):
  ∃xs k cs fi fc fe,f=a8 k cs fi fc fe/\(cF tg=pi (xs,k)/\bT n {C with sc:=sc,N:=xs++bE sc} elt=pi fe)/\CompSc X C sc xs cs/\MI X ad tg it fi/\(∀a b c,it≠ .Set a b c)/\xs.length=(if k=0 then 1 else k)/\(∀fp s3 H3 pins',PG (cX X (xs++bE sc) sc s3 H3 fp pins') tg (gTg X.K k))/\
   (∀fp s3 H3 pins',MTs (cX X (xs++bE sc) sc s3 H3 fp pins') ad ifs fc)/\∀fp s3 H3 pins',ME (cX X (xs++bE sc) sc s3 H3 fp pins') ad elt fe:=by
 have B:((cF tg).bind fun(xs,k)=>(Cq n C (k != 0) it).bind fun fi=>if lR sc xs then
    (eM (λx=>fZ C x) (bE sc)).bind λcs=>(match ifs with
    |[]=>pi qw
    |[c]=>(bT n {C with sc:=sc,N:=xs++bE sc} c).map pi
    |_=>qw).bind λc=>(bT n {C with sc:=sc,N:=xs++bE sc} elt).map λe=>a8 k cs fi c e
   else qw)=pi f:=h
 clear h;obtain⟨⟨xs,k⟩,p,h⟩:=zBd B;obtain⟨fi,w,h⟩:=zBd h;obtain⟨y,E⟩:=K5 p;by_cases m:lR sc xs=qz;rw[if_pos m]at h;obtain⟨cs,u,h⟩:=zBd h;obtain⟨fc,q,h⟩:=zBd h;obtain⟨fe,s,A⟩:=zMd h;obtain⟨J,H,t,L,v,I,M⟩:=j5 m;have j: ∀fp s3 H3 pins',CtxOk (cX X (xs++bE sc) sc s3 H3 fp pins') ad {C with sc:=sc,N:=xs++bE sc}:=λfp s3 H3 pins'=>KJ O m u;refine⟨xs,k,cs,fi,fc,fe,A.symm,⟨p,s⟩,Az O m u,(hI X C tg it _ fi O E w).1,λa b c z=>?_,y,λfp s3 H3 pins'=>?_,λfp s3 H3 pins'=>?_,λfp s3 H3 pins'=>(hE _ _ elt fe (j fp s3 H3 pins') s).1⟩;subst z;exact jL w;by_cases d:q9 sc=[];case neg=>
  rcases H with z|⟨z,l⟩;exact absurd z d;obtain⟨x,rfl⟩:=gc.mp l;refine GK (X:=cX X ([x]++bE sc) sc s3 H3 fp pins') (x:=x) v p rfl rfl ?_ (decide_eq_true z);show(relabel sc X.env).names.lookup x=pi .cell;have o:=cR (env:=X.env) (x:=x) (names:=sc.names);rw[t x (.head _),z]at o;exact o
 refine N0 (X:=cX X (xs++bE sc) sc s3 H3 fp pins') O.calm v p λi x r=>⟨?_,?_⟩;show(xs++bE sc)[i]? =pi x;rw[bx (ay.mp r).1];exact r;show(relabel sc X.env).names.lookup x=pi .local;have o:=cR (env:=X.env) (x:=x) (names:=sc.names);rw[t x (List.mem_of_getElem? r),d]at o;exact o;split at q;cases q;trivial;obtain⟨g,G,rfl⟩:=zMd q;exact(hE _ _ _ g (j fp s3 H3 pins') G).2.1;cases q;rw[if_neg m]at h;cases h
def iO{C}(h:atF C f e=pi i): ∃x p q,e= .Attribute (.Name x p) f q/\loc C x=pi i:=by
 unfold atF at h;obtain⟨⟨o,g,q⟩,c,j⟩:=zBd h;have a:(if g=f then(cH o).bind λ(x,_)=>loc C x else qw)=pi i:=j;by_cases b:g=f;rw[if_pos b]at a;subst b;obtain⟨⟨x,p⟩,l,d⟩:=zBd a;cases bB l;refine⟨x,p,q,?_,d⟩;cases e<;>first|(cases c;rfl)|(cases c;done)
 rw[if_neg b]at a;cases a
def pC{C}(h:Jd C e=pi (i,b)): ∃x p q,e= .Attribute (.Name x p) (if b then "done" else "undone") q/\loc C x=pi i:=by unfold Jd at h;split at h;rename_i j c;cases h;exact iO c;obtain⟨j,a,d⟩:=zMd h;cases d;exact iO a
def pE(hs: ∀e∈es,gN e)(hl:es.length<20):methodCallForm (es.length+([]:L1 Keyword).length) (backTo cp (starEach es env)) (backToKw cp (keywordEach [] env))=qz:=by
 have all: ∀es:L1 Expr,(∀e∈es,gN e)->(backTo cp (starEach es env)).all (!·.1)=qz/\(backTo cp (starEach es env)).any (·.1)=q7:=by
  intro es;induction es with
  |nil=>intro _;exact⟨rfl,rfl⟩
  |cons e es d=>
   intro hs;obtain⟨a,b⟩:=d λe c=>hs e (.tail _ c);rw[aK (hs e (.head _))];exact⟨a,b⟩
 unfold methodCallForm;rw[(all es hs).1];show(qz&&qz&&decide (es.length+0+0<30))=qz;simp;lia
def gH(hs: ∀e∈es,gN e):(backTo cp (starEach es env)).any (·.1)=q7:=by
 induction es with
 |nil=>rfl
 |cons e es a=>
  rw[aK (hs e (.head _))];exact a λe b=>hs e (.tail _ b)
def N8{X}(h:gN e)(hl:(ap.endLine==cp.line)=qz):M1 X (.Attribute (.Name x p) "held" pos) "get" ap e cp:=by refine⟨rfl,?_,hl,?_⟩;rw[aK h];rfl;rw[aK h];rfl
def Hb(hE:p5 ad n)(O:CtxOk X ad C)(h:MU (bT n C) C e=pi f):ME X ad e f/\MT X ad e f/\∀op es p,e= .BoolOp op es p->MW X ad e f:=by
 unfold MU at h;rcases v:rkc C with _|am;rw[v]at h;cases h;obtain⟨A,ms⟩:=am;rw[v]at h;have E:N4 X ad "Rack" (.cls A ms):=by
  unfold rkc at v;split at v;rename_i a' ag e';cases v;exact(O.gt _ _ e').2;cases v
 obtain⟨_,u,MO⟩:=E;simp only at h;split at h;rename_i a op cs pos;have c:=zBd h;clear h;obtain⟨b,G,h⟩:=c;cases cE G;unfold J1 at h;split at h;rename_i J t;have c:=zBd h;clear h;obtain⟨i,d,h⟩:=c;obtain⟨g,s,rfl⟩:=zMd h;obtain⟨x,p,q,rfl,l⟩:=iO d;have j:=O.vis x i l;have S:op=if J then .NotIn else .In:=by
  cases op<;>first|(cases t;rfl)|(cases t;done)
 subst S;have Y:=KW (p:=p) (ap:=q) O.un u j (hE X C _ g O s).1 J;exact⟨Jt Y (e9 trivial),v6 (e9 trivial) λI hG hS c hr=>Y _ _ _ _ _ I ⟨_,_,_,hG,hS,c,hr⟩,λ_ _ _ z=>nomatch z⟩;have c:=zBd h;clear h;obtain⟨⟨i,Q⟩,d,h⟩:=c;obtain⟨g,s,rfl⟩:=zMd h;obtain⟨x,p,q,rfl,l⟩:=pC d;have j:=O.vis x i l;have Z:=(EK (ad:=ad) (p:=p) (pos:=q) u j Q).lk;have lb:=(hE X C _ g O s).1.look;have m:=(aL s).2.1;exact⟨GT O.un Z lb (e9 m),GU O.un Z lb (e9 m),λ_ _ _ z=>nomatch z⟩;rename_i a b pos;have c:=zBd h;clear h;obtain⟨i,d,h⟩:=c;obtain⟨g,s,rfl⟩:=zMd h;obtain⟨x,p,q,rfl,l⟩:=iO d;have j:=O.vis x i l;exact pB (GV O.un u j (hE X C _ g O s).1 (pA (aL s).2.2)) (λ_=>rfl) (λ_ _ _ z=>nomatch z);rename_i fe as ab cp;split at h;rename_i hk;cases ko.mp hk;split at h;rename_i o m ap;split at h;rename_i W;unfold J9 at h;split at h;rename_i x p hv;cases bB hv;have c:=zBd h;clear h;obtain⟨i,d,h⟩:=c;have c:=zBd h;clear h;obtain⟨⟨n0,M⟩,s,h⟩:=c;have j:=O.vis x i d;simp only at h;split at h;rename_i w;have c:=zBd h;clear h;obtain⟨fs,U,h⟩:=c;split at h;rename_i hn;cases h;obtain⟨ma,N⟩:=nB hE O U;exact pB (KZ u (MO m n0 M s) j ma hn (λa r e=>by
  subst e;exact⟨aK (N a (.head _)),gH λe he=>N e (.tail _ he)⟩) (fS U).symm (pE N w) W) (λ_=>rfl) (λ_ _ _ z=>nomatch z)
 cases h;cases h;split at h;rename_i hm;subst hm;have c:=zBd h;clear h;obtain⟨i,d,h⟩:=c;have c:=zBd h;clear h;obtain⟨a,G,h⟩:=c;cases cE G;obtain⟨g,s,rfl⟩:=zMd h;obtain⟨x,p,q,rfl,l⟩:=iO d;have j:=O.vis x i l;exact pB (GW O.un u j (hE X C _ g O s).1 (N8 (aL s).1 W)) (λ_=>rfl) (λ_ _ _ z=>nomatch z);cases h;cases h;rename_i x p;have c:=zBd h;clear h;obtain⟨a,G,h⟩:=c;cases cE G;unfold O5 at h;split at h;rename_i K;obtain⟨i,d,rfl⟩:=zMd h;obtain⟨y,py,q,rfl,l⟩:=iO d;have j:=O.vis y i l;obtain⟨H,L,B,T⟩:=O.gl K;cases (show x="sorted" from B);exact pB (GZ O.calm u H T j) (λ_=>rfl) (λ_ _ _ z=>nomatch z);rename_i K;have c:=zMd h;clear h;obtain⟨⟨i,Q⟩,d,rfl⟩:=c;obtain⟨y,py,q,rfl,l⟩:=pC d;have j:=O.vis y i l;obtain⟨H,L,B,T⟩:=O.gl K;cases (show x="len" from B);exact pB (l4 zZ H T (by decide+kernel) (EK u j Q) (by decide) L rfl) (λ_=>rfl) (λ_ _ _ z=>nomatch z);rename_i K;split at h;rename_i hB;subst hB;have c:=zBd h;clear h;obtain⟨⟨y,py⟩,d,h⟩:=c;obtain⟨i,l,rfl⟩:=zMd h;cases bB d;have j:=O.vis y i l;obtain⟨H,L,B⟩:=O.gl K;exact pB (G6 B H L j) (λ_=>rfl) (λ_ _ _ z=>nomatch z);cases h;cases h;cases h;cases h;cases h
def N9{X}(ha:gN a)(hb:gN b)(hl:(ap.endLine==cp.line)=qz):M2 X (.Name x p) "get" ap a b cp:=by refine⟨rfl,?_,hl,?_⟩;rw[aK ha,aK hb];rfl;rw[aK ha,aK hb];rfl
def K6(hE:p5 ad n)(O:CtxOk X ad C)(h:dkE (bT n C) C e=pi f):ME X ad e f/\MT X ad e f/\∀op es p,e= .BoolOp op es p->MW X ad e f:=by
 unfold dkE at h;split at h;rename_i E H q B;split at h;rename_i hk;cases ko.mp hk;split at h;rename_i o m A;split at h;rename_i v;obtain⟨rfl,t,r⟩:=v;have c:=zBd h;clear h;obtain⟨⟨a,b⟩,g,h⟩:=c;cases jK g;have c:=zBd h;clear h;obtain⟨fo,d,h⟩:=c;have c:=zBd h;clear h;obtain⟨i,l,h⟩:=c;obtain⟨fb,j,rfl⟩:=zMd h;cases o<;>try (cases t;done)
 exact pB (Db O.un (hE X C _ fo O d).1 (hE X C _ i O l).1 (hE X C _ fb O j).1 (N9 (aL l).1 (aL j).1 r)) (λ_=>rfl) (λ_ _ _ z=>nomatch z);cases h;rename_i x p;have c:=zBd h;clear h;obtain⟨a,g,h⟩:=c;cases cE g;split at h;rename_i I y;obtain⟨i,d,rfl⟩:=zMd h;obtain⟨u,G,s,w⟩:=O.gl y;cases (show x="dict" from s);exact pB (Dd O.calm u w (hE X C _ i O d).1 (aK (aL d).1)) (λ_=>rfl) (λ_ _ _ z=>nomatch z);cases h;cases h;cases h;cases h
def AU(hE:p5 ad n)(O:CtxOk X ad C)(h:rkE (bT n C) C e=pi f):ME X ad e f/\MT X ad e f/\∀op es p,e= .BoolOp op es p->MW X ad e f:=by unfold rkE at h;rcases a:MU (bT n C) C e with _|g;rw[a]at h;exact K6 hE O h;rw[a]at h;cases h;exact Hb hE O a
def Hc(h:NN l=pi (a,b)):l=[a,b]:=by unfold NN at h;split at h;cases h;rfl;cases h
def AV(h:MV o=pi x): ∃j p,o=pi (.Constant (.str x) j p):=by unfold MV at h;have a:=zBd h;clear h;obtain⟨e,rfl,h⟩:=a;split at h;split at h;cases h;exact⟨_,_,rfl⟩;cases h;cases h
def K7(hE:p5 ad n)(O:CtxOk X ad C)(h:dkD (bT n C) ks vs=pi f):ME X ad (.Dict ks vs pos) f:=by unfold dkD at h;split at h;rename_i hk;rw[aw]at hk;cases ko.mp hk.1;cases ko.mp hk.2;cases h;exact C9;have a:=zBd h;clear h;obtain⟨⟨r,s⟩,g,h⟩:=a;cases Hc g;have a:=zBd h;clear h;obtain⟨⟨t,m⟩,b,h⟩:=a;cases jK b;have a:=zBd h;clear h;obtain⟨x,e,h⟩:=a;have a:=zBd h;clear h;obtain⟨y,c,h⟩:=a;have a:=zBd h;clear h;obtain⟨i,j,h⟩:=a;obtain⟨fb,d,rfl⟩:=zMd h;obtain⟨o,q,rfl⟩:=AV e;obtain⟨l,p,rfl⟩:=AV c;exact Da (hE X C _ i O j).1 (hE X C _ fb O d).1
def Oa(hE:p5 ad n)(hL:Ha ad n)(hI:K2 ad n):p5 ad (n+1):=by
 intro X C e f O h;unfold bT at h;split at h
 .
  rename_i x pos;refine pB ?_ (λ_=>rfl) (λ_ _ _ z=>nomatch z)
  cases e1:loc C x with
  |some i=>
   rw[e1]at h;cases h;have vz:=O.vis x i e1;exact zF vz
  |none=>
   rw[e1]at h
   simp only at h
   split at h
   .rename_i d E;cases h;obtain⟨M,J,u,v,g3,g4,g5⟩:=O.gl E;exact zG M g3 g4 g5 J
   .rename_i k0 n0 f0 E;cases h;obtain⟨M,J,r,f,T,hr,hf⟩:=O.gl E;subst hf;exact zG (v:=.ref (ad.fnA k0)) M T.mg rfl (λG=>by unfold Rep;rfl) J
   .cases h
 .obtain⟨d,g,rfl⟩:=zMd h;exact pB (kU g) (λ_=>rfl) (λ_ _ _ z=>nomatch z)
 .obtain⟨l,g,h⟩:=zBd h;obtain⟨fb,j,rfl⟩:=zMd h;exact pB (Em (hE X C _ l O g).1 (hE X C _ fb O j).1) (λ_=>rfl) (λ_ _ _ z=>nomatch z)
 .obtain⟨l,g,h⟩:=zBd h;obtain⟨q1,t,_⟩:=hE X C _ l O g;split at h
  .cases h;exact⟨Km q1,Ey t,λ_ _ _ z=>nomatch z⟩
  .cases h;exact pB (Kn q1) (λ_=>rfl) (λ_ _ _ z=>nomatch z)
  .cases h
 .rename_i op es pos;split at h
  .rename_i a b;obtain⟨l,g,h⟩:=zBd h;obtain⟨fb,j,rfl⟩:=zMd h;obtain⟨q1,t,_⟩:=hE X C _ l O g;obtain⟨L,r2,_⟩:=hE X C _ fb O j
   cases op with
   |And=>
    have W:MW X ad (.BoolOp .And [a,b] pos) (kC l fb):=Ez t (zS r2);exact⟨Eu q1 (Ev L),AT W,λ_ _ _ _=>W⟩
   |Or=>
    have W:MW X ad (.BoolOp .Or [a,b] pos) (rOr l fb):=Gg t (zS r2);exact⟨Kp q1 (Ev L),AT W,λ_ _ _ _=>W⟩
  .rename_i a b c r;obtain⟨l,g,h⟩:=zBd h;obtain⟨fb,j,rfl⟩:=zMd h;obtain⟨q1,t,_⟩:=hE X C _ l O g;obtain⟨L,r2,r3⟩:=hE X C _ fb O j
   cases op with
   |And=>
    have W:MW X ad (.BoolOp .And (a::b::c::r) pos) (kC l fb):=Ez t (r3 _ _ _ rfl);exact⟨Eu q1 L,AT W,λ_ _ _ _=>W⟩
   |Or=>
    have W:MW X ad (.BoolOp .Or (a::b::c::r) pos) (rOr l fb):=Gg t (r3 _ _ _ rfl);exact⟨Kp q1 L,AT W,λ_ _ _ _=>W⟩
  .cases h
 .split at h
  .rename_i fr s;cases h;exact AU hE O s
  rename_i q;clear q;split at h
  .have A:=zBd h;clear h;obtain⟨b,B,h⟩:=A
   cases cE B
   obtain⟨l,g,h⟩:=zBd h;obtain⟨fb,j,rfl⟩:=zMd h;exact⟨Ks O.un (hE X C _ l O g).1 (hE X C _ fb O j).1 (e9 (aL j).2.1),EA O.un (hE X C _ l O g).1 (hE X C _ fb O j).1 (e9 (aL j).2.1),λ_ _ _ z=>nomatch z⟩
  .have A:=zBd h;clear h;obtain⟨⟨b,c⟩,B,h⟩:=A
   cases jK B
   obtain⟨l,g,h⟩:=zBd h;obtain⟨fb,j,h⟩:=zBd h;obtain⟨U,w,rfl⟩:=zMd h;exact⟨Cz O.un (hE X C _ l O g).1 (hE X C _ fb O j).1 (hE X C _ U O w).1 (r8 (aL w).2.1),CB O.un (hE X C _ l O g).1 (hE X C _ fb O j).1 (hE X C _ U O w).1 (r8 (aL w).2.1),λ_ _ _ z=>nomatch z⟩
  .cases h
 .exact pB (K7 hE O h) (λ_=>rfl) (λ_ _ _ z=>nomatch z)
 .split at h
  .rename_i I;obtain⟨fs,g,rfl⟩:=zMd h;exact pB (Kt (nB hE O g).1 (by rw[fS g];exact I)) (λ_=>rfl) (λ_ _ _ z=>nomatch z)
  .cases h
 .split at h
  .rename_i I;obtain⟨fs,g,rfl⟩:=zMd h;exact pB (EB (nB hE O g).1 (by rw[fS g];exact I)) (λ_=>rfl) (λ_ _ _ z=>nomatch z)
  .cases h
 .
  rename_i a b pos;split at h
  .rename_i fr s;cases h;exact AU hE O s
  rename_i q;clear q;have A:=zBd h;clear h;obtain⟨l,g,h⟩:=A;split at h
  .rename_i lo hi hv;obtain⟨p,rfl⟩:=AS hv;obtain⟨fl,j,h⟩:=zBd h;obtain⟨fh,w,rfl⟩:=zMd h;refine pB (Kx (hL X C _ l O g).lk ?_ ?_) (λ_=>rfl) (λ_ _ _ z=>nomatch z)
   .split at j
    .cases j;trivial
    .obtain⟨k,h4,rfl⟩:=zMd j;exact(hE X C _ k O h4).1
   .split at w
    .cases w;trivial
    .obtain⟨k,h4,rfl⟩:=zMd w;exact(hE X C _ k O h4).1
  .obtain⟨fb,j,rfl⟩:=zMd h;exact pB (Kv (hL X C _ l O g).lk (hE X C _ fb O j).1 (pA (aL j).2.2)) (λ_=>rfl) (λ_ _ _ z=>nomatch z)
 .
  rename_i am ak sc pos;refine pB ?_ (λ_=>rfl) (λ_ _ _ z=>nomatch z)
  split at h
  .rename_i tg it an Y;split at h
   .rename_i ha;subst ha;obtain⟨xs,k,cs,fi,U,fe,rfl,_,S,hi,K,ab,hg,ag,he⟩:=nX (pos:=pos) hE hI O h;exact Gu O.calm S hi K ab hg ag he
   .cases h
  .cases h
 .
  rename_i f' Y al pos;split at h
  .rename_i fr s;cases h;exact AU hE O s
  rename_i q;clear q;refine pB ?_ (λ_=>rfl) (λ_ _ _ z=>nomatch z)
  split at h
  .rename_i Q
   cases eG Q
   split at h
   .rename_i x np;split at h
    .cases h
    .split at h
     .rename_i k1 k2 fn E
      by_cases H:Y.isEmpty=qz
      .rw[if_pos H]at h;cases h
      rw[if_neg H]at h;obtain⟨fs,g,h⟩:=zBd h;split at h
      .rename_i hk;cases h;obtain⟨M,J,r,l,T,hr,_⟩:=O.gl E;obtain⟨q1,t⟩:=nB hE O g
       cases Y with
       |nil=>exact absurd rfl H
       |cons a es=>exact Go T hr M J q1 hk (aK (t a (.head _))) (wD λe he=>t e (.tail _ he))
      .cases h
     .rename_i p E;exact N7 hE hL O E h
     .cases h
   .rename_i o m ap;split at h
    .rename_i ft Z;split at h
     .rename_i I;cases h;exact K4 hE hL O Z I
     .cases h
    have A:=zBd h;clear h;obtain⟨a,B,h⟩:=A
    cases cE B
    split at h
    .rename_i N;rw[aw]at N;obtain⟨fo,g,h⟩:=zBd h;obtain⟨l,j,h⟩:=zBd h
     have y: ∀m,attributeBase o m X.env (eval o X.env)=eval o X.env:=by
      intro m;have B:=N.1
      cases o<;>first|rfl|(cases B;done)
     split at h
     .rename_i hm;cases h;subst hm;exact vX O.un (hL X C _ fo O g) (hE X C _ l O j).1 (aK (aL j).1) (y _) N.2
     .split at h
      .rename_i hm;cases h;subst hm;exact vY O.un (hL X C _ fo O g) (hE X C _ l O j).1 (aK (aL j).1) (y _) N.2
      .cases h
    .cases h
   .cases h
  .cases h
 .cases h
def Ob(hE:p5 ad n):Ha ad (n+1):=by intro X C e f O h;unfold xR at h;split at h;rename_i x p;rcases a:loc C x with _|i;rw[a]at h;exact(hE X C _ f O h).1.ml;rw[a]at h;cases h;have b:=O.vis x i a;exact zX b;exact(hE X C _ f O h).1.ml
def Hd(hE: ∀m,m<n->p5 ad m){X}{C}(O:CtxOk X ad C)(hn: ∀x p,e≠ .Name x p)(h:xR n C e=pi f):ME X ad e f:=by
 rcases n with _|n;cases h;have:bT n C e=pi f:=by
  rw[<-h];cases e<;>first|rfl|exact absurd rfl (hn _ _)
 exact(hE n (jz _) X C e f O this).1
def Oc(hE: ∀m,m<n+1->p5 ad m)(hL:Ha ad n):K2 ad (n+1):=by
 intro X C tg e A f O r h;have c:=hE n (jz _);unfold Cq at h;have i: ∀{x:Str} {j:L1 Expr} {v q:Pos},zC (bT n C) C A x j=pi f->MI X ad tg (.Call (.Name x v) j [] q) f/\(A=q7->MIG X ad tg (.Call (.Name x v) j [] q) f):=by
  intro x j v q h;unfold zC at h;split at h;rename_i a w;obtain⟨u,g,rfl⟩:=zMd h;obtain⟨l,G,t,o⟩:=O.gl w;subst t;have d:=(c X C _ u O g).1;exact⟨CK l o d (aK (aL g).1),λ_=>An l o d (aK (aL g).1)⟩;rename_i a b w;split at h;rename_i s;obtain⟨u,g,h⟩:=zBd h;obtain⟨fb,y,rfl⟩:=zMd h;obtain⟨l,G,t,o⟩:=O.gl w;subst t;obtain⟨J,k,p,rfl⟩:=r s;have I:=(c X C _ u O g).1;have E:=(c X C _ fb O y).1;exact⟨KM l o I E (aK (aL g).1) (aK (aL y).1),λz=>by rw[z]at s;cases s⟩;cases h;cases h
 split at h;rename_i K j B q;split at h;rename_i x p;split at h;exact⟨(i h).1,λz _=>(i h).2 z⟩;exact⟨(i h).1,λz _=>(i h).2 z⟩;exact⟨(i h).1,λz _=>(i h).2 z⟩;have d:=(c X C _ f O h).1;exact⟨Ak d.ml,λ_ _=>uB d⟩;have d:=(c X C _ f O h).1;exact⟨Ak d.ml,λ_ _=>uB d⟩;refine⟨Ak (hL X C _ f O h),λ_ H=>uB (Hd (λm L=>hE m (by lia)) O H h)⟩
def cU: ∀n,p5 ad n/\Ha ad n/\K2 ad n:=by
 have d: ∀n, ∀m,m<=n->p5 ad m/\Ha ad m/\K2 ad m:=by
  intro n;induction n with
  |zero=>
   intro m j;have:m=0:=by lia
   subst this;refine⟨?_,?_,?_⟩;intro X C e f O h;unfold bT at h;cases h;intro X C e f O h;unfold xR at h;cases h;intro X C tg e l f O _ h;unfold Cq at h;cases h
  |succ n i=>
   intro m j;by_cases g:m<=n;exact i m g;have:m=n+1:=by lia
   subst this;obtain⟨a,b,c⟩:=i n (aj _);exact⟨Oa a b c,Ob a,Oc (λm j=>(i m (by lia)).1) b⟩
 exact λn=>d n n (aj _)
end
noncomputable abbrev M4:L1 Value:=[.type "ValueError",.type "Exception",.type "BaseException",.type "object"]
structure StOk(X:Cx)(ad:Ad)(C:SK.Ctx):Prop where
 cx:CtxOk X ad C
 fn: ∀x,X.fn x=qz
 sc:X.env.scope=C.sc
 lc: ∀x i,loc C x=pi i->Loc X.env.scope x
 exm: ∀c,exmOne X.K (.ref (ad.cls c)) (.ref (ad.cls 0))=pi qz
 exi: ∀c,excIn X.K (ad.cls c) M4 "ValueError.__new__"=qz
def Zt(ad:Ad)(E₀:XK)(t:Bool):(St->Nat->Hp->Prop)->Prop:=λE=>t=q7->∀σ c H,E σ c H->E₀ (.ref (ad.cls c)) qw H
section
variable{X:Cx}{ad:Ad}{C:SK.Ctx}{E₀:XK}{t:Bool}{e tg:Expr}{g h:FS}{x:Str}{st:Stmt}
def StOk.nm(O:StOk X ad C)(h:loc C x=pi i):MZ X x i:=⟨(O.cx.vis x i h).1,O.lc x i h,.inl (O.fn x)⟩
theorem StOk.nms(O:StOk X ad C): ∀{xs} {is},eM (λx=>loc C x) xs=pi is->NmsOk X xs is
 |[],_,h=>by cases h;exact .nil
 |x::xs,is,h=>by
  unfold eM at h;rcases e:loc C x with _|j;rw[e]at h;cases h;rw[e]at h;obtain⟨r,a,b⟩:=zMd h;subst b;exact .cons (O.nm e) (O.nms a)
def yA: ∃b,swapsWith (.ListComp elt gens sc cpos) (pi (.Name x pos')) line env=pure b:=⟨_,rfl⟩
def K8{C}{e a}(h:Cp C e=pi a): ∃y p q,e= .Call (.Name y p) [a] [] q/\glo C y=pi (.py .dict):=by unfold Cp at h;split at h;split at h;rename_i hk;cases ko.mp hk;have c:=zBd h;clear h;obtain⟨⟨y,p⟩,d,h⟩:=c;cases bB d;have c:=zBd h;clear h;obtain⟨b,f,h⟩:=c;cases cE f;split at h;rename_i i g;cases h;exact⟨_,_,_,rfl,g⟩;cases h;cases h;cases h
def AW(O:StOk X ad C)(h:bT 50 C e=pi f)(hi:loc C x=pi i):PS X (.Assign [.Name x pos'] e pos) (FD (tE X ad f) (lH i)):=by
 obtain⟨q,B,s⟩:=cU (ad:=ad) 49;obtain⟨t,_,_⟩:=cU (ad:=ad) 50;have nm:=O.nm hi;have p:=(t X C e f O.cx h).1;by_cases o: ∃elt gens sc cpos,e= .ListComp elt gens sc cpos;obtain⟨elt,gens,sc,cpos,rfl⟩:=o;obtain⟨b,n⟩:=yA (x:=x) (pos':=pos') (elt:=elt) (gens:=gens) (sc:=sc) (cpos:=cpos) (line:=pos.line) (env:=X.env);rcases b with _|_;exact nE O.cx.nd nm.1 nm.2.1 p n nm.2.2;have c: ∃tg l a,gens=[⟨tg,l,a,0⟩]:=by
  unfold bT at h;simp only at h;split at h;rename_i tg l a G;split at h;rename_i v;subst v;exact⟨_,_,_,rfl⟩;cases h;cases h
 obtain⟨tg,l,a,rfl⟩:=c;obtain⟨z,k,w,E,y,A,rfl,_,S,g,d,j,r,m,u⟩:=nX q s O.cx h;exact GF O.cx.nd nm O.cx.calm S g d j r m u n;refine nE O.cx.nd nm.1 nm.2.1 p ?_ nm.2.2;have H:=aL h;cases e<;>first|rfl|exact absurd ⟨_,_,_,_,rfl⟩ o|(unfold bT at h;cases h;done)
def AX(P:PS X st (FD (tE X ad f) (lH i))):MS X ad Z st (gL i f):=by refine PS.imp P ?_;rintro h l H ⟨a,G,j,E,S,e,g⟩;exact f8 S e g λv d b c st r k=>k _ b c ((S.step st).set r)
def He(P:PS X st (FD (tE X ad f) (lH i))):MS X ad Z st (xP i f):=by refine PS.imp P ?_;rintro d g H ⟨a,G,e,E,S,b,c⟩;exact KC S b c
def K9(K:oe)(n:Nat)(t:TGs):TG:=λv σ H Q=>∃a xs,v= .ref a/\SqL K H a xs/\xs.length=n/\t xs σ H Q
def Hf{t}(hc:X.calm=qz)(h:PGs X es t)(hn:(assignEach es X.env).length=n)(hst:(assignEach es X.env).findIdx? (·.1)=qw):PG X (.Tuple es k pos) (K9 X.K n t):=by
 intro g s j H v u Q I r f;obtain⟨a,w,z,y,l,f⟩:=f;subst z;cases r;obtain⟨d,i,m,A⟩:=I.list y;have c:d.toArray.size=n:=by simp[<-l,i.length]
 rw[assign_Tuple];refine aa (wpAny_standAt ?_);unfold unpack;rw[hn,hst, <-c];refine aa (wpAny_holding (kun_itemsOf (I.ok.hd hc) m.isList λx p=>?_));have q:Inv X g j H {s with heap:=x}:=I.kept (t':=s.toks) λb o e=>p b o (bh (ah e)) e;exact h g _ j H w _ Q q (by simpa using i) f
def Od(h1:PG X tg g1)(h2:PG X tg g2):PG X tg (λv σ H Q=>g1 v σ H Q\/g2 v σ H Q):=by intro a s σ H v u Q I r h;rcases h with h|h;exact h1 a s σ H v u Q I r h;exact h2 a s σ H v u Q I r h
def AY(O:StOk X ad C)(he:ME X ad e f)(hs:swapsWithSole [.Tuple es j tp] e pos.line X.env=pure q7)(hw:swappedStores [.Tuple es j tp] e X.env=pure qw)(ht:cF (.Tuple es j tp)=pi (xs,k))(hn:NmsOk X xs is):MS X ad Z (.Assign [.Tuple es j tp] e pos) (eU is f):=by
 obtain⟨P,hk⟩:=CM O.cx.calm O.cx.nd ht hn;have L:k≠0:=by
  unfold cF at ht;obtain⟨s,n,h⟩:=zBd ht;by_cases b:2<=s.length;rw[if_pos b]at h;cases h;lia;rw[if_neg b]at h;cases h
 have y:(k==0)=q7:=by simpa using L
 have A:PG X (.Tuple es j tp) (K9 X.K is.length (gIs is)):=by
  unfold cF at ht;obtain⟨s,n,h⟩:=zBd ht;by_cases b:2<=s.length;rw[if_pos b]at h;cases h;obtain⟨q1,I⟩:=j4 (X:=X) n;exact Hf O.cx.calm (Ao O.cx.nd n hn) (by rw[q1,hn.len]) I;rw[if_neg b]at h;cases h
 refine PS.imp (yU he (Od P A) hs hw rfl) ?_;rintro t Q H ⟨i,G,l,E,S,z,u⟩;unfold eU at u;refine f8 S z u λv d x w m r q=>?_;cases d<;>try exact ba q
 case lst c=>
  have g:OKo X ad i (if c.length=is.length then .nx (setN is c l)else .rt .bad) t E:=q;by_cases b:c.length=is.length;rw[if_pos b]at g;unfold Rep at r;obtain⟨a,M,rfl,B,p⟩:=r;exact .inr ⟨a,M,rfl,m.gh.seq B,by rw[p.length,b],vQ (by rw[p.length,b]) (g _ x w ((S.step m).setN p))⟩;rw[if_neg b]at g;exact g.elim
 rename_i c;refine .inl ?_;have g:OKo X ad i (if c.length=is.length then .nx (setN is c l)else .rt .bad) t E:=q;by_cases b:c.length=is.length;rw[if_pos b]at g;refine EF (ρ1:=setN is c l) hk ?_ (S.step m) r λo J=>g o x w J;rw[y];have N:q8 is q7 (.tup c) l=if c.length=is.length then pi (setN is c l)else qw:=by
  rcases is with _|⟨_,_⟩;rfl;rfl
 rw[N,if_pos b];rw[if_neg b]at g;exact g.elim
def npos(x:Str)(p:Pos):(Expr.Name x p).pos=p:=rfl
def kN{x y}{kt k2}(h:((env.scope.names.lookup x=pi .cell\/env.scope.names.lookup y=pi .cell)/\p)/\q):swappedStores [.Tuple [.Name x px,.Name y py] kt pt] (.Tuple [a,b] k2 pt2) env=pure qw:=by
 unfold swappedStores
 have f:env.kindOf x=env.scope.names.lookup x:=rfl
 have d:env.kindOf y=env.scope.names.lookup y:=rfl
 rcases h.1.1 with e|e
 .simp[f,d,e,mn,npos];intro _ _ _ c
  exfalso;revert c
  (repeat' split)<;>simp
 .simp[f,d,e,mn,npos];intro _ _ _ c
  exfalso;revert c
  (repeat' split)<;>simp
def mK{x y}{kt k2}(hb:env.scope.kind= .function)(hx:env.scope.names.lookup x=pi .local)(hy:env.scope.names.lookup y=pi .local)(hne:x≠y)(hl:px.line=py.line)(sa:gN a)(sb:gN b)(h1:[a,b].all (foldedForSure 8)=q7)(h2:[a,b].all (constantsAlone 8)=q7):swappedStores [.Tuple [.Name x px,.Name y py] kt pt] (.Tuple [a,b] k2 pt2) env=pure (pi [x,y]):=by
 have d:env.blockKind= .function:=by unfold qm.blockKind;rw[hb];rfl
 have g:env.kindOf x=pi .local:=hx
 have f:env.kindOf y=pi .local:=hy
 have i:[x,y].eraseDups.length=2:=by
  have:(y==x)=q7:=by simpa using λz=>hne z.symm
  simp[List.eraseDups_cons,this]
 have c: ¬(foldedForSure 8 a=qz/\foldedForSure 8 b=qz):=λ⟨p,q⟩=>by simp[p,q]at h1
 have e: ¬(constantsAlone 8 a=qz/\constantsAlone 8 b=qz):=λ⟨p,q⟩=>by simp[p,q]at h2
 unfold swappedStores;simp[npos,g,f, <-hl,d,i,c,e,mn];intro h;rcases h with h|h
 .cases a<;>first|exact sa.elim|cases h
 .cases b<;>first|exact sb.elim|cases h
def Dg:eU [i,j] (eQ [fa,fb]) ρ=fN ρ (fa ρ) λx=>fN ρ (fb ρ) λy=>.nx ((ρ.set i (.sh x)).set j (.sh y)):=by unfold eU eQ lP args args args;cases fa ρ<;>simp[fN,RA.then]<;>cases fb ρ<;>simp[RA.cons,setN]
def La{i j kt k2}(O:StOk X ad C)(ha:ME X ad a fa)(hb:ME X ad b fb)(sa:gN a)(sb:gN b)(hi:loc C x=pi i)(hj:loc C y=pi j)(ok:xS C x y px py a b=qz):
  MS X ad Z (.Assign [.Tuple [.Name x px,.Name y py] kt pt] (.Tuple [a,b] k2 pt2) pos) (eU [i,j] (eQ [fa,fb])):=by
 unfold xS at ok;simp only[aw,jp]at ok;obtain⟨⟨⟨⟨⟨⟨⟨K,Q⟩,L⟩,T⟩,B⟩,M⟩,_⟩,_⟩:=ok
 have m:X.env.scope.names.lookup x=pi .local:=by rw[O.sc];exact bV K
 have t:X.env.scope.names.lookup y=pi .local:=by rw[O.sc];exact bV Q
 have c:x≠y:=by simpa using L
 have nx:=(O.cx.vis x i hi).1;have h:=(O.cx.vis y j hj).1;have g:i≠j:=λz=>by subst z;rw[nx]at h;exact c (ku h)
 rintro N s e H l I ⟨p,G,U,E,S,n,o⟩;refine Eb (ta:=tH (tE X ad fa) (tH (tE X ad fb) IZ)) O.cx.calm O.cx.nd nx h g m t (cJ ha (cJ hb eP (aK sb)) (aK sa)) (mK I.ok.kind m t c (by simpa using T) sa sb B M) rfl N s e H l I ?_
 rw[Dg]at o;show tE X ad fa e H λv u=>tE X ad fb e u λw f=>∃v' w',[v,w]=[v',w']/\l.nx ((e.set i (pi v')).set j (pi w')) f
 exact f8 S n o λv d W u q r k=>f8 (S.step q) n k λw Y J f st2 A k2=>⟨v,w,rfl,k2 _ J f ((((S.step q).step st2).set (r.mono st2.sg)).set A)⟩
def M5(O:StOk X ad C):StOk (tX X cc D' hd) ad C:=by refine⟨⟨O.cx.N,O.cx.nd,O.cx.vis,O.cx.gk,λx g e=>?_,O.cx.cap,O.cx.calm,O.cx.un,O.cx.hd,O.cx.exc,O.cx.kin,O.cx.kve,λj n F e=>let ⟨r,T,b⟩:=O.cx.fnv j n F e;⟨r,⟨T.kp,T.ok⟩,b⟩⟩,O.fn,O.sc,O.lc,O.exm,O.exi⟩;obtain⟨h,a⟩:=O.cx.gt x g e;refine⟨h,?_⟩;rcases g with ⟨k,n,F⟩|c|_|d|p|kvs|⟨A,o⟩|⟨A,M⟩|⟨A,n,M⟩;obtain⟨r,f,T,b,l⟩:=a;exact⟨r,f,⟨T.mg,T.kp,T.ok⟩,b,l⟩;exact a;exact a;exact a;exact a;exact a;exact⟨a.1,a.2.1,λm n M i=>let z:=a.2.2 m n M i;⟨z.no,z.ok⟩⟩;exact a;exact a
def AZ{e a b}{x y}(h:MX es e=pi ⟨x,px,y,py,a,b⟩): ∃k p,es=[.Name x px,.Name y py]/\e= .Tuple [a,b] k p:=by unfold MX at h;obtain⟨⟨u,v⟩,c,h⟩:=zBd h;obtain⟨⟨q,f⟩,j,h⟩:=zBd h;obtain⟨⟨s,i⟩,d,h⟩:=zBd h;obtain⟨⟨r,k,p⟩,m,h⟩:=zBd h;obtain⟨⟨n,o⟩,g,l⟩:=zMd h;cases l;rw[jK c,bB j,bB d,AR m,jK g];exact⟨k,p,rfl,rfl⟩
def wE{e}(h:FV e=qz): ∃s k p,e= .Constant (.str s) k p:=by
 cases e<;>try (cases h;done)
 rename_i c k p;cases c<;>try (cases h;done)
 exact⟨_,k,p,rfl⟩
def Oe(ad:Ad)(E₀:XK)(n:Nat):Prop:= ∀(X:Cx) (C:SK.Ctx) (t:Bool) (s:Stmt) (g:FS),StOk X ad C->(t=q7->DefX X E₀/\PassesOwn (model X.prog X.w) X.A X.env X.xe)->B7 n t C s=pi g->MS X ad (Zt ad E₀ t) s g
def Dh(ad:Ad)(E₀:XK)(n:Nat):Prop:= ∀(X:Cx) (C:SK.Ctx) (t:Bool) (s:L1 Stmt) (g:FS),StOk X ad C->(t=q7->DefX X E₀/\PassesOwn (model X.prog X.w) X.A X.env X.xe)->m8 n t C s=pi g->MSs X ad (Zt ad E₀ t) s g
theorem Zt.imp(h:MS X ad Z st g)(k: ∀E,Z' E->Z E):MS X ad Z' st g:=PS.imp h λf i H b=>by obtain⟨a,G,d,E,S,c,e⟩:=b;exact⟨a,G,d,E,S,⟨c.1,k E c.2⟩,e⟩
theorem Zts.imp(h:MSs X ad Z sts g)(k: ∀E,Z' E->Z E):MSs X ad Z' sts g:=PSs.imp h λf i H b=>by obtain⟨a,G,d,E,S,c,e⟩:=b;exact⟨a,G,d,E,S,⟨c.1,k E c.2⟩,e⟩
def Di(h:Ka b=pi s):b=[s]:=by unfold Ka at h;split at h;cases h;rfl;cases h
def Of(hS:Dh ad E₀ n):Oe ad E₀ (n+1):=by
 intro X C t s g O G h;obtain⟨w,kL,kI⟩:=cU (ad:=ad) 50;unfold B7 at h;split at h
 .cases h;exact Gy
 .
  split at h
  .cases h
  .split at h
   .rename_i x p B
    cases bB B
    split at h
    .rename_i i K;obtain⟨U,N,T,Q⟩:=O.cx.vis x i K
     cases h;exact vP (zF ⟨U,N,T,Q⟩)
    .obtain⟨f,d,rfl⟩:=zMd h;exact vP (w X C _ f O.cx d).1
   .obtain⟨f,d,rfl⟩:=zMd h;exact iM (vP (w X C _ f O.cx d).1)
 .
  rename_i ts e I;have r:=zBd h;clear h;obtain⟨tg,J,h⟩:=r
  cases cE J
  split at h
  .
   have r:=zBd h;clear h;obtain⟨i,d,h⟩:=r;split at h
   .
    rename_i a ha;obtain⟨f,l,rfl⟩:=zMd h
    have ag:Cp C e=pi a:=by
     split at ha
     .exact ha
     .cases ha
    obtain⟨y,p,q,rfl,K⟩:=K8 ag;obtain⟨Z,g2,Y,g4⟩:=O.cx.gl K
    cases (show y="dict" from Y)
    have nm:=O.nm d;exact iM (C8 O.cx.nd nm.1 nm.2.1 Z g4 (w X C _ f O.cx l).1 (aK (aL l).1) nm.2.2)
   .obtain⟨f,l,rfl⟩:=zMd h;refine iM ?_;split
    .exact He (AW O l d)
    .exact AX (AW O l d)
  .split at h
   .
    rename_i x px y py a b hp;obtain⟨k2,ak,rfl,rfl⟩:=AZ hp;split at h
    .rename_i ab;obtain⟨i,d,h⟩:=zBd h;obtain⟨j,l,h⟩:=zBd h;obtain⟨fa,m,h⟩:=zBd h;obtain⟨fb,L,rfl⟩:=zMd h;exact iM (La O (w X C _ fa O.cx m).1 (w X C _ fb O.cx L).1 (aL m).1 (aL L).1 d l ab)
    .split at h
     .rename_i hc;obtain⟨i,d,h⟩:=zBd h;obtain⟨j,l,h⟩:=zBd h;obtain⟨f,m,rfl⟩:=zMd h
      have hm:eM (λx=>loc C x) [x,y]=pi [i,j]:=by simp[eM,d,l]
      exact iM (AY (xs:=[x,y]) (k:=2) O (w X C _ f O.cx m).1 rfl (kN (by rw[O.sc];simpa[lU]using hc)) rfl (O.nms hm))
     .cases h
   .
    obtain⟨u,J,h⟩:=zBd h;obtain⟨⟨xs,k⟩,d,h⟩:=zBd h;obtain⟨is,l,h⟩:=zBd h;split at h
    .obtain⟨f,m,rfl⟩:=zMd h
     have hf:zE e=qz:=by
      split at J
      .assumption
      .cases J
     exact iM (AY O (w X C _ f O.cx m).1 (by cases e<;>first|rfl|(cases hf;done)) (by cases e<;>first|rfl|(cases hf;done)) d (O.nms l))
    .cases h
  .
   rename_i o k tp;have r:=zBd h;clear h;obtain⟨⟨x,p⟩,B,h⟩:=r
   cases bB B
   obtain⟨i,d,h⟩:=zBd h;obtain⟨U,N,T,Q⟩:=O.cx.vis x i d;split at h
   .obtain⟨f,l,h⟩:=zBd h;obtain⟨g,m,rfl⟩:=zMd h;refine iM (KU O.cx.un ⟨U,N,T,Q⟩ (w X C _ f O.cx l).1 (w X C _ g O.cx m).1 (λv=>?_) ?_ ?_)
    .have W:=(aL m).2.2
     cases k<;>first|rfl|exact absurd rfl (W _ _ _ _)
    .cases e<;>rfl
    .cases e<;>rfl
   .cases h
  .cases h
 .
  split at h
  .rename_i f' as S cp;split at h
   .rename_i A
    cases eG A
    split at h
    .obtain⟨f,d,rfl⟩:=zMd h;exact iM (Gz (w X C _ f O.cx d).1 rfl)
    .cases h
   .cases h
  .cases h
 .obtain⟨f,d,h⟩:=zBd h;obtain⟨ga,l,h⟩:=zBd h;obtain⟨gb,m,rfl⟩:=zMd h;exact iM (GA (w X C _ f O.cx d).2.1 (hS X C t _ ga O G l) (hS X C t _ gb O G m))
 .
  rename_i tg it b M I
  cases t with
  |true=>cases h
  |false=>
   cases M with
   |cons _ _=>cases h
   |nil=>
    simp only[Bool.false_or,List.isEmpty_nil,Bool.not_true]at h;split at h
    .cases h
    rename_i B;obtain⟨⟨xs,k⟩,d,h⟩:=zBd h;obtain⟨f,l,h⟩:=zBd h;obtain⟨is,m,h⟩:=zBd h;split at h
    .obtain⟨gb,L,rfl⟩:=zMd h;have hn: ∀x p,it≠ .Name x p:=λx p z=>by subst z;exact B rfl
     have W: ∀a b c,it≠ .Set a b c:=λa b c z=>by subst z;exact jL l
     exact iM (EG (G rfl).2 O.cx.calm O.cx.nd ((kI X C tg _ q7 f O.cx (λz=>nomatch z) l).2 rfl hn) d (O.nms m) (hS X C q7 _ gb O G L) (Aj W))
    .cases h
 .
  rename_i x c I
  cases t with
  |true=>cases h
  |false=>
   cases c with
   |some _=>cases h
   |none=>
    simp only[Bool.false_or,Option.isSome_none,az,if_false]at h;have r:=zBd h;clear h;obtain⟨e,rfl,h⟩:=r;split at h
    .rename_i f' as S cp;split at h
     .rename_i A
      cases eG A
      have r:=zBd h;clear h;obtain⟨⟨x,p⟩,B,h⟩:=r
      cases bB B
      have r:=zBd h;clear h;obtain⟨a,ho,h⟩:=r
      cases cE ho
      split at h
      .rename_i H;obtain⟨sx,k1,k2,rfl⟩:=wE H;split at h
       .rename_i c K e2;cases h;obtain⟨Z,g2,Y,g4⟩:=O.cx.gl e2;exact Zt.imp (CQ (G rfl).1 O.cx.calm Z Y g2 (O.exi c)) λE z=>z rfl
       .cases h
      .cases h
     .cases h
    .cases h
 .cases h
def Lb(hS:Oe ad E₀ n)(hSs:Dh ad E₀ n):Dh ad E₀ (n+1):=by
 intro X C t s g O b h;have c: ∀a:Stmt,MS X ad (Zt ad E₀ t) a ((B7 n t C a).getD MR):=λa=>by
  rcases e:B7 n t C a with _|f;exact KD;exact hS X C t a f O b e
 unfold m8 at h;split at h;cases h;exact oW;cases h;exact Am (c _);obtain⟨r,d,rfl⟩:=zMd h;exact oX (c _) (hSs X C t _ r O b d)
def mL: ∀n,Oe ad E₀ n/\Dh ad E₀ n:=by
 intro n;induction n with
 |zero=>
  refine⟨?_,?_⟩;intro X C t s g O b h;unfold B7 at h;cases h;intro X C t s g O b h;unfold m8 at h;cases h
 |succ n a=>exact⟨Of a.2,Lb a.1 a.2⟩
end
def Pd(P:Program)(w:World)(K:Frag)(mg:Str->L7 Value)(base:Heap)(k:Nat)(x:Str)(sp:Sp):Prop:= ∃f r fd ps,r<=k/\mg x=pi (.ref f)/\keepIn K (.ref f)=qz/\FnOk P w K mg base (CXe P w) r f fd ps sp/\eA K fd ps []
def GlT(P:Program)(w:World)(K:Frag)(mg:Str->L7 Value)(base:Heap)(ad:Ad)(k:Nat)(x:Str):SK.Gl->Prop
 |.fn j n F=>∃r f,r<=k/\mg x=pi (.ref f)/\keepIn K (.ref f)=qz/\(∃fd ps,FnOk P w K mg base (CXe P w) r f fd ps (xT K ad n F)/\eA K fd ps [])/\f=ad.fnA j
 |.exc c=>mg x=pi (.ref (ad.cls c))/\c<ad.nb
 |.verr=>x="ValueError"/\mg x=qw
 |.val d=>∃u v,mg x=pi u/\bG v u/\∀G,Rep K ad G d v
 |.py p=>x=eC p/\mg x=qw
 |.tbl kvs=>∃A,mg x=pi (.ref A)/\Ay P w K ad A kvs
 |.cls A ms=>mg x=pi (.ref A)/\RkC K A/\∀m n M,ms.lookup m=pi (n,M)->(m≠"held"/\m≠"done"/\m≠"undone")/\∃f r fd ps,r<=k/\Meth K A m f/\FnOk P w K mg base (CXe P w) r f fd ps (spM K ad A n M)/\eA K fd ps []
 |.rfn A M=>Pd P w K mg base k x (spM K ad A 0 M)
 |.rmk A n M=>Pd P w K mg base k x (spR K ad A n M)
def dX(P:Program)(w:World)(K:Frag)(mg:Str->L7 Value)(base:Heap)(ad:Ad)(k:Nat)(tab:L1 (Str×SK.Gl)):Prop:= ∀x g,tab.lookup x=pi g->(x==gV)=q7/\GlT P w K mg base ad k x g
def gI(P:Program)(w:World)(K:Frag)(mg:Str->L7 Value)(base:Heap)(ad:Ad)(k:Nat)(fns:L1 (Nat×Fn)):Prop:= ∀j n F,fns[j]? =pi (n,F)->∃r,r<=k/\keepIn K (.ref (ad.fnA j))=qz/\∃fd ps,FnOk P w K mg base (CXe P w) r (ad.fnA j) fd ps (xT K ad n F)/\eA K fd ps []
structure ExcK(K:Frag)(ad:Ad):Prop where
 exc: ∀c,ExcCls K (ad.cls c)
 kin: ∀c e,c<ad.nb->kitOne K (.ref (ad.cls e)) (.ref (ad.cls c))=pi (hit c e)
 kve: ∀e,kitOne K (.ref (ad.cls e)) (.type "ValueError")=pi qz
 exm: ∀c,exmOne K (.ref (ad.cls c)) (.ref (ad.cls 0))=pi qz
 exi: ∀c,excIn K (ad.cls c) M4 "ValueError.__new__"=qz
section
variable{P:Program}{w:World}{K:Frag}{mg:Str->L7 Value}{base:Heap}{ad:Ad}{k:Nat}{tab:L1 (Str×SK.Gl)}
def GlT.mono(h:GlT P w K mg base ad k x g)(hk:k<=j):GlT P w K mg base ad j x g:=by rcases g with ⟨i,n,F⟩|c|_|d|p|kvs|⟨A,t⟩|⟨A,M⟩|⟨A,n,M⟩;obtain⟨r,f,a,b⟩:=h;exact⟨r,f,om a hk,b⟩;exact h;exact h;exact h;exact h;exact h;exact⟨h.1,h.2.1,λm n M s=>let ⟨no,f,r,o,l,e,q⟩:=h.2.2 m n M s;⟨no,f,r,o,l,om e hk,q⟩⟩;obtain⟨f,r,o,l,e,q⟩:=h;exact⟨f,r,o,l,om e hk,q⟩;obtain⟨f,r,o,l,e,q⟩:=h;exact⟨f,r,o,l,om e hk,q⟩
theorem dX.mono(h:dX P w K mg base ad k tab)(hk:k<=j):dX P w K mg base ad j tab:=λx g e=>⟨(h x g e).1,(h x g e).2.mono hk⟩
def dX.nil:dX P w K mg base ad k []:=λx g e=>by cases e
def dX.cons{x}{g}(h:dX P w K mg base ad k tab)(hd:(x==gV)=q7)(hg:GlT P w K mg base ad k x g):dX P w K mg base ad k ((x,g)::tab):=by
 intro y a e;rw[ke]at e;rcases q:y==x with _|_;rw[q]at e;exact h y a e;rw[q]at e;cases e;have:y=x:=by simpa using q
 subst this;exact⟨hd,hg⟩
def gI.nil:gI P w K mg base ad k []:=λj n F e=>by simp at e
def gI.snoc{F}(h:gI P w K mg base ad k fns)(hk:k<=k')(hl:fns.length=j)(hf:f=ad.fnA j)(hr:r<=k')(kp:keepIn K (.ref f)=qz)(ok:FnOk P w K mg base (CXe P w) r f fd ps (xT K ad n F))(hb:eA K fd ps []):
  gI P w K mg base ad k' (fns++[(n,F)]):=by
 intro i m G e;subst hf;by_cases g:i<fns.length;rw[bx g]at e;obtain⟨c,b,d⟩:=h i m G e;exact⟨c,om b hk,d⟩;rw[bn (by lia)]at e;rcases a:i-fns.length with _|q;rw[a]at e;cases e;have:i=j:=by lia
 subst this;exact⟨r,hr,kp,fd,ps,ok,hb⟩;rw[a]at e;simp at e
def cM(h:bP N Ps sc=qz):FnScope N Ps sc/\∀x∈N,(x==gV)=q7/\(x==hK)=q7:=by unfold bP at h;simp only[aw]at h;obtain⟨⟨⟨⟨⟨⟨⟨b,f⟩,c⟩,i⟩,e⟩,g⟩,d⟩,j⟩:=h;refine⟨⟨by simpa using b,by simpa using f,by simpa using c,of_decide_eq_true i,of_decide_eq_true e,λx a=>?_,λy l z=>?_⟩,λx a=>?_⟩;have:=zAd g x a;rcases(Bool.or_eq_true _ _).mp this with z|z;exact .inl (bV z);exact .inr (bV z);have:=zAd d y l;rw[z]at this;simp at this;have:=zAd j x a;simpa using this
def iC(hG:Same G X.H₀)(r:aJ X.K ad G ds vs):SS X ad G G X.H₀ (ds.map Slot.sh++ao n .no) (vs.map pi++ao n qw):=by
 have x:=r.length;have b: ∀(i:Nat) (g:Slot),(ds.map Slot.sh++ao n .no)[i]? =pi g->(∃d v,g= .sh d/\(vs.map pi++ao n qw)[i]? =pi (pi v)/\Rep X.K ad G d v)\/(g= .no/\∃m,(vs.map pi++ao n qw)[i]? =pi m):=λi g e=>by
  by_cases s:i<ds.length;rw[bx (by simpa using s),ji]at e;rcases c:ds[i]? with _|d;rw[c]at e;cases e;rw[c]at e;cases e;obtain⟨v,t,q⟩:=r.get c;refine .inl ⟨d,v,rfl,?_,q⟩;rw[bx (by rw[aq];lia),ji,t];rfl;rw[bn (by simpa using s),eu]at e;split at e;cases e;refine .inr ⟨rfl,qw,?_⟩;rename_i o;rw[bn (by rw[aq];lia),eu,if_pos];rw[aq]at o ⊢;lia;cases e
 refine⟨Step.refl hG,⟨by simp[x],λi g e=>?_⟩,λi B a e w h=>?_,λi j B L a c t y M E J=>?_,?_⟩;rcases b i g e with ⟨d,v,rfl,c,q⟩|⟨rfl,m,c⟩;exact⟨pi v,c,v,rfl,q⟩;exact⟨m,c,trivial⟩;rcases b i _ e with ⟨d,v,z,_⟩|⟨z,_⟩<;>(subst z;exact(bf w).elim);rcases b i _ c with ⟨d,v,z,_⟩|⟨z,_⟩<;>(subst z;exact(bf y).elim);have no: ∀{i:Nat} {l:L1 Addr}, ¬iA X.H₀ (ds.map Slot.sh++ao n .no) (vs.map pi++ao n qw) i l:=λ{i l} f=>by
  obtain⟨C,r,p,N,d,H,I,u,_⟩:=f;rcases b i _ u with ⟨d,v,z,_⟩|⟨z,_⟩<;>cases z
 exact⟨λi l f=>(no f).elim,λi l f=>(no f).elim,λi j l A a f=>(no f).elim⟩
def pF(B:ExcK K ad)(TB:dX P w K mg base ad k tab)(FB:gI P w K mg base ad k fns)(hs:bP (aA sc) ps sc=qz)(hr:Room k (A.deeper (envOfC qual sc s.z f cdv))):
  StOk (jU (CXe P w) P w K mg base (aA sc) qual sc f cdv A outer s H E) ad ⟨tab,fns,sc,aA sc,bs⟩:=by
 obtain⟨S,nm⟩:=cM hs;let C:SK.Ctx:=⟨tab,fns,sc,aA sc,bs⟩;have v: ∀x i,loc C x=pi i->(aA sc)[i]? =pi x/\Loc sc x/\x∈aA sc:=λx i e=>by
  obtain⟨G,h⟩:=mD e;refine⟨gG G,?_,mC G⟩;rcases h with h|h|h;exact .inl h;exact .inr h;exact absurd rfl (S.nofree _ (fC h))
 refine⟨⟨rfl,S.nd,λx i e=>?_,λx e=>e,λx g e=>?_,λx i e=>?_,rfl,?_,hr.hd,B.exc,B.kin,B.kve,λj m J e=>?_⟩,λ_=>rfl,rfl,λx i e=>(v x i e).2.1,B.exm,B.exi⟩;obtain⟨a,b,c⟩:=v x i e;exact⟨a,b.elim .inl λz=>.inr (.inl z),(nm x c).1,(nm x c).2⟩;obtain⟨a,b⟩:=TB x g e;refine⟨a,?_⟩;rcases g with ⟨j,m,J⟩|c|_|d|p|kvs|⟨A,O⟩|⟨A,M⟩|⟨A,n,M⟩;obtain⟨I,L,l,q,o,t,u⟩:=b;exact⟨I,L,⟨q,o,t⟩,hr.mono l,u⟩;exact b;exact b;exact b;exact b;exact b;exact⟨b.1,b.2.1,λm n M N=>let ⟨no,f,r,y,ps,l,q,o,t⟩:=b.2.2 m n M N;⟨no,f,r,y,ps,q,o,hr.mono l,t⟩⟩;obtain⟨f,r,y,ps,l,q,o,t,u⟩:=b;exact⟨f,r,y,ps,q,o,t,hr.mono l,u⟩;obtain⟨f,r,y,ps,l,q,o,t,u⟩:=b;exact⟨f,r,y,ps,q,o,t,hr.mono l,u⟩;obtain⟨G,h⟩:=fB e;rcases h with h|h;exact .inl h;exact absurd rfl (S.nofree _ (fC h));exact jc (io (by decide:62<=64) _) hr.units;obtain⟨I,l,q,o⟩:=FB j m J e;exact⟨I,⟨q,o⟩,hr.mono l⟩
def Lc{st}{F}(B:ExcK K ad)(TB:dX P w K mg base ad k tab)(FB:gI P w K mg base ad k fns)(Fu:Fun K x qual st f fd)(hps:cY (defArgs st)=pi ps)(hd:F2 tab fns st=pi (n,F)):FnOk P w K mg base (CXe P w) (k+1) f fd ps (xT K ad n F):=by
 obtain⟨oc,od,kV,ab,pm,an,p,ct,Z,rfl,lk,J⟩:=Fu.ex;cases st with
 |FunctionDef nm W b dl re tp i ts bi ag=>
  have t:((cY W).bind λU=>if bP (aA i) U i then(m8 100 q7 ⟨tab,fns,i,aA i,zD 50 b⟩ b).map λg=>(U.length,SK.fnOf (aA i).length g)else qw)=pi (n,F):=hd;have q:cY W=pi ps:=hps;rw[q]at t;have l:(if bP (aA i) ps i then(m8 100 q7 ⟨tab,fns,i,aA i,zD 50 b⟩ b).map λg=>(ps.length,SK.fnOf (aA i).length g)else qw)=pi (n,F):=t;by_cases u:bP (aA i) ps i=qz;rw[if_pos u]at l;obtain⟨g,hg,e⟩:=zMd l;cases e;obtain⟨S,nm⟩:=cM u;refine Ch lk J S (λvs H Q E ⟨G,m,_,r,N,_⟩=>by rw[r.length,N]) λA j s H vs Q E hr L=>?_;obtain⟨G,m,hG,r,N,hq⟩:=L;let C:SK.Ctx:=⟨tab,fns,i,aA i,zD 50 b⟩;have O:StOk (jU (CXe P w) P w K mg base (aA i) qual i f p A j s H E) ad C:=pF B TB FB u hr;have T:DefX (jU (CXe P w) P w K mg base (aA i) qual i f p A j s H E) E:=⟨rfl,rfl,rfl,λe s' h=>h⟩;refine⟨_,(mL (ad:=ad) (E₀:=E) 100).2 _ C q7 b g O (λ_=>⟨T,ju (Q₁:=λe I=>CXe P w j H s E e I)⟩) hg,?_⟩;refine⟨G,G,m.map Slot.sh++ao ((aA i).length-m.length) .no,λv c o=>E (.ref (ad.cls c)) qw o,?_,⟨λv=>vS T,λ_ v c H h=>h⟩,?_⟩;have:=iC (X:=jU (CXe P w) P w K mg base (aA i) qual i f p A j s H E) (ad:=ad) (n:=(aA i).length-m.length) hG r;unfold L2.start;rw[r.length];exact this;have a:RK K ad G H (match g (m.map Slot.sh++ao ((aA i).length-m.length) .no)with
   |.rt (.ok d)=>.ok d
   |.rt (.ow Y)=>.ow Y
   |.rt _=>.bad
   |.nx _=>.ok .non
   |.ex c _=>.ex c
   |_=>.bad) Q (λc o=>E (.ref (ad.cls c)) qw o):=hq
  cases e:g (m.map Slot.sh++ao ((aA i).length-m.length) .no)with
  |nx y=>rw[e]at a;exact λv z o M=>a .non z o M.st (by unfold Rep;rfl)
  |bk y=>rw[e]at a;exact a.elim
  |ct y=>rw[e]at a;exact a.elim
  |ex c y=>rw[e]at a;exact λv z o M=>a z o M.st
  |rt r'=>
   rw[e]at a;rcases r' with d|Y|c|_;exact a;exact a;exact a.elim;exact a.elim
  rw[if_neg u]at l;cases l
 |_=>cases hd
noncomputable def wF(K:Frag)(cs:L1 Addr)(C0:Addr):Bool:=
 decide (cs.length<=100)&&cs.head?==pi C0&&cs.all λC=>(clsIn K C).isSome&&mroIn K C (.type "object")==pi qz&&mroIn K C (.type "BaseException")==pi qz&&findIn K (.ref C) "__class__"==pi (pi (.builtin "object.__class__"))&&
  findIn K (.ref C) "__getattribute__"==pi (pi (.builtin "BaseException.__getattribute__"))&&findIn K (.ref C) "__getattr__"==pi qw&&kitOne K (.ref C) (.type "ValueError")==pi qz&&exmOne K (.ref C) (.ref C0)==pi qz&&
  excIn K C M4 "ValueError.__new__"
def wG(K:Frag)(cs:L1 Addr):Bool:=cs.zipIdx.all λp=>cs.zipIdx.all λq=>kitOne K (.ref p.1) (.ref q.1)==pi (hit q.2 p.2)
noncomputable def EO(cs:L1 Addr)(C0:Addr)(fs:L1 Addr):Ad:=⟨λc=>cs.getD c C0,λk=>if k<1000 then fs.getD k 0 else k-1000,cs.length⟩
def Hg(h:wF K cs C0=qz)(h2:wG K cs=qz):ExcK K (EO cs C0 fs):=by
 unfold wF at h;rw[aw,aw]at h;obtain⟨⟨n,j⟩,I⟩:=h;have n:cs.length<=100:=of_decide_eq_true n;have j:cs.head?=pi C0:=by simpa using j
 have i:C0∈cs:=List.mem_of_mem_head? (by rw[j];rfl);have get: ∀c,(EO cs C0 fs).cls c∈cs:=λc=>by
  show cs.getD c C0∈cs;rw[cb];rcases e:cs[c]? with _|a;exact i;exact List.mem_of_getElem? e
 have o:cs[0]? =pi C0:=by rw[<-List.head?_eq_getElem?];exact j
 have q:(EO cs C0 fs).cls 0=C0:=by
  show cs.getD 0 C0=C0;rw[cb,o];rfl
 have all: ∀C∈cs,ExcCls K C/\kitOne K (.ref C) (.type "ValueError")=pi qz/\exmOne K (.ref C) (.ref C0)=pi qz/\excIn K C M4 "ValueError.__new__"=qz:=λC w=>by
  have:=zAd I C w;simp only[aw,beq_iff_eq]at this;obtain⟨⟨⟨⟨⟨⟨⟨⟨p,h2⟩,s⟩,G⟩,t⟩,u⟩,E⟩,H⟩,x⟩:=this;exact⟨⟨p,h2,s,G,t,u⟩,E,H,x⟩
 have d: ∀(c e:Nat) (a b:Addr),cs[e]? =pi a->cs[c]? =pi b->kitOne K (.ref a) (.ref b)=pi (hit c e):=λc e a b f g=>by
  unfold wG at h2;have B:(a,e)∈cs.zipIdx:=List.mem_zipIdx_iff_getElem?.mpr f;have z:(b,c)∈cs.zipIdx:=List.mem_zipIdx_iff_getElem?.mpr g;have:=zAd (zAd h2 _ B) _ z;simpa using this
 refine⟨λc=>(all _ (get c)).1,λc e y=>?_,λe=>(all _ (get e)).2.1,λc=>?_,λc=>(all _ (get c)).2.2.2⟩;have l:c<cs.length:=y;obtain⟨b,g⟩: ∃b,cs[c]? =pi b:=⟨_,bd l⟩;have v:(EO cs C0 fs).cls c=b:=by
  show cs.getD c C0=b;rw[cb,g];rfl
 rw[v];rcases f:cs[e]? with _|a;have m:(EO cs C0 fs).cls e=C0:=by
  show cs.getD e C0=C0;rw[cb,f];rfl
 have r:cs.length<=e:=List.getElem?_eq_none_iff.mp f;rw[m,d c 0 C0 b o g];congr 1;unfold hit;have A:(c==e)=q7:=by simp;lia
 rw[A];cases c<;>simp;have m:(EO cs C0 fs).cls e=a:=by
  show cs.getD e C0=a;rw[cb,f];rfl
 rw[m];exact d c e a b f g;rw[q];exact(all _ (get c)).2.2.1
end
noncomputable def A0:L7 SK.Gl->Bool
 |some (.py .isin)=>qz
 |_=>q7
def A1(h:A0 g=qz):g=pi (.py .isin):=by unfold A0 at h;split at h;rfl;cases h
def qL(C:SK.Ctx):Expr->L7 F
 |.Name x _=>(loc C x).map aD
 |_=>qw
def qE:Nat->SK.Ctx->Expr->L7 F
 |0,_,_=>qw
 |n+1,C,e=>match e with
  |.Name x _=>(loc C x).map aB
  |.Constant c _ _=>(kD c).map rK
  |.BinOp a op b _=>(qE n C a).bind λf=>(qE n C b).map λg=>aT op f g
  |.List es _=>if es.length<=1000 then(eM (qE n C) es).map jV else qw
  |.Subscript a b _=>(qL C a).bind λf=>(qE n C b).map λg=>rIx f g
  |.Call f as kws cp=>if kws.isEmpty then(match f with
   |.Name x _=>if A0 (glo C x)then(two as).bind λ(a,t)=>(cH t).bind λ(tn,_)=>(qE n C a).bind λfa=>(glo C tn).bind λg=>(isP g).map λP=>rIs P fa else qw
   |.Attribute o m ap=>(one as).bind λa=>if(ap.endLine==cp.line)=qz then(qL C o).bind λf=>(qE n C a).bind λg=>if m="count" then pi (oN qY f g)else if m="index" then pi (oN qZ f g)else qw else qw
   |_=>qw)else qw
  |_=>qw
def qT:Nat->SK.Ctx->Expr->L7 F
 |0,_,_=>qw
 |n+1,C,e=>match e with
  |.BoolOp op es _=>(two es).bind λ(a,b)=>if op= .And then qw else(qT n C a).bind λf=>(qT n C b).map λg=>rOr f g
  |.UnaryOp op a _=>(match op with
   |.Not=>(qT n C a).map m7
   |_=>qw)
  |.Compare a ops cs _=>(match ops with
   |[op]=>(one cs).bind λb=>(qE n C a).bind λf=>(qE n C b).map λg=>bF op f g
   |_=>qw)
  |.Call f as kws cp=>qE n C (.Call f as kws cp)
  |_=>qw
mutual
def qS:Nat->SK.Ctx->Stmt->L7 FS
 |0,_,_=>qw
 |n+1,C,st=>match st with
  |.Assign ts e _=>(one ts).bind λt=>(cH t).bind λ(x,_)=>(loc C x).bind λi=>(qE n C e).map λf=>gL i f
  |.If c a b _=>(qT n C c).bind λf=>(qSs n C a).bind λg=>(qSs n C b).map λh=>sIf f g h
  |.Return o _=>o.bind λe=>(qE n C e).map eB
  |_=>qw
def qSs:Nat->SK.Ctx->L1 Stmt->L7 FS
 |0,_,_=>qw
 |n+1,C,l=>match l with
  |[]=>pi aX
  |st::r=>(qS n C st).bind λg=>(qSs n C r).map λh=>aY g h
end
structure QOk(X:Cx)(ad:Ad)(C:SK.Ctx):Prop where
 nd:X.N.Nodup
 vis: ∀x i,loc C x=pi i->X.N[i]? =pi x/\Vis X.env.scope x/\(x==gV)=q7/\(x==hK)=q7
 nm: ∀x i,loc C x=pi i->MZ X x i
 isn: ∀x,glo C x=pi (.py .isin)->x="isinstance"/\L2.Gl X "isinstance"/\X.mg "isinstance"=qw
 cls: ∀t g P,glo C t=pi g->isP g=pi P->∃cv,ClNm X t cv/\N3 X ad cv P
 un:X.A.units+62<cLine
 exc: ∀c,ExcCls X.K (ad.cls c)
section
variable{X:Cx}{ad:Ad}{C:SK.Ctx}{A:Around}
def Ld(O:StOk X0 ad C)(hu:A.units+62<cLine):QOk (qX X0 A Ex) ad C:=by
 refine⟨O.cx.nd,O.cx.vis,λx i h=>O.nm h,λx h=>?_,λt g P h e=>?_,hu,O.cx.exc⟩;obtain⟨f,o,a,l⟩:=O.cx.gl h;cases (show x="isinstance" from a);exact⟨rfl,f,l⟩;obtain⟨j,c,k⟩:=EI O.cx h e;refine⟨j,?_,k⟩;cases c with
 |blt T e g m b n d=>exact .blt T e g m b n d
 |own C e g m d=>exact .own C e g m d
def Le(O:QOk X ad C)(h:qL C e=pi f):ML X ad e f/\∃x p,e= .Name x p:=by unfold qL at h;split at h;rename_i x p;obtain⟨i,b,rfl⟩:=zMd h;have a:=O.vis x i b;exact⟨zX a,x,p,rfl⟩;cases h
def iW(h:qE n C e=pi f):gN e/\nW e/\(∀a b c d,e≠ .Slice a b c d)/\∀a b c d,e≠ .ListComp a b c d:=by rcases n with _|n;cases h;cases e<;>first|(cases h;done)|exact⟨trivial,trivial,(λ_ _ _ _ z=>nomatch z),(λ_ _ _ _ z=>nomatch z)⟩
theorem EQ{n}(hE: ∀e f,qE n C e=pi f->ME X ad e f): ∀{es} {fs},eM (qE n C) es=pi fs->MA X ad es fs
 |[],fs,h=>by
  cases h;exact zU
 |e::es,fs,h=>by
  unfold eM at h;rcases a:qE n C e with _|f;rw[a]at h;cases h;rw[a]at h;obtain⟨r,b,c⟩:=zMd h;subst c;exact oV (hE e f a) (EQ hE b) (aK (iW a).1)
theorem yB(O:QOk X ad C): ∀n e f,qE n C e=pi f->ME X ad e f
 |0,_,_,h=>by cases h
 |n+1,e,f,h=>by
  have q:=yB O n;unfold qE at h;split at h;rename_i x p;obtain⟨i,H,rfl⟩:=zMd h;have A:=O.vis x i H;exact zF A;obtain⟨d,b,rfl⟩:=zMd h;exact kU b;obtain⟨l,b,h⟩:=zBd h;obtain⟨fb,c,rfl⟩:=zMd h;exact Em (q _ l b) (q _ fb c);split at h;rename_i r;obtain⟨fs,b,rfl⟩:=zMd h;exact EB (EQ q b) (by rw[fS b];exact r);cases h;obtain⟨l,b,h⟩:=zBd h;obtain⟨fb,c,rfl⟩:=zMd h;exact Kv (Le O b).1.lk (q _ fb c) (pA (iW c).2.2.1);rename_i S L w Q;split at h;rename_i hk;cases ko.mp hk;split at h;rename_i x p;split at h;rename_i I;obtain⟨rfl,E,B⟩:=O.isn x (A1 I);have j:=zBd h;clear h;obtain⟨⟨a,t⟩,s,h⟩:=j;cases jK s;have j:=zBd h;clear h;obtain⟨⟨tn,N⟩,J,h⟩:=j;cases bB J;obtain⟨l,b,h⟩:=zBd h;obtain⟨g,c,h⟩:=zBd h;obtain⟨P,y,rfl⟩:=zMd h;obtain⟨M,G,z⟩:=O.cls tn g P c y;exact uD O.exc E B G z (q _ l b).ml (aK (iW b).1);cases h;rename_i o m K;have j:=zBd h;clear h;obtain⟨a,s,h⟩:=j;cases cE s;split at h;rename_i r;have j:=zBd h;clear h;obtain⟨fo,b,h⟩:=j;have j:=zBd h;clear h;obtain⟨l,c,h⟩:=j;obtain⟨v,x,p,rfl⟩:=Le O b;split at h;rename_i u;cases h;subst u;exact vX O.un v (q _ l c) (aK (iW c).1) rfl r;split at h;rename_i u;cases h;subst u;exact vY O.un v (q _ l c) (aK (iW c).1) rfl r;cases h;cases h;cases h;cases h;cases h
theorem Lf(O:QOk X ad C): ∀n e f,qT n C e=pi f->MT X ad e f
 |0,_,_,h=>by cases h
 |n+1,e,f,h=>by
  have i:=Lf O n;unfold qT at h;split at h
  .rename_i m q p;have l:=zBd h;clear h;obtain⟨⟨a,b⟩,j,h⟩:=l;cases jK j;simp only at h;split at h
   .cases h
   rename_i o;cases m with
   |And=>exact absurd rfl o
   |Or=>
   obtain⟨d,c,h⟩:=zBd h;obtain⟨fb,g,rfl⟩:=zMd h;exact AT (Gg (i _ d c) (zS (i _ fb g)))
  .split at h
   .obtain⟨d,c,rfl⟩:=zMd h;exact Ey (i _ d c)
   .cases h
  .split at h
   .have l:=zBd h;clear h;obtain⟨b,j,h⟩:=l;cases cE j;obtain⟨d,c,h⟩:=zBd h;obtain⟨fb,g,rfl⟩:=zMd h;exact EA O.un (yB O n _ d c) (yB O n _ fb g) (e9 (iW g).2.1)
   .cases h
  .exact Ew (yB O n _ _ h) (λ_=>rfl)
  .cases h
theorem Lg(O:QOk X ad C){Z}: ∀n,(∀st g,qS n C st=pi g->MS X ad Z st g)/\∀l g,qSs n C l=pi g->MSs X ad Z l g
 |0=>⟨(λ_ _ h=>by cases h),(λ_ _ h=>by cases h)⟩
 |n+1=>by
  obtain⟨r,b⟩:=Lg O (Z:=Z) n;refine⟨λst g h=>?_,λl g h=>?_⟩;unfold qS at h;split at h;rename_i v e s;have d:=zBd h;clear h;obtain⟨t,j,h⟩:=d;cases cE j;have d:=zBd h;clear h;obtain⟨⟨x,p⟩,j,h⟩:=d;cases bB j;obtain⟨i,a,h⟩:=zBd h;obtain⟨f,c,rfl⟩:=zMd h;have nm:=O.nm x i a;refine AX (nE O.nd nm.1 nm.2.1 (yB O n _ f c) ?_ nm.2.2);have u:=(iW c).2.2.2;cases e<;>first|rfl|exact absurd rfl (u _ _ _ _)|(cases n<;>cases c;done)
  obtain⟨f,a,h⟩:=zBd h;obtain⟨m,c,h⟩:=zBd h;obtain⟨o,q,rfl⟩:=zMd h;exact GA (Lf O n _ f a) (b _ m c) (b _ o q);have d:=zBd h;clear h;obtain⟨e,rfl,h⟩:=d;obtain⟨f,a,rfl⟩:=zMd h;exact vP (yB O n _ f a);cases h;unfold qSs at h;split at h;cases h;exact oW;obtain⟨m,a,h⟩:=zBd h;obtain⟨o,c,rfl⟩:=zMd h;exact oX (r _ m a) (b _ o c)
end
def Lh:R->R
 |.ex _=>.bad
 |r=>r
def qFn(tab:L1 (Str×SK.Gl))(st:Stmt):L7 (Nat×Fn):=match st with
 |.FunctionDef _ as b _ _ _ sc _ _ _=>(cY as).bind λps=>if bP (aA sc) ps sc then(qSs 100 ⟨tab,[],sc,aA sc,[]⟩ b).map λg=>(ps.length,λds=>Lh (SK.fnOf (aA sc).length g ds))else qw
 |_=>qw
noncomputable def quiet(A:Around):Around:={A with handled:=qw}
def RoomQ.room(r:RoomQ k A):Room k (quiet A):=⟨rfl,r.dp,r.un⟩
theorem RoomQ.deeper(r:RoomQ (k+1) A)env:RoomQ k (A.deeper env):=
 ⟨by have:=r.dp;show A.depth+1+3*k+5<_;lia,by have:=r.un;show A.units+3+16*k+200<_;lia⟩
section
variable{K:Frag}{ad:Ad}{tab:L1 (Str×SK.Gl)}
def Hh{st}{F}(B:ExcK K ad)(TB:dX P w K mg base ad k tab)(Fu:Fun K x qual st f fd)(hps:cY (defArgs st)=pi ps)(hd:qFn tab st=pi (n,F)):FnOkQ P w K mg base (CXe P w) (k+1) f fd ps (xT K ad n F):=by
 obtain⟨oc,od,kV,a7,pm,an,ag,ct,a6,rfl,lk,a5⟩:=Fu.ex;cases st with
 |FunctionDef nm as b dl re tp h ts bi bb=>
  have a0:((cY as).bind λPs=>if bP (aA h) Ps h then(qSs 100 ⟨tab,[],h,aA h,[]⟩ b).map λg=>(Ps.length,λT=>Lh (SK.fnOf (aA h).length g T))else qw)=pi (n,F):=hd;have a2:cY as=pi ps:=hps;rw[a2]at a0;have ab:(if bP (aA h) ps h then(qSs 100 ⟨tab,[],h,aA h,[]⟩ b).map λg=>(ps.length,λT=>Lh (SK.fnOf (aA h).length g T))else qw)=pi (n,F):=a0;by_cases hs:bP (aA h) ps h=qz;rw[if_pos hs]at ab;obtain⟨g,hg,e⟩:=zMd ab;cases e;obtain⟨S,nm⟩:=cM hs;refine⟨λvs H Q E ⟨G,T,_,r,hl,_⟩=>by rw[r.length,hl],λA t s H args us vs Q E hr U hb r ar=>?_⟩;have hl:vs.length=ps.length:=by obtain⟨G,T,_,r,hl,_⟩:=ar;rw[r.length,hl]
  have KX:K.In s.heap:=U.mod.kin.keeps λb o e=>(U.bs b o e).1;have lim:s.heap.NoLimit:=U.mod.nolimit.keeps λb o e=>(U.bs b o e).1;have am: ∀y∈ps.zip us,h.names.lookup y.1=pi .local\/(h.names.lookup y.1=pi .cell/\((cellsFrom (s.z+1) h.names []).lookup y.1).isSome=qz):=λ⟨n,v⟩ hy=>by
   rcases S.par n (lf hy).1 with q|q;exact .inl q;exact .inr ⟨q,fy _ _ _ (.inl q)⟩
  have ap:A.depth<recursionLimit:=by have:=hr.dp;lia
  refine codeAny_call_function ap (KX _ _ lk) rfl S.co S.gen rfl (ix KX a5) (hb _ _ _ _ ?_);refine wpAny_newFunctionEnv_cells S.kind am λenv he s1 y=>?_;subst he;refine⟨lim.keeps y.toInCall.keep,codeAny_func ?_⟩;have e1:Env0 P w K mg base (quiet A) t s H:=⟨U.frames,U.mod,U.bs,U.bsz,U.funs,U.frf,U.hok,U.bare⟩;let X0:=jU (CXe P w) P w K mg base (aA h) qual h f ag (quiet A) t s H E;have I0:Inv X0 [] (L2.start (aA h) vs) H s1:=gU S rfl e1 hl r y;let X:=qX X0 (A.deeper (envOfC qual h s.z f ag)) (λe s'=>wpAny (model P w) (A.deeper (envOfC qual h s.z f ag)) (leaving (envOfC qual h s.z f ag) e) (λ_ al=>CXe P w t H s E e al) (λe' al=>CXe P w t H s E e' al) s');have I:Inv X [] (L2.start (aA h) vs) H s1:=KN rfl I0;have L:Room k X0.A:=(hr.deeper _).room;let C:SK.Ctx:=⟨tab,[],h,aA h,[]⟩;have a3: ∀x i,loc C x=pi i->(aA h)[i]? =pi x/\Loc h x/\x∈aA h:=λx i e=>by
   obtain⟨e1,N⟩:=mD e;refine⟨gG e1,?_,mC e1⟩;rcases N with N|N|N;exact .inl N;exact .inr N;exact absurd rfl (S.nofree _ (fC N))
  have O:StOk X0 ad C:=by
   refine⟨⟨rfl,S.nd,λx i e=>?_,λx e=>e,λx g e=>?_,λx i e=>?_,rfl,?_,L.hd,B.exc,B.kin,B.kve,λj m F' e=>by cases e⟩,λ_=>rfl,rfl,λx i e=>(a3 x i e).2.1,B.exm,B.exi⟩;obtain⟨a,b,c⟩:=a3 x i e;exact⟨a,b.elim .inl λz=>.inr (.inl z),(nm x c).1,(nm x c).2⟩;obtain⟨a,b⟩:=TB x g e;refine⟨a,?_⟩;rcases g with ⟨j,m,F'⟩|c|_|d|p|kvs|⟨A,ms⟩|⟨A,M⟩|⟨A,n,M⟩;obtain⟨r',f',h1,h2,h3,h4,h5⟩:=b;exact⟨r',f',⟨h2,h3,h4⟩,L.mono h1,h5⟩;exact b;exact b;exact b;exact b;exact b;exact⟨b.1,b.2.1,λm n M hm=>let ⟨no,f,r,fd,ps,h1,h2,h3,h4⟩:=b.2.2 m n M hm;⟨no,f,r,fd,ps,h2,h3,L.mono h1,h4⟩⟩;obtain⟨f,r,fd,ps,h1,h2,h3,h4,h5⟩:=b;exact⟨f,r,fd,ps,h2,h3,h4,L.mono h1,h5⟩;obtain⟨f,r,fd,ps,h1,h2,h3,h4,h5⟩:=b;exact⟨f,r,fd,ps,h2,h3,h4,L.mono h1,h5⟩;obtain⟨e1,N⟩:=fB e;rcases N with N|N;exact .inl N;exact absurd rfl (S.nofree _ (fC N));exact jc (io (by decide:62<=64) _) L.units
  have OQ:QOk X ad C:=Ld O (jc (io (by decide:62<=64) _) L.units);obtain⟨G,T,hG,rr,be,hq⟩:=ar;have a1:wpAny (model P w) X.A (execs b X.env) (SP X [] {nx:=λ_ Y=>Q .non Y,rt:=Q}) X.xe s1:=by
   refine(Lg OQ (Z:=λ_=>True) 100).2 b g hg [] s1 _ H _ I ⟨G,G,T.map Slot.sh++ao ((aA h).length-T.length) .no,λ_ _ _=>False,?_,⟨λσ cc H s e s' _ hc=>?_,trivial⟩,?_⟩;have:=iC (X:=X) (ad:=ad) (n:=(aA h).length-T.length) hG rr;unfold L2.start;rw[rr.length];exact this;obtain⟨_,_,_,_,_,_,_,_,_,_,_,_,_,_,_,_,z⟩:=hc;exact z.elim;have l:RK K ad G H (Lh (match g (T.map Slot.sh++ao ((aA h).length-T.length) .no)with
    |.rt (.ok d)=>.ok d
    |.rt (.ow xs)=>.ow xs
    |.rt _=>.bad
    |.nx _=>.ok .non
    |.ex c _=>.ex c
    |_=>.bad)) Q (λc Y=>E (.ref (ad.cls c)) qw Y):=hq
   cases e:g (T.map Slot.sh++ao ((aA h).length-T.length) .no)with
   |nx ρ=>rw[e]at l;exact λσ G' Y S'=>l .non G' Y S'.st (by unfold Rep;rfl)
   |bk ρ=>rw[e]at l;exact l.elim
   |ct ρ=>rw[e]at l;exact l.elim
   |ex c ρ=>rw[e]at l;exact l.elim
   |rt r'=>
    rw[e]at l;rcases r' with d|xs|c|_;exact l;exact l;exact l.elim;exact l.elim
  refine wpAny_mono a1 (λfl s' hs=>?_) λe s' hs=>hs;have a4: ∀{ak:St} {Y:Hp} {v:V} {u:Value},Inv X [] ak Y s'->bG v u->Q v Y->CE t P w H s Q u s':=
   λ{ak Y v u} J rv q=>⟨v,Y,J.os,J.bare,J.base,J.hok,rv,q⟩
  cases fl with
  |ret u=>
   obtain⟨v,ak,Y,J,rv,q⟩:=hs;exact a4 J rv q
  |next=>
   obtain⟨ak,Y,J,q⟩:=hs;exact a4 (v:=V.non) (u:=pw) J rfl q
  |brk=>
   obtain⟨_,_,_,q⟩:=hs;exact ba q
  |cont=>
   obtain⟨_,_,_,q⟩:=hs;exact ba q
  rw[if_neg hs]at ab;cases ab
 |_=>cases hd
end
abbrev Pl:=cf
structure TD(Δ:Pl->Prop)(L pl:Pl):Prop where
 tb:Δ L
 dj: ∀p∈L, ∀r∈pl,p.1≠r.1
def SPL(X:Cx)(Δ:Pl->Prop)(cc:Pl)(D:Ends)(f:Flow)(s':Shared):Prop:= ∃L,TD Δ L (X.pn++cc)/\SP X (L++cc) D f s'
def LPS(X:Cx)(Δ:Pl->Prop)(st:Stmt)(t:TS):Prop:=
 ∀(cc L:Pl) (s:Shared) (σ:St) (H:Hp) (D:Ends),TD Δ L (X.pn++cc)->Inv X (L++cc) σ H s->t D σ H->X.wp (exec st X.env) (SPL X Δ cc D) X.xe s
def sX(X:Cx)(Δ:Pl->Prop)(st:L1 Stmt)(t:TS):Prop:=
 ∀(cc L:Pl) (s:Shared) (σ:St) (H:Hp) (D:Ends),TD Δ L (X.pn++cc)->Inv X (L++cc) σ H s->t D σ H->X.wp (execs st X.env) (SPL X Δ cc D) X.xe s
def EPL(X:Cx)(Δ:Pl->Prop)(cc:Pl)(σ:St)(Q:VK)(u:Value)(s':Shared):Prop:= ∃L,TD Δ L (X.pn++cc)/\EP X (L++cc) σ Q u s'
def LPE(X:Cx)(Δ:Pl->Prop)(e:Expr)(t:TE):Prop:=
 ∀(cc L:Pl) (s:Shared) (σ:St) (H:Hp) (Q:VK),TD Δ L (X.pn++cc)->Inv X (L++cc) σ H s->t σ H Q->X.wp (eval e X.env) (EPL X Δ cc σ Q) X.xe s
def TPL(X:Cx)(Δ:Pl->Prop)(cc:cf)(σ:St)(Q:Bool->Hp->Prop)(b:Bool)(s':Shared):Prop:=
 ∃L,TD Δ L (X.pn++cc)/\TP X (L++cc) σ Q b s'
def LPW(X:Cx)(Δ:Pl->Prop)(e:Expr)(t:TT):Prop:=
 ∀(whole:Sem Value) (cc L:Pl) (s:Shared) (σ:St) (H:Hp) (Q:Bool->Hp->Prop),TD Δ L (X.pn++cc)->Inv X (L++cc) σ H s->t σ H Q->
  X.wp (isTrue e X.env whole) (TPL X Δ cc σ Q) X.xe s
def LPT(X:Cx)(Δ:Pl->Prop)(e:Expr)(t:TT):Prop:=
 ∀(cc L:Pl) (s:Shared) (σ:St) (H:Hp) (Q:Bool->Hp->Prop),TD Δ L (X.pn++cc)->Inv X (L++cc) σ H s->t σ H Q->
  X.wp (isTrue e X.env (eval e X.env)) (TPL X Δ cc σ Q) X.xe s
section
variable{tA tB:TT}{st:Stmt}{dO:L1 Stmt}
def LPS.imp(a:LPS X Δ st t)(k: ∀D σ H,t' D σ H->t D σ H):LPS X Δ st t':=λb L s σ H D T I w=>a b L s σ H D T I (k D σ H w)
def sX.imp(a:sX X Δ dO t)(k: ∀D σ H,t' D σ H->t D σ H):sX X Δ dO t':=λb L s σ H D T I w=>a b L s σ H D T I (k D σ H w)
def Li(a:PS X st t):LPS X Δ st t:=λd L s c H D T I w=>L2.thn (a _ s c H D I w) λf e b=>⟨L,T,b⟩
def pG(a:PSs X dO t):sX X Δ dO t:=λd L s c H D T I w=>L2.thn (a _ s c H D I w) λf e b=>⟨L,T,b⟩
def jM(h1:LPS X Δ st t)(h2:sX X Δ dO u):sX X Δ (st::dO) (OS t u):=by
 intro e L s l H D T I h;refine wpAny_execs_cons (L2.thn (h1 e L s l H {D with nx:=u D} T I h) λf g a=>?_);obtain⟨c,b,a⟩:=a;cases f with
 |next=>
  obtain⟨d,i,j,a⟩:=a;exact h2 e c g d i D b j a
 |ret v=>exact⟨c,b,a⟩
 |brk=>exact⟨c,b,a⟩
 |cont=>exact⟨c,b,a⟩
def Lj(hc:PT X c tc)(ha:sX X Δ a t)(hb:sX X Δ b u):LPS X Δ (.If c a b pos) (Nk tc t u):=by intro j L s f H D T I h;refine wpAny_If (L2.thn (hc _ s f H _ I h) λd l e=>?_);obtain⟨i,g,q1⟩:=e;rcases d with _|_;exact hb j L l f i D T g q1;exact ha j L l f i D T g q1
def Hi{iter tg}(hp:PassesOwn (model X.prog X.w) X.A X.env X.xe)(hc:X.calm=qz)(hi:PI X tg iter wi)(hg:PG X tg gg)(hb:sX X Δ body tb)(hs: ∀x,foldedSetIterable iter X.env x=pure x):LPS X Δ (.For tg iter body [] pos) (OT wi gg tb):=by
 intro q L s σ H D T0 I h;refine wpAny_For (L2.thn (hi _ s σ H _ I h) λv s1 h1=>L2.thn h1 λal s2 h2=>?_) hs;obtain⟨it,j,tn,J,H2,e,I2,T,st2,f2,W,⟨m0,w0⟩,ab⟩:=h2;subst e;have B: ∀{H':Hp} {L':Pl},(∀b∈j,H' b=qw)->(∀b∈j, ∀p∈L',p.1≠b)->∀b∈j,oJ X (L'++q) H' b:=λ{H' L'} hn hd b hb=>by
  obtain⟨_,a1,a2,a3,a4,a5⟩:=f2 b hb;refine⟨hn b hb,a1,a2,a3,a4,λp hp=>?_⟩;rcases k6.mp hp with z|z;exact a5 p (g8 _ z);rcases k6.mp z with z|z;exact hd b hb p z;exact a5 p (bt _ (bt _ z))
 have d0: ∀b∈j, ∀p∈L,p.1≠b:=λb hb p hp=>(f2 b hb).2.2.2.2.2 p (bt _ (g8 _ hp));refine codeAny_forLoop_any (λn s'=>∃i σ' H' L',TD Δ L' (X.pn++q)/\(∀b∈j, ∀p∈L',p.1≠b)/\Inv X (L'++q) σ' H' s'/\tn i s'.heap/\(∀b∈j,H' b=qw)/\W i n σ' H') ?_ m0 ⟨0,σ,H2,L,T0,d0,I2,st2,λb hb=>(f2 b hb).1,w0⟩;rintro n s3 ⟨i,t,H3,L3,T3,d3,I3,Y,S,w3⟩;rcases ab i n t H3 w3 with ⟨Z,qn⟩|⟨go,N,hN,step⟩;refine wpAny_passesOwn hp (L2.thn (T.done X rfl rfl rfl hc i _ s3 t H3 X.xe I3 (B S d3) Y Z) λr s4 g=>?_);obtain⟨G,I4⟩:=g;subst G;exact wpAny_execs_nil ⟨L3,T3,t,H3,I4,qn⟩;refine wpAny_passesOwn hp (L2.thn (T.item X rfl rfl rfl hc i _ s3 t H3 X.xe I3 (B S d3) Y go) λr s4 g=>?_);obtain⟨u,G,h4⟩:=g;subst G;refine wpAny_passesOwn hp (L2.thn h4 λ_ M g=>?_);obtain⟨x,H5,I5,r5,y5,E,ak⟩:=g;have ag:=I5.pinned (B ak d3) (T.obj _ _ E);refine wpAny_passesOwn hp (L2.thn (hg _ M t H5 x u _ ag r5 (step x H5 y5)) λ_ s6 g=>?_);obtain⟨ad,H6,I6,q6⟩:=g;rw[jo]at I6;have T6:TD Δ L3 (X.pn++(q++iI j M.heap)):=⟨T3.tb,λp hp r G=>by
  rw[<-jo]at G;rcases k6.mp G with z|z;exact T3.dj p hp r z;exact d3 _ (qA z).1 p hp⟩
 refine wpAny_passesOwn hp (L2.thn (hb _ L3 s6 ad H6 _ T6 I6 q6) λf Q C=>?_);obtain⟨O,T7,C⟩:=C;have K:TD Δ O (X.pn++q):=⟨T7.tb,λp hp r G=>T7.dj p hp r (by rw[<-jo];exact g8 _ G)⟩;have un: ∀{a:St} {c:Hp},Inv X (O++(q++iI j M.heap)) a c Q->Inv X (O++q) a c Q:=λ{a c} l=>by
  rw[<-jo]at l;exact l.unpinned
 have y: ∀{a:St} {c:Hp},Inv X (O++(q++iI j M.heap)) a c Q->N a c->∃m,m<n/\∃i σ' H' L',TD Δ L' (X.pn++q)/\(∀b∈j, ∀p∈L',p.1≠b)/\Inv X (L'++q) σ' H' Q/\tn i Q.heap/\(∀b∈j,H' b=qw)/\W i m σ' H':=λ{a c} l n7=>by
  obtain⟨m',hm,w7⟩:=hN a c n7;have U: ∀b∈j, ∀o,M.heap.get? b=pi o->(b,o)∈q++iI j M.heap:=λb hb o e=>bt _ (fV hb e);have pin: ∀b∈j, ∀o,M.heap.get? b=pi o->Q.heap.get? b=pi o/\c b=qw:=λb hb o e=>by
   have:=l.pin (b,o) (bt _ (bt _ (U b hb o e)));exact⟨this.1,this.2.1⟩
  refine⟨m',hm,i+1,a,c,O,K,λb hb p hp=>?_,un l,T.keep _ _ _ E λb hb o e=>(pin b hb o e).1,λb hb=>?_,w7⟩;obtain⟨o,e,d⟩:=T.obj _ _ E b hb;exact T7.dj p hp (b,o) (bt _ (U b hb o e));obtain⟨o,e,d⟩:=T.obj _ _ E b hb;exact(pin b hb o e).2
 cases f with
 |next=>obtain⟨a,c,l,n7⟩:=C;exact y l n7
 |cont=>obtain⟨a,c,l,n7⟩:=C;exact y l n7
 |brk=>obtain⟨a,c,l,C⟩:=C;exact⟨O,K,a,c,un l,C⟩
 |ret v=>obtain⟨x7,a,c,l,r7,C⟩:=C;exact⟨O,K,x7,a,c,un l,r7,C⟩
def A2(he:LPE X Δ e te):LPS X Δ (.Return (pi e) pos) λD σ H=>te σ H D.rt:=by intro b L s σ H D T I h;exact wpAny_Return_some (L2.thn (he b L s σ H D.rt T I h) λu j a=>by obtain⟨f,d,v,i,g,c,q⟩:=a;exact⟨f,d,v,σ,i,g,c,q⟩)
def ER(h:PE X e te):LPE X Δ e te:=λc L s b H Q T I w=>L2.thn (h _ s b H Q I w) λu d a=>⟨L,T,a⟩
def LPW.pt(h:LPW X Δ e tc):LPT X Δ e tc:=h _
def Lk(h:PT X e tc):LPT X Δ e tc:=λd L s c H Q T I w=>L2.thn (h _ s c H Q I w) λb f a=>⟨L,T,a⟩
def Hj(ha:LPT X Δ a tA):LPW X Δ (.BoolOp .Or [a] pos) tA:=by intro f b L s d H Q T I h;refine isTrue_or (L2.thn (ha b L s d H Q T I h) λc g e=>?_);rcases c with _|_;exact isTrue_or_nil e;exact e
def Ll(ha:LPT X Δ a tA)(hb:LPW X Δ (.BoolOp .Or (b::r) pos) tB):LPW X Δ (.BoolOp .Or (a::b::r) pos) (tOr tA tB):=by intro n g L s j H Q T I h;refine isTrue_or (L2.thn (ha g L s j H _ T I h) λc m d=>?_);obtain⟨l,i,f,e,q1⟩:=d;rcases c with _|_;exact hb n g l m j f Q i e q1;exact⟨l,i,f,e,q1⟩
def Hk(hc:LPT X Δ c tc)(ha:sX X Δ sa t)(hb:sX X Δ sb u):LPS X Δ (.If c sa sb pos) (Nk tc t u):=by intro b L s e H D T I h;refine wpAny_If (L2.thn (hc b L s e H _ T I h) λd g a=>?_);obtain⟨l,j,i,f,q1⟩:=a;rcases d with _|_;exact hb b l g e i D j f q1;exact ha b l g e i D j f q1
def Two(Δ₁ Δ₂:Pl->Prop)(L:Pl):Prop:= ∃M1 M2,L=M1++M2/\Δ₁ M1/\TD Δ₂ M2 M1
def LPE.fst(h:LPE X Δ e te):LPE X (Two Δ Δ') e te:=by
 intro c L s m H Q T I w;obtain⟨M1,M2,rfl,l,g⟩:=T.tb;rw[jo]at I;have f: ∀r∈X.pn++(M2++c),r∈M2\/r∈X.pn++c:=λr a=>by
  rcases k6.mp a with z|z;exact .inr (g8 _ z);exact(k6.mp z).imp id (bt _)
 refine L2.thn (h (M2++c) M1 s m H Q ⟨l,λp b r a=>(f r a).elim (λz=>(g.dj r z p b).symm) (T.dj p (g8 _ b) r)⟩ I w) λu n j=>?_;obtain⟨i,d,j⟩:=j;refine⟨i++M2,⟨⟨i,M2,rfl,d.tb,g.tb,λp b r a=>(d.dj r a p (bt _ (g8 _ b))).symm⟩,λp b r a=>?_⟩,by rwa [jo]⟩;rcases k6.mp b with z|z;exact d.dj p z r ((k6.mp a).elim (g8 _) λy=>bt _ (bt _ y));exact T.dj p (bt _ z) r a
def LPE.snd(h:LPE X Δ e te):LPE X (Two Δ' Δ) e te:=by intro d L s i H Q T I w;obtain⟨M1,M2,rfl,o,f⟩:=T.tb;have m:Inv X (M2++(M1++d)) i H s:=I.pins_of λp a=>I.pin p (bt _ (by simp only[k6]at a ⊢;rcases a with z|z|z<;>simp[z]));refine L2.thn (h (M1++d) M2 s i H Q ⟨f.tb,λp a r b=>?_⟩ m w) λu t q=>?_;rcases k6.mp b with z|z;exact T.dj p (bt _ a) r (g8 _ z);rcases k6.mp z with z|z;exact f.dj p a r z;exact T.dj p (bt _ a) r (bt _ z);obtain⟨g,c,v,l,J,j,n⟩:=q;refine⟨M1++g,⟨⟨M1,g,rfl,o,c.tb,λp a r b=>c.dj p a r (bt _ (g8 _ b))⟩,λp a r b=>?_⟩,v,l,J.pins_of λp a=>J.pin p (bt _ (by simp only[k6]at a ⊢;rcases a with (z|z)|z<;>simp[z])),j,n⟩;rcases k6.mp a with z|z;exact T.dj p (g8 _ z) r b;exact c.dj p z r ((k6.mp b).elim (g8 _) λy=>bt _ (bt _ y))
end
abbrev Mn:=Hp->Hp->VK->(Nat->Hp->Prop)->Prop
noncomputable def exR(F:Fn)(c:Nat):R:=match F [.exc c]with
 |.ok d=>.ok d
 |.ow xs=>.ow xs
 |_=>.bad
def Hl(P:Program)(w:World)(K:oe)(mg:Str->L7 Value)(base:Heap)(ad:Ad)(k:Nat)(fs:L1 Addr)(s:Shared)(G H:Hp)(a:Addr)(Φ:Mn):Prop:=
 ∀(A:Around) (outer:L1 qm) (s1:Shared) (G1 H1:Hp) (Q:VK) (E:XK),Room k A->Step G H G1 H1->Env0 P w K mg base A outer s1 H1->(∀b o,s.heap.get? b=pi o->H b=qw->b∉fs->s1.heap.get? b=pi o/\H1 b=qw)->
  Φ G1 H1 Q (λc H'=>E (.ref (ad.cls c)) qw H')->codeAny (model P w) A (.call (.ref a) ⟨[],[]⟩) (CR (CXe P w) outer P w H1 s1 Q E) s1
def tlM(K:oe)(ad:Ad)(F:Fn)(Φ:Mn)(G H:Hp)(Q:VK):Prop:=
 Φ G H Q λc H'=>xk ad (λc H'=>∃G',Step G H G' H'/\RK K ad G' H' (exR F c) Q λ_ _=>False) (.ref (ad.cls c)) qw H'
def dM(F:Fn):RM->RM
 |.pure r=>.pure (o8 F r)
 |.chg x r=>.chg x r
def Lm{K}{ad}{F}(h:RMK K ad A G H p dx d l1 l2 (dM F m) Q λ_ _=>False):tlM K ad F (λG H Q E=>RMK K ad A G H p dx d l1 l2 m Q E) G H Q:=by rcases m with r|⟨x,r⟩;rcases r with d|f|c|_;exact h;exact h;exact λb e a=>⟨c,rfl,b,a,RK.step (show RK K ad G H (exR F c) Q λ_ _=>False from h) a⟩;exact h;exact h
section
variable{K:oe}{ad:Ad}{kV:Value}{q1:Str}{F:Fn}{args:Args}
def A3(lk:K.lookup f=pi ⟨oc,od,.func (oy name qual params [k9 dn en x cx cp xp ep ap hp' rq np dp rp tp] scope dV kV doc pm an cdv ct),osl⟩)(hcd:mi K cdv qual=qz)(S:FnScope N [dn] scope)(h0:N[0]? =pi dn)(h1:N[1]? =pi en)(hdl:scope.names.lookup dn=pi .local)(hel:scope.names.lookup en=pi .local)(hdd:(dn==gV)=q7)(hdk:(dn==hK)=q7)(hed:(en==gV)=q7)(hek:(en==hK)=q7)(hmx:mg x=pi (.ref fa))(hdx:(x==gV)=q7)(hkx:mh K (.ref fa)=qz)(hfx:FnOkQ P w K mg base (CXe P w) kf fa fd [q1] (xT K ad 1 F))(hbx:eA K fd [q1] [])(hkf:kf<=k)(hmc:mg cx=pi (.ref (ad.cls 0)))(hcb:(cx==gV)=q7)(hx: ∀c,exmOne K (.ref (ad.cls c)) (.ref (ad.cls 0))=pi qz)(hglx: ∀X,X.env.scope=scope->L2.Gl X x)(hglc: ∀X,X.env.scope=scope->L2.Gl X cx)(hr:Room (k+1) A)(e0:Env0 P w K mg base A outer s H)(hb:BindsTo s (oy name qual params [k9 dn en x cx cp xp ep ap hp' rq np dp rp tp] scope dV kV doc pm an cdv ct) args [(dn,.ref a)])(hfn:PySem.W.FnAt a s.heap)(hdeed:Hl P w K mg base ad k (frs outer) s G H a Φ)(hG:Same G H)(hq:tlM K ad F Φ G H Q):
  codeAny (model P w) A (.call (.ref f) args) (CR (CXe P w) outer P w H s Q E) s:=by
 have KX:K.In s.heap:=e0.mod.kin.keeps λb o e=>(e0.bs b o e).1;have lim:s.heap.NoLimit:=e0.mod.nolimit.keeps λb o e=>(e0.bs b o e).1;have t: ∀y∈[(dn,qh a)],scope.names.lookup y.1=pi .local\/(scope.names.lookup y.1=pi .cell/\((cellsFrom (s.z+1) scope.names []).lookup y.1).isSome=qz):=λy hy=>by
  rw[i3.mp hy];exact .inl hdl
 refine codeAny_call_function hr.depth (KX _ _ lk) rfl S.co S.gen rfl (ix KX hcd) (hb _ _ _ _ ?_);refine wpAny_newFunctionEnv_cells S.kind t λenv he C y=>?_;subst he;refine⟨lim.keeps y.toInCall.keep,codeAny_func ?_⟩;let X:=jU (CXe P w) P w K mg base N qual scope f cdv A outer s H E;have I:Inv X [] (start N [.ref a]) H C:=gU (vs:=[.ref a]) (us:=[.ref a]) (ps:=[dn]) S hr.hd e0 rfl (.cons rfl .nil) y;have hk:=y.toInCall.keep;let p:Ends:={nx:=λ_ j=>Q .non j,rt:=Q};have L:wpAny (model P w) X.A (execs [k9 dn en x cx cp xp ep ap hp' rq np dp rp tp] X.env) (SP X [] p) X.xe C:=by
  let hd:ExceptHandler:=.ExceptHandler (pi (.Name cx cp)) (pi en) [.Return (pi (.Call (.Name x xp) [.Name en ep] [] ap)) rq] hp';have I':Inv (tX X [] p hd) [] (start N [.ref a]) H C:=N2 I;refine wpAny_execs_cons (L2.thn (Q:=SP X [] p) (wpAny_Try_except ?_) λO s2 l=>?_);show wpAny (model P w) (tX X [] p hd).A (execs _ (tX X [] p hd).env) _ (tX X [] p hd).xe C;refine wpAny_execs_cons (wpAny_Return_some (wpAny_Call_Name_kw ?_));obtain⟨m5,ag,am⟩:=I.loc;obtain⟨u5,r5,l5⟩:=am 0 dn (.ref a) h0 rfl (.inl hdl);cases (show u5=qh a from r5);have Y:m5 dn=pi (.ref a):=by
   have hk:X.env.kindOf dn=pi .local:=hdl;rcases l5 with ⟨_,e⟩|⟨k,_⟩;exact e;rcases k with k|k<;>(rw[hk]at k;cases k)
  refine wpAny_Name (wpAny_loadName_local I.ok.kind hdl ag Y ?_) hdd;have M:PySem.W.FnAt a C.heap:=by
   obtain⟨oc,od,fd,sl,e⟩:=hfn;exact⟨oc,od,fd,sl,hk _ _ e⟩
  refine PySem.W.callWith_F0 M (wpAny_call ?_);refine codeAny_mono (hdeed (tX X [] p hd).A (tX X [] p hd).stack C G H Q (xk ad λc j=>∃z,Step G H z j/\RK K ad z j (exR F c) Q λ_ _=>False) (hr.deeper _) (Step.refl hG) I'.env0 (λb o e n _=>⟨hk b o e,n⟩) hq) λab s2 g=>?_;rcases ab with e|O;obtain⟨r,cls,a0,j,B,rfl,ho,al,ak,un,hok,ne,c8,c9,c,rfl,z,st,Z⟩:=g;have st2:Step z j (upd z r (El (ad.cls c) r)) (upd j r (El (ad.cls c) r)):=Step.new st.gh ne;refine xW (X:=X) (i:=1) (kf:=kf) (fa:=fa) (F:=F) (fd:=fd) (q1:=q1) ⟨rfl,rfl,rfl⟩ S.nd h1 hel hek (hglx X rfl) hmx hdx hkx hfx hbx (λv=>⟨?_,?_⟩) (hglc X rfl) hmc hcb hed (hx c) I ho al ak un hok ne c8 c9 ⟨upd z r (El (ad.cls c) r),(st.trans st2).gh,?_,?_⟩;have:=(hr.deeper X.env).dp;show X.A.depth+3*kf+5<_;have e:X.A=A.deeper X.env:=rfl;rw[e];lia;have:=(hr.deeper X.env).un;show X.A.units+16*kf+200<_;have e:X.A=A.deeper X.env:=rfl;rw[e];lia;unfold Rep;exact⟨r,rfl,aH⟩;have h:RK K ad _ _ (match F [.exc c]with|.ok d=>.ok d|.ow xs=>.ow xs|_=>.bad) Q λ_ _=>False:=RK.step Z st2;cases e:F [.exc c]with
  |ok d=>rw[e]at h;exact h
  |ow xs=>rw[e]at h;exact h
  |ex c'=>rw[e]at h;exact h.elim
  |bad=>rw[e]at h;exact h.elim
  cases O with
  |next=>exact ba g
  |brk=>exact ba g
  |cont=>exact ba g
  |ret u=>
   obtain⟨v,j,J,T,q⟩:=Inv.after I' g;exact⟨v,_,j,KH J,T,q⟩
  cases O with
  |next=>exact wpAny_execs_nil l
  |brk=>exact l
  |cont=>exact l
  |ret u=>exact l
 refine wpAny_mono L (λO s' l=>?_) λe s' l=>l;have U: ∀{m:St} {j:Hp} {v:V} {u:Value},Inv X [] m j s'->bG v u->Q v j->CE outer P w H s Q u s':=
  λ{m j v u} J T q=>⟨v,j,J.os,J.bare,J.base,J.hok,T,q⟩
 cases O with
 |ret u=>
  obtain⟨v,m,j,J,T,q⟩:=l;exact U J T q
 |next=>
  obtain⟨m,j,J,q⟩:=l;exact U (v:=V.non) (u:=pw) J rfl q
 |brk=>
  obtain⟨_,_,_,q⟩:=l;exact ba q
 |cont=>
  obtain⟨_,_,_,q⟩:=l;exact ba q
end
def TbL(P:Addr)(q:Str)(L:Pl):Prop:= ∃ps cs,L=(P,mq ps)::cs/\Tb P q ps cs
noncomputable def sA:L7 SK.Slot->L7 SK.Slot
 |some (.sh d)=>pi (.sh d)
 |some (.rk C r)=>pi (.rk C r)
 |_=>qw
def Dj(cs:L1 Nat)(ρ:Rho):L7 (L1 SK.Slot):=eM (λi=>sA ρ[i]?) cs
def SL.cons0{K}{ad}(h:SL K ad G H ρ σ)(h0:SLi K ad G H s ov):SL K ad G H (s::ρ) (ov::σ):=
 ⟨by simp[h.len],λi a e=>by
  rcases i with _|i;cases e;exact⟨ov,rfl,h0⟩;exact h.at_ i a e⟩
theorem wI{K}{ad}{G H}{ρ}{σ}(hS:SL K ad G H ρ σ): ∀{cs} {sl},Dj cs ρ=pi sl->
  ∃vs:L1 V,vs.length=cs.length/\SL K ad G H sl (vs.map pi)/\∀(i j:Nat) v,cs[i]? =pi j->vs[i]? =pi v->σ[j]? =pi (pi v)
 |[],sl,h=>by
  cases h;exact⟨[],rfl,⟨rfl,λi s e=>by cases e⟩,λi j v h=>by cases h⟩
 |c::cs,sl,h=>by
  unfold Dj eM at h;rcases e:ρ[c]? with _|a;rw[e]at h;cases h;rw[e]at h;have b: ∀(v:V),sA (pi a)=pi a->σ[c]? =pi (pi v)->SLi K ad G H a (pi v)->(eM (λi=>sA ρ[i]?) cs).map (a:: ·)=pi sl->∃vs:L1 V,vs.length=(c::cs).length/\SL K ad G H sl (vs.map pi)/\∀(i j:Nat) (v:V),(c::cs)[i]? =pi j->vs[i]? =pi v->σ[j]? =pi (pi v):=λv _ f A h=>by
   obtain⟨r,q,y⟩:=zMd h;subst y;obtain⟨vs,l,u,B⟩:=wI hS (cs:=cs) (sl:=r) q;refine⟨v::vs,by simp[l],u.cons0 A,λi j w o m=>?_⟩;rcases i with _|i;cases o;cases m;exact f;exact B i j w o m
  rcases a with _|d|n|n|n|⟨C,r⟩;cases h;obtain⟨v,f,g⟩:=hS.sh e;exact b v rfl f ⟨v,rfl,g⟩ h;cases h;cases h;cases h;obtain⟨p,z,d,t,x,f,g⟩:=hS.rk e;exact b (.ref p) rfl f ⟨p,z,d,t,x,rfl,g⟩ h
def mM(P:Program)(w:World)(K:oe)(mg:Str->L7 Value)(base:Heap)(ad:Ad)(k:Nat)(f:Addr)(fd:FuncData)(dn:Str)(F:Fn):Prop:=
 ∀(A:Around) (outer:L1 qm) (s:Shared) (G H:Hp) (a:Addr) (Φ:Mn) (Q:VK) (E:XK) (args:Args),Room (k+1) A->Env0 P w K mg base A outer s H->BindsTo s fd args [(dn,.ref a)]->PySem.W.FnAt a s.heap->H a=qw->a∉frs outer->Hl P w K mg base ad k (frs outer) s G H a Φ->Same G H->
  tlM K ad F Φ G H Q->codeAny (model P w) A (.call (.ref f) args) (CR (CXe P w) outer P w H s Q E) s
section
variable{σ:St}{lp:Pos}{ad:Ad}{F:Fn}{tb:Cx->TE}
def Dk(hfn: ∀x,X.fn x=qz)(hg:L2.Gl X tn)(hm:X.mg tn=pi (.ref ft))(hdb:(tn==gV)=q7)(hk:mh X.K (.ref ft)=qz)(hT:mM X.prog X.w X.K X.mg X.base ad k.succ ft fd dn F)(hr:Room (k+2) X.A)(hb: ∀s u,X.K.In s.heap->BindsTo s fd ⟨[u],[]⟩ [(dn,u)])(hx:P∈X.ex)(hpar:defaultsOf params X.env=([],[]))(hq:X.env.qual++"<lambda>"=q)(hfree: ∀x,(x,nu)∈sc.names->X.env.kindOf x=pi .cell\/X.env.kindOf x=pi .free)(hcode:X.env.code= .ref c)(hC:mr s.heap c P)(hB:s.heap.BuiltinsAt X.mg P)(S:LamSc (bE sc) sc)(hbind: ∀cl pm cd ct,bindArgs (mw "<lambda>" q params body sc cl pm cd ct) ⟨[],[]⟩=pure [])(hcl:cap.length=(bE sc).length)(hcap: ∀(i:Nat) x,(bE sc)[i]? =pi x->∃j,cap[i]? =pi j/\X.N[j]? =pi x/\(X.env.kindOf x=pi .cell\/X.env.kindOf x=pi .free))(hbody: ∀a cd cl A outer s H E,Room k (A.deeper (EJ q sc s.z a cd cl))->PE (cxL (CXe X.prog X.w) X.prog X.w X.K X.mg X.base (bE sc) q sc a cd cl A outer s H E) body (tb (cxL (CXe X.prog X.w) X.prog X.w X.K X.mg X.base (bE sc) q sc a cd cl A outer s H E)))(T:TD (TbL P q) L (X.pn++cc))(I:Inv X (L++cc) σ H s)(hG:Same G H)(hS:SL X.K ad G H ρ σ)(hcd:Dj cap ρ=pi ds)(htb: ∀Y (vs:L1 V) G1 H1 Q1 E1,Y.K=X.K->DefX Y E1->Same G1 H1->Step G H G1 H1->SL X.K ad G1 H1 ds (vs.map pi)->(∀(i j:Nat) v,cap[i]? =pi j->vs[i]? =pi v->σ[j]? =pi (pi v))->Φ G1 H1 Q1 (λc H'=>E1 (.ref (ad.cls c)) qw H')->tb Y (vs.map pi) H1 Q1)(hrk:tlM X.K ad F Φ G H Q):
  X.wp (eval (.Call (.Name tn p) [.Lambda params body sc lp] [] cp) X.env) (EPL X (TbL P q) cc σ Q) X.xe s:=by
 obtain⟨ps,cs,rfl,tb⟩:=T.tb;refine wpAny_Call_Name_kw (eT I hg hm ?_ hdb);refine i0 (h₀:=X.base) I.ok.mod.kin hk ?_ rfl rfl;refine iw (AF I tb hx (λp hp=>(T.dj _ (.head _) p hp).symm) hpar hq hfree hcode hC hB λa ap ab cv bl s' n T' be new g O al bb bm=>jh ⟨n.kIn,?_⟩)
 obtain⟨vs,a1,a0,ag⟩:=wI hS hcd
 have a4:TD (TbL P q) ((P,mq ap)::ab) (X.pn++cc):=⟨⟨ap,ab,rfl,T'⟩,λp hp r hr=>by
  rcases av.mp hp with z|hp
  .rw[z];exact T.dj (P,mq ps) (.head _) r hr
  .rcases new p hp with z|z
   .exact T.dj p (.tail _ z) r hr
   .have a6:r∈X.pn++((P,mq ps)::cs++cc):=by
     rcases k6.mp hr with y|y
     .exact g8 _ y
     .exact bt _ (bt _ y)
    exact ou (bg (ah (I.pin r a6).1) z)⟩
 have f: ∀x d,(l7 X.env.cells sc.names []).lookup x=pi d->(x,nu)∈sc.names/\X.env.cells.lookup x=pi d:=λx d e=>by
  rcases kX e with ⟨k,U,Z,h3⟩|h
  .subst Z;refine⟨U,?_⟩;obtain⟨c',am⟩:=I.ok.has x (hfree x U);rw[am]at h3;rw[h3];exact am
  .cases h
 have M: ∀x,sc.names.lookup x=pi .free->∃d,(l7 X.env.cells sc.names []).lookup x=pi d:=λx e=>eh.mp (kY (cells:=X.env.cells) (acc:=[]) (ii e))
 have t: ∀b,b≠X.env.locals->b∉X.fs->b∉frs X.stack:=λb n1 n2 z=>by
  rcases I.ok.stk with e|⟨e,e2⟩
  .rw[e]at z;exact n2 z
  .rw[e]at z;unfold frs at z;rw[ib,e2]at z;rcases av.mp z with y|y
   .exact n1 y
   .exact n2 y
 have ar:Hl X.prog X.w X.K X.mg X.base ad k.succ (frs X.stack) s' G H a Φ:=by
  intro A outer s1 G1 H1 Q1 E1 hR st1 e0 B a3
  have ak: ∀x d,X.env.cells.lookup x=pi d->d∉frs X.stack:=λx d J=>by
   refine t d (λz=>?_) (λz=>?_)
   .obtain⟨v,o,C,l⟩:=n.cell x d J;obtain⟨m,⟨o2,es,ep,e3,a5,_⟩,_⟩:=n.loc;rw[z,e3]at C;cases C;rw[a5]at l;cases l
   .exact absurd (I.ok.cab x d (hfn x) J) (Nat.not_le.mpr (let ⟨o,C⟩:=(I.ok.funs.mem z).2;ah C.1))
  have Tx:DefX (cxL (CXe X.prog X.w) X.prog X.w X.K X.mg X.base (bE sc) q sc a cv (l7 X.env.cells sc.names []) A outer s1 H1 E1) E1:=⟨rfl,rfl,rfl,λe s' h=>h⟩
  obtain⟨c',rfl,a2,as,a7⟩:=bb;refine GO (vs:=vs) S (B _ _ O (I.hok.fresh g) (t a (ou (bg I.lt g)) (I.nofs g))).1 (al.at λo e=>(B _ _ e a2 (t c' as a7)).1) (hbind _ _ _ _) hR e0 (λx y d U Z=>I.ok.inj x y d (f x d U).2 (f y d Z).2) M (λx d h=>?_) (by rw[a1,hcl]) (λi x v U Z h3=>?_) ⟨_,hbody a _ _ A outer s1 H1 E1 (hR.deeper _),htb _ vs G1 H1 Q1 E1 rfl Tx st1.gh st1 (a0.step st1) ag a3⟩
  .obtain⟨v,o,C,J⟩:=n.cell x d (f x d h).2;have kk:=B _ _ C (n.freeC x d (f x d h).2) (ak x d (f x d h).2);exact⟨⟨v,o,kk.1,J⟩,kk.2⟩
  .obtain⟨j,e1,e2,e3⟩:=hcap i x U;have e4:=ag i j v e1 Z;obtain⟨m,hn,hl⟩:=n.loc;obtain⟨u,ru,lu⟩:=hl j x v e2 e4 (by rcases e3 with z|z<;>first|exact .inr (.inl z)|exact .inr (.inr z))
   rcases lu with ⟨z,_⟩|⟨_,d,J,o,C,an⟩
   .rcases e3 with y|y<;>(rw[z]at y;cases y)
   .obtain⟨d',l⟩:=M x h3
    have:=(f x d' l).2
    rw[J]at this;cases this;exact⟨u,d,ru,l,o,(B _ _ C (n.freeC x d J) (ak x d J)).1,an⟩
 refine wpAny_call (codeAny_mono (hT X.A X.stack s' G H a _ Q (λ_ _ _=>False) ⟨[.ref a],[]⟩ hr n.env0 (hb s' _ n.kIn) ⟨_,_,_,_,O⟩ (I.hok.fresh g) (t a (ou (bg I.lt g)) (I.nofs g)) ar hG hrk) λr s2 hq=>?_)
 cases r with
 |error e=>obtain⟨_,_,_,_,_,_,_,_,_,_,_,_,_,_,z⟩:=hq;exact z.elim
 |ok fl=>
  cases fl with
  |ret u=>exact⟨_,a4,n.after hq⟩
  |next=>exact ba hq
  |brk=>exact ba hq
  |cont=>exact ba hq
end
inductive OutM where
 |nx (ρ:Rho) (b:Bool)|rt (x:R) (ρ:Rho) (b:Bool)|ex (c:Nat) (b:Bool)|bad
abbrev FSM:=Rho->Bool->OutM
noncomputable def wJ(b:Bool)(r:R)(k:D->OutM):OutM:=match r with
 |.ok d=>k d
 |.ow xs=>k (.lst xs)
 |.ex c=>.ex c b
 |.bad=>.bad
def fO:FSM:=λρ b=>.nx ρ b
noncomputable def dY(g h:FSM):FSM:=λρ b=>match g ρ b with
 |.nx ρ' b'=>h ρ' b'
 |o=>o
noncomputable def mIf(f:F)(g h:FSM):FSM:=λρ b=>match f ρ with
 |.ok (.bl k)=>if k then g ρ b else h ρ b
 |.ex c=>.ex c b
 |_=>.bad
def Dl(i:Nat)(f:F):FSM:=λρ b=>wJ b (f ρ) λd=>.nx (ρ.set (i+1) (.sh d)) b
def sB(f:F):FSM:=λρ b=>wJ b (f ρ) λ_=>.nx ρ b
noncomputable def sC(f:F):FSM:=λρ b=>match f ρ with
 |.ex c=>.ex c b
 |x=>.rt x ρ b
noncomputable def wK(c:Nat):FSM:=λ_ b=>.ex c b
def StB(b:Bool)(foot:L1 Addr)(G₀ H₀ G H:Hp):Prop:=if b=qz then StepR foot G₀ H₀ G H else Step G₀ H₀ G H
def StepR.step(a:StepR foot G₀ H₀ G H)(t:Step G H G1 H1)(fr: ∀b,H₀ b≠qw->H b≠qw):StepR foot G₀ H₀ G1 H1:=
 ⟨a.sg.trans t.sg,t.gh,λb o c e=>t.sh _ _ (a.sh b o c e),λb d f=>by
  rcases q:G b with _|o;have:=t.nw b q f;rcases z:H₀ b with _|o;rfl;exact absurd this (fr b (by rw[z];exact λy=>nomatch y));exact a.nw b d (by rw[q];exact λz=>nomatch z),λb c=>by
  rcases q:H b with _|o;exact absurd q (fr b c);rw[t.sh b o q];exact λz=>nomatch z⟩
def Step.toR(a:Step G₀ H₀ G H):StepR foot G₀ H₀ G H:=⟨a.sg,a.gh,λb o _ e=>a.sh b o e,a.nw,λb c=>by
 rcases q:H₀ b with _|o;exact absurd q c;rw[a.sh b o q];exact λz=>nomatch z⟩
def shN:Slot->Bool
 |.no=>qz
 |.sh _=>qz
 |_=>q7
structure SM(X:Cx)(ad:Ad)(A:Nat)(G₀:Hp)(p dx d l1 l20:Addr)(b:Bool)(G H:Hp)(ρ:Rho)(σ:St):Prop where
 sl:SL X.K ad G H ρ σ
 gh:Same G H
 me:σ[0]? =pi (pi (.ref p))
 rk: ∃r l2,ρ[0]? =pi (.rk A r)/\RackIn X.K ad A G H p r dx d l1 l2/\(l2=l20\/X.H₀ l2=qw)
 st:StB b [p,dx,d,l1,l20] G₀ X.H₀ G H
 fr: ∀c,X.H₀ c≠qw->H c≠qw
 on: ∀j sl,ρ[j+1]? =pi sl->shN sl=qz
def OKm(X:Cx)(ad:Ad)(A:Nat)(G₀:Hp)(p dx d l1 l20:Addr)(o:OutM)(D':Ends)(E:Nat->Hp->Prop):Prop:=match o with
 |.nx ρ b=>∀σ G H,SM X ad A G₀ p dx d l1 l20 b G H ρ σ->D'.nx σ H
 |.rt (.ok x) ρ b=>∀σ G H v,SM X ad A G₀ p dx d l1 l20 b G H ρ σ->Rep X.K ad G x v->D'.rt v H
 |.rt (.ow xs) _ b=>b=q7/\∀q vs G H,Step G₀ X.H₀ G H->X.H₀ q=qw->G q=qw->H q=pi (.lst vs)->aJ X.K ad G xs vs->D'.rt (.ref q) H
 |.ex c b=>b=q7/\∀G H,Step G₀ X.H₀ G H->E c H
 |_=>False
def tM(X:Cx)(ad:Ad)(A:Nat)(E:Nat->Hp->Prop)(g:FSM):TS:=λD' σ H=>∃G₀ p dx d l1 l20 G ρ b,SM X ad A G₀ p dx d l1 l20 b G H ρ σ/\OKm X ad A G₀ p dx d l1 l20 (g ρ b) D' E
abbrev MM(X:Cx)(ad:Ad)(A:Nat)(E:Nat->Hp->Prop)(st:Stmt)(g:FSM):Prop:=PS X st (tM X ad A E g)
abbrev MMs(X:Cx)(ad:Ad)(A:Nat)(E:Nat->Hp->Prop)(sts:L1 Stmt)(g:FSM):Prop:=PSs X sts (tM X ad A E g)
section
variable{X:Cx}{ad:Ad}{A:Nat}{G₀ G H G1 H1:Hp}{p dx d l1 l20:Addr}{b:Bool}{ρ:Rho}{σ:St}{E:Nat->Hp->Prop}{D':Ends}{f:F}{g h:FSM}{e c:Expr}{st:Stmt}{pos:Pos}
theorem SM.step(S:SM X ad A G₀ p dx d l1 l20 b G H ρ σ)(t:Step G H G1 H1):SM X ad A G₀ p dx d l1 l20 b G1 H1 ρ σ:=by obtain⟨r,g,e,h,f⟩:=S.rk;refine⟨S.sl.step t,t.gh,S.me,⟨r,g,e,h.step t,f⟩,?_,λc i=>?_,S.on⟩;have z:=S.st;unfold StB at z ⊢;by_cases a:b=qz;rw[if_pos a]at z ⊢;exact z.step t S.fr;rw[if_neg a]at z ⊢;exact z.trans t;rcases q:H c with _|o;exact absurd q (S.fr c i);rw[t.sh c o q];exact λz=>nomatch z
def nY{k}{Q'}(S:SM X ad A G₀ p dx d l1 l20 b G H ρ σ)(hx:XP X ad σ E)(hr:OKm X ad A G₀ p dx d l1 l20 (wJ b (f ρ) k) D' E)
  (q: ∀v x G1 H1,SM X ad A G₀ p dx d l1 l20 b G1 H1 ρ σ->Rep X.K ad G1 x v->OKm X ad A G₀ p dx d l1 l20 (k x) D' E->Step G H G1 H1->Q' v H1):tE X ad f σ H Q':=by
 refine⟨G,ρ,E,S.gh,S.sl,hx,?_⟩;rcases e:f ρ with x|o|c|_;rw[e]at hr;exact λv G1 H1 t r=>q v x G1 H1 (S.step t) r hr t;rw[e]at hr;intro a s G1 H1 t n m j r;obtain⟨l,g,i⟩:=dP (X:=X) (ad:=ad) t n m j r;exact q _ _ l H1 (S.step g) i hr g;rw[e]at hr;obtain⟨h,hr⟩:=hr;have z:=S.st;unfold StB at z;rw[h,if_neg bf]at z;exact λG1 H1 t=>hr G1 H1 (z.trans t);rw[e]at hr;exact hr
def Hm:MM X ad A E (.Pass pos) fO:=PS.imp yS λi f H a=>by obtain⟨c,p,l,d,h,e,G,j,b,S,g⟩:=a;exact g f G H S
def Hn:MMs X ad A E [] fO:=PSs.imp lG λi f H a=>by obtain⟨c,p,l,d,h,e,G,j,b,S,g⟩:=a;exact g f G H S
def Dm(h1:MM X ad A E st g)(h2:MMs X ad A E sts h):MMs X ad A E (st::sts) (dY g h):=by refine PSs.imp (i9 h1 h2) ?_;rintro t w H ⟨f,p,o,d,m,j,G,n,b,S,a⟩;refine⟨f,p,o,d,m,j,G,n,b,S,?_⟩;unfold dY at a;rcases e:g n b with ⟨i,l⟩|⟨x,i,l⟩|⟨c,l⟩|_;rw[e]at a;exact λs q u r=>⟨f,p,o,d,m,j,q,i,l,r,a⟩;rw[e]at a;rcases x with x|v|c|_;exact a;exact a;exact a;exact a;rw[e]at a;exact a;rw[e]at a;exact a
def Og{a b}(hx: ∀σ,XP X ad σ E)(hc:MT X ad c f)(ha:MMs X ad A E a g)(hb:MMs X ad A E b h):MM X ad A E (.If c a b pos) (mIf f g h):=by
 refine PS.imp (JA hc ha hb) ?_;rintro w σ H ⟨j,p,s,d,q,n,G,m,b,S,i⟩;unfold mIf at i;rcases e:f m with x|y|c|_;rw[e]at i;cases x<;>try exact i.elim
 rename_i k;refine⟨G,m,E,S.gh,S.sl,hx σ,.inl ⟨k,e⟩,?_⟩;rw[e];intro v o u t r;unfold Rep at r;subst r;refine⟨k,rfl,?_⟩;have l:OKm X ad A j p s d q n (if k=qz then g m b else h m b) w E:=i;cases k;rw[if_neg bf]at l;show if q7=qz then _ else _
 rw[if_neg bf];exact⟨j,p,s,d,q,n,o,m,b,S.step t,l⟩;rw[if_pos rfl]at l;show if qz=qz then _ else _
 rw[if_pos rfl];exact⟨j,p,s,d,q,n,o,m,b,S.step t,l⟩;rw[e]at i;exact i.elim;rw[e]at i;obtain⟨hb,i⟩:=i;have z:=S.st;unfold StB at z;rw[hb,if_neg bf]at z;refine⟨G,m,E,S.gh,S.sl,hx σ,.inr ⟨c,e⟩,?_⟩;rw[e];exact λo u t=>i o u (z.trans t);rw[e]at i;exact i.elim
theorem SM.set(S:SM X ad A G₀ p dx d l1 l20 b G H ρ σ)(r:Rep X.K ad G x v):SM X ad A G₀ p dx d l1 l20 b G H (ρ.set (i+1) (.sh x)) (σ.set (i+1) (pi v)):=by
 obtain⟨m,n,c,o,f⟩:=S.rk;refine⟨⟨by rw[lg,lg];exact S.sl.len,λj sl e=>?_⟩,S.gh,by rw[bc (by lia)];exact S.me,⟨m,n,by rw[bc (by lia)];exact c,o,f⟩,S.st,S.fr,λj sl e=>?_⟩;by_cases z:j=i+1;subst z;have a:i+1<ρ.length:=by have:=(ay.mp e).1;rwa [lg]at this
 rw[bj a]at e;cases e;exact⟨pi v,bj (by rw[<-S.sl.len];exact a),v,rfl,r⟩;rw[bc (qu z)]at e;obtain⟨g,h,l⟩:=S.sl.at_ j sl e;exact⟨g,by rw[bc (qu z)];exact h,l⟩;by_cases z:j=i;subst z;have a:j+1<ρ.length:=by have:=(ay.mp e).1;rwa [lg]at this
 rw[bj a]at e;cases e;rfl;rw[bc (by lia)]at e;exact S.on j sl e
def Ho(hx: ∀σ,XP X ad σ E)(he:ME X ad e f)(hs:swapsWith e qw pos.line X.env=pure q7):MM X ad A E (.Expr e pos) (sB f):=by refine PS.imp (oI he hs) ?_;rintro l σ H ⟨a,p,o,d,m,j,G,n,b,S,g⟩;exact nY S (hx σ) g λv x c i h r k _=>k _ c i h
def Ln(hx: ∀σ,XP X ad σ E)(he:ME X ad e f):MM X ad A E (.Return (pi e) pos) (sC f):=by refine PS.imp (u6 he) ?_;rintro w σ H ⟨l,p,C,d,y,s,G,j,b,S,a⟩;refine⟨G,j,E,S.gh,S.sl,hx σ,?_⟩;unfold sC at a;rcases e:f j with x|B|c|_;rw[e]at a;exact λv g h t r=>a σ g h v (S.step t) r;rw[e]at a;obtain⟨i,a⟩:=a;have z:=S.st;unfold StB at z;rw[i,if_neg bf]at z;exact λq u g h t n m o r=>a q u g h (z.trans t) (z.sh.free n) m o r;rw[e]at a;obtain⟨i,a⟩:=a;have z:=S.st;unfold StB at z;rw[i,if_neg bf]at z;exact λg h t=>a g h (z.trans t);rw[e]at a;exact a
def Dn{E₀}{x}{k}{np cpos kp}{msg}{j}(T:DefX X E₀)(hc:X.calm=qz)(hg:L2.Gl X x)(hm:X.mg x=pi (.ref (ad.cls k)))(hd:(x==gV)=q7)(hi:excIn X.K (ad.cls k) [.type "ValueError",.type "Exception",.type "BaseException",.type "object"] "ValueError.__new__"=qz)(hE: ∀c H,E c H->E₀ (.ref (ad.cls c)) qw H):
  MM X ad A E (.Raise (pi (.Call (.Name x np) [.Constant (.str msg) j kp] [] cpos)) qw pos) (wK k):=by
 rintro l s o H h I ⟨e,p,n,d,i,g,G,m,b,S,a⟩;obtain⟨f,a⟩:=a;have z:=S.st;unfold StB at z;rw[f,if_neg bf]at z;exact vT T hc hg hm hd hi I (hE k H (a G H z))
end
noncomputable def gO(kvs:L1 (Str×D))(x:Str):L1 (Str×D):=kvs.filter λp=>decide (p.1≠x)
noncomputable def mUp(A:Nat)(ρ:Rho)(k:Rk->OutM):OutM:=match(ρ[0]? :L7 Slot)with
 |some (.rk C r)=>if C=A then k r else .bad
 |_=>.bad
noncomputable def Do(A:Nat)(ρ:Rho)(r:Rk):OutM:=.nx (ρ.set 0 (.rk A r)) qz
noncomputable def Pe(bb:Bool)(r:Rk)(d:D):Rk:=if bb then {r with done:=r.done++[d]} else {r with undone:=r.undone++[d]}
noncomputable def Pf(bb:Bool)(r:Rk):Rk:=if bb then {r with done:=r.done.dropLast} else {r with undone:=r.undone.dropLast}
def M6(A:Nat)(bb:Bool)(f:F):FSM:=λρ b=>mUp A ρ λr=>wJ b (f ρ) λd=>if(B6 bb r).length<LIM then Do A ρ (Pe bb r d)else .bad
def Hq(A i:Nat)(bb:Bool):FSM:=λρ _=>mUp A ρ λr=>match(B6 bb r).getLast? with
 |some d=>.nx ((ρ.set 0 (.rk A (Pf bb r))).set (i+1) (.sh d)) qz
 |none=>.bad
def wL(A:Nat):FSM:=λρ _=>mUp A ρ λr=>Do A ρ {r with undone:=[]}
def Hr(A:Nat)(f g:F):FSM:=λρ b=>wJ b (g ρ) λv=>mUp A ρ λr=>wJ b (f ρ) λk=>match k with
 |.str x=>if r.held.length<LIM then Do A ρ {r with held:=fY r.held x v} else .bad
 |_=>.bad
def Ht(A:Nat)(f:F):FSM:=λρ b=>mUp A ρ λr=>wJ b (f ρ) λk=>match k with
 |.str x=>if(bI r.held x).isSome then Do A ρ {r with held:=gO r.held x} else .bad
 |_=>.bad
noncomputable def Oh(b:Bool)(r:RA)(k:L1 D->OutM):OutM:=match r with
 |.ok ds=>k ds
 |.ex c=>.ex c b
 |.bad=>.bad
section
variable{X:Cx}{ad:Ad}{A:Nat}{G₀:Hp}{p dx d l1 l20:Addr}{ρ:Rho}{σ:St}{E:Nat->Hp->Prop}{D':Ends}{f:F}{e:Expr}{pos ap cp np qp:Pos}{x:Str}
def nZ{k}(hr:OKm X ad A G₀ p dx d l1 l20 (mUp A ρ k) D' E): ∃r,ρ[0]? =pi (.rk A r)/\OKm X ad A G₀ p dx d l1 l20 (k r) D' E:=by unfold mUp at hr;split at hr;rename_i C r e;by_cases a:C=A;rw[if_pos a]at hr;subst a;exact⟨r,e,hr⟩;rw[if_neg a]at hr;exact hr.elim;exact hr.elim
theorem SM.toR(S:SM X ad A G₀ p dx d l1 l20 b G H ρ σ):StepR [p,dx,d,l1,l20] G₀ X.H₀ G H:=by have z:=S.st;unfold StB at z;by_cases a:b=qz;rw[if_pos a]at z;exact z;rw[if_neg a]at z;exact z.toR
def SM.chg(S:SM X ad A G₀ p dx d l1 l20 b G H ρ σ)(hf:a∈[p,dx,d,l1,l20]\/X.H₀ a=qw)(ga:G a=qw)(hR:RackIn X.K ad A G (upd H a o) p r' dx d l1 l2)(h2:l2=l20\/X.H₀ l2=qw):
  SM X ad A G₀ p dx d l1 l20 qz G (upd H a o) (ρ.set 0 (.rk A r')) σ:=by
 have h:0<ρ.length:=by
  obtain⟨r,_,i,_⟩:=S.rk;exact(ay.mp i).1
 have gh:Same G (upd H a o):=λc u e=>by
  have g:c≠a:=λz=>by rw[z,ga]at e;cases e
  rw[aC g];exact S.gh c u e
 refine⟨⟨by rw[lg];exact S.sl.len,λj sl e=>?_⟩,gh,S.me,⟨r',l2,bj h,hR,h2⟩,?_,λc f=>?_,λj sl e=>?_⟩;rcases j with _|j;rw[bj h]at e;cases e;exact⟨_,S.me,p,dx,d,l1,l2,rfl,hR⟩;rw[bc (by lia)]at e;obtain⟨l,m,n⟩:=S.sl.at_ _ sl e;have s:=S.on j sl e;refine⟨l,m,?_⟩;cases sl with
 |no=>trivial
 |sh d=>exact n
 |_=>cases s
 show StB qz _ _ _ _ _;unfold StB;rw[if_pos rfl];have z:=S.toR;refine⟨z.sg,gh,λc u f e=>?_,z.nw,λc f=>by
  by_cases q:c=a;subst q;rw[aH];exact λz=>nomatch z;rw[aC q];exact S.fr c f⟩
 have g:c≠a:=λq=>by
  subst q;rcases hf with hf|hf;exact f hf;rw[hf]at e;cases e
 rw[aC g];exact z.sh c u f e;by_cases q:c=a;subst q;rw[aH];exact λz=>nomatch z;rw[aC q];exact S.fr c f;rw[bc (by lia)]at e;exact S.on j sl e
def ES(h2:l2=l20\/X.H₀ l2=qw):l2∈[p,dx,d,l1,l20]\/X.H₀ l2=qw:=h2.elim (λz=>.inl (by rw[z];simp)) .inr
def RackIn.list(bb:Bool)(h:RackIn X.K ad A G H p r dx d l1 l2)(rv:aJ X.K ad G ds vs):RackIn X.K ad A G (upd H (if bb then l1 else l2) (.lst vs)) p (if bb then {r with done:=ds} else {r with undone:=ds}) dx d l1 l2:=by
 obtain⟨kvs,c,f⟩:=h.held;obtain⟨n,e,j⟩:=h.done;obtain⟨m,i,o⟩:=h.undone;have g: ∀{l:Addr} {ws:L1 V},H l=pi (.lst ws)->p≠l/\dx≠l/\d≠l:=λ{l ws} hl=>
  ⟨(λz=>by rw[<-z,h.ins]at hl;cases hl),(λz=>by rw[<-z,h.own]at hl;cases hl),(λz=>by rw[<-z,c]at hl;cases hl)⟩
 cases bb;obtain⟨q1,b,a⟩:=g i;exact⟨by show upd H l2 _ _=_;rw[aC q1];exact h.ins,by show upd H l2 _ _=_;rw[aC b];exact h.own,⟨kvs,by show upd H l2 _ _=_;rw[aC a];exact c,f⟩,⟨n,by show upd H l2 _ _=_;rw[aC h.ne];exact e,j⟩,⟨vs,aH,rv⟩,h.ne,h.gp,h.gx,h.gd,h.g1,h.g2⟩;obtain⟨q1,b,a⟩:=g e;exact⟨by show upd H l1 _ _=_;rw[aC q1];exact h.ins,by show upd H l1 _ _=_;rw[aC b];exact h.own,⟨kvs,by show upd H l1 _ _=_;rw[aC a];exact c,f⟩,⟨vs,aH,rv⟩,⟨m,by show upd H l1 _ _=_;rw[aC h.ne.symm];exact i,o⟩,h.ne,h.gp,h.gx,h.gd,h.g1,h.g2⟩
def ET(bb:Bool)(RC:RkC X.K A)(h:RackIn X.K ad A G H p r dx d l1 l2)(hi:σ[0]? =pi (pi (.ref p)))(q:Q (.ref (if bb then l1 else l2)) H):MJ X.K (IY 0) (if bb then "done" else "undone") σ H Q:=by cases bb;exact g0 RC h hi (fd:="undone") rfl RC.n3 q;exact g0 RC h hi (fd:="done") rfl RC.n2 q
def A4(bb:Bool)(h:RackIn X.K ad A G H p r dx d l1 l2): ∃vs,H (if bb then l1 else l2)=pi (.lst vs)/\aJ X.K ad G (B6 bb r) vs/\G (if bb then l1 else l2)=qw:=by cases bb;obtain⟨g,f,c⟩:=h.undone;exact⟨g,f,c,h.g2⟩;obtain⟨a,e,b⟩:=h.done;exact⟨a,e,b,h.g1⟩
def Lo(bb:Bool)(hx: ∀σ,XP X ad σ E)(RC:RkC X.K A)(hV:kT X 0 x)(he:ME X ad e f)(hs:starEach [e] X.env=(q7,eval e X.env)::starEach [] X.env)(hl:(ap.endLine==cp.line)=qz):
  MM X ad A E (.Expr (.Call (.Attribute (.Attribute (.Name x np) (if bb then "done" else "undone") qp) "append" ap) [e] [] cp) pos) (M6 A bb f):=by
 refine PS.imp (oI (Ny (T:="list") fq PySem.F.slot_list_append PySem.F.type_list_append qN (gT (bQ hV) rfl) (cJ he eP hs) rfl (iB hs) hl hs rfl) rfl) ?_;rintro Q σ H ⟨m,p,O,d,c,j,G,U,b,S,g⟩;obtain⟨r,N,g⟩:=nZ g;obtain⟨W,n,l,i,o⟩:=S.rk;rw[N]at l;cases l;obtain⟨M,t,Y,k3⟩:=A4 bb i;unfold Fz tBM;refine ET bb RC i S.me ?_;refine⟨.inl ⟨rfl,M,SqL.of t⟩,?_⟩;refine nY S (hx σ) g λv y B Z J C k u=>?_;have a:=i.step u;obtain⟨s,I,q,L⟩:=A4 bb a;by_cases h:(B6 bb r).length<LIM;rw[if_pos h]at k;refine⟨_,s,v,rfl,rfl,I,by rw[q.length];exact bg h (by decide),?_⟩;have w:(if bb then c else n)∈[p,O,d,c,j]\/X.H₀ (if bb then c else n)=qw:=by
  cases bb;exact ES o;exact .inl (by simp)
 refine k σ B _ (J.chg (r':=Pe bb r y) w L ?_ o);have z:=a.list bb (q.append (aJ.cons C aJ.nil));cases bb<;>exact z;rw[if_neg h]at k;exact k.elim
def Hu(bb:Bool)(RC:RkC X.K A)(hV:kT X 0 x)(hl:(ap.endLine==cp.line)=qz)(hnd:X.N.Nodup)(hi:X.N[i+1]? =pi y)(hlo:Loc X.env.scope y)(hf:X.fn y=qz\/X.env.scope.names.lookup y=pi .local):
  MM X ad A E (.Assign [.Name y yp] (.Call (.Attribute (.Attribute (.Name x np) (if bb then "done" else "undone") qp) "pop" ap) [] [] cp) pos) (Hq A i bb):=by
 refine PS.imp (nE (i:=i+1) hnd hi hlo (JS (T:="list") fq PySem.F.slot_list_pop PySem.F.type_list_pop JT (gT (bQ hV) rfl) rfl hl) rfl hf) ?_;rintro L Q H ⟨o,p,C,d,f,j,G,M,b,S,a⟩;obtain⟨r,B,a⟩:=nZ a;obtain⟨O,q,m,g,s⟩:=S.rk;rw[B]at m;cases m;obtain⟨h,n,c,w⟩:=A4 bb g;unfold FD OX;refine ET bb RC g S.me ?_;refine⟨.inl ⟨rfl,h,SqL.of n⟩,?_⟩;rcases e:(B6 bb r).getLast? with _|t;rw[e]at a;exact a.elim;rw[e]at a;have l:(B6 bb r)[(B6 bb r).length-1]? =pi t:=by rw[<-List.getLast?_eq_getElem?];exact e
 obtain⟨v,J,u⟩:=c.get l;refine⟨_,h,v,rfl,rfl,n,by rw[c.length];exact J,?_⟩;have hf:(if bb then f else q)∈[p,C,d,f,j]\/X.H₀ (if bb then f else q)=qw:=by
  cases bb;exact ES s;exact .inl (by simp)
 have I:aJ X.K ad G (B6 bb r).dropLast h.dropLast:=by
  rw[List.dropLast_eq_take,List.dropLast_eq_take,c.length];exact c.take _
 refine a _ G _ (SM.set (i:=i) (S.chg (r':=Pf bb r) hf w ?_ s) u);have z:=g.list bb I;cases bb<;>exact z
end
def nC(A:Nat)(M:FM)(fs:L1 F):FSM:=λρ b=>mUp A ρ λr=>Oh b (args fs ρ) λds=>match M r ds with
 |.pure x=>wJ b x λ_=>.nx ρ b
 |.chg _ r'=>.nx (ρ.set 0 (.rk A r')) qz
section
variable{X:Cx}{ad:Ad}{A n:Nat}{G₀ G H G1 H1:Hp}{p dx d l1 l2 l20:Addr}{b:Bool}{ρ:Rho}{σ:St}{E:Nat->Hp->Prop}{D':Ends}{f g:F}{fs:L1 F}{e k v:Expr}{es:L1 Expr}{pos ap cp np qp kp lp:Pos}{x m:Str}{r':Rk}{M:FM}
def Dp(RC:RkC X.K A)(hV:kT X 0 x):
  MM X ad A E (.Assign [.Attribute (.Name x np) "undone" qp] (.List [] lp) pos) (wL A):=by
 refine PS.imp (u8 (bQ hV) (u9 eP) rfl) ?_;rintro O I H ⟨i,p,t,d,v,L,G,Q,b,S,f⟩;obtain⟨r,M,f⟩:=nZ f;obtain⟨T,l2,g,s,U⟩:=S.rk;rw[M]at g;cases g;refine⟨bu _,λl n=>?_⟩;have j:Step G H G (upd H l (.lst [])):=Step.own S.gh n;have J:=S.step j;have a:=s.step j;have y:X.H₀ l=qw:=by
  rcases q:X.H₀ l with _|o;rfl;exact absurd n (S.fr l (by rw[q];exact λz=>nomatch z))
 obtain⟨kvs,h,C⟩:=a.held;obtain⟨B,m,u⟩:=a.done;have el:upd H l (.lst []) l=pi (.lst []):=aH;have e: ∀{c:Addr} {o:HO},upd H l (.lst []) c=pi o->(∀fs,o≠ .ins A t fs)->c≠p:=λ{c o} hc ho z=>by
  rw[z,a.ins]at hc;cases hc;exact ho _ rfl
 have N:v≠l:=λz=>by
  obtain⟨w,q1,_⟩:=s.done;rw[z,n]at q1;cases q1
 refine⟨.ref p,S.me,p,A,t,_,rfl,a.ins,RC.cl,RC.n3,by show 3<1000;decide,?_⟩;refine f I G _ (J.chg (r':={r with undone:=[]}) (l2:=l) (.inl (by simp)) a.gp ?_ (.inr y));exact⟨aH,by rw[aC (e a.own λ_ z=>nomatch z)];exact a.own,⟨kvs,by rw[aC (e h λ_ z=>nomatch z)];exact h,C⟩,⟨B,by rw[aC (e m λ_ z=>nomatch z)];exact m,u⟩,
  ⟨[],by rw[aC (e el λ_ z=>nomatch z)];exact el,aJ.nil⟩,N,a.gp,a.gx,a.gd,a.g1,S.gh.free n⟩
def Hv{K}(h:HR K ad G held kvs)x:HR K ad G (gO held x) (L2.dropK kvs (qt x)):=by
 unfold gO L2.dropK;induction h with
 |nil=>exact .nil
 |@cons p q d e a t c=>
  rw[kc,kc];by_cases z:p.1=x;have b:q.1=(qt x:L2.Key):=by rw[a.1,z]
  simp only[z,b,ne_eq,not_true_eq_false,decide_false,az,if_false];exact c;have b: ¬q.1=(qt x:L2.Key):=λy=>z (by rw[a.1]at y;exact pf y);simp only[z,b,ne_eq,not_false_eq_true,decide_true,if_true];exact .cons a c
def RackIn.dict{held}(h:RackIn X.K ad A G H p r dx d l1 l2)(rv:HR X.K ad G held kvs):RackIn X.K ad A G (upd H d (.dK kvs)) p {r with held:=held} dx d l1 l2:=by
 obtain⟨b,l,m⟩:=h.held;obtain⟨i,a,f⟩:=h.done;obtain⟨g,e,j⟩:=h.undone;have ne: ∀{c:Addr} {o:HO},H c=pi o->(∀fs,o≠ .dK fs)->c≠d:=λ{c o} hc ho z=>by
  rw[z,l]at hc;cases hc;exact ho _ rfl
 exact⟨by rw[aC (ne h.ins λ_ z=>nomatch z)];exact h.ins,by rw[aC (ne h.own λ_ z=>nomatch z)];exact h.own,⟨kvs,aH,rv⟩,⟨i,by rw[aC (ne a λ_ z=>nomatch z)];exact a,f⟩,
  ⟨g,by rw[aC (ne e λ_ z=>nomatch z)];exact e,j⟩,h.ne,h.gp,h.gx,h.gd,h.g1,h.g2⟩
def Hw(hu:X.A.units+62<cLine)(hx: ∀σ,XP X ad σ E)(RC:RkC X.K A)(hV:kT X 0 x)(hk:ME X ad k f)(hw:ME X ad v g)(hs:swapsWith v (pi (.Subscript (.Attribute (.Name x np) "held" qp) k kp)) pos.line X.env=pure q7):
  MM X ad A E (.Assign [.Subscript (.Attribute (.Name x np) "held" qp) k kp] v pos) (Hr A f g):=by
 refine PS.imp (zM (by lia) (gT (bQ hV) rfl) hk hw hs) ?_;rintro C σ H ⟨e,p,W,d,I,m,G,L,b,S,N⟩;refine nY S (hx σ) N λw y G1 H1 j l c st=>?_;obtain⟨r,U,c⟩:=nZ c;obtain⟨Z,l2,n,B,Q⟩:=j.rk;rw[U]at n;cases n;refine g0 RC B j.me (fd:="held") rfl RC.n1 ?_;refine nY j (hx σ) c λu z O Y T s o st2=>?_;cases z with
 |str q=>
  unfold Rep at s;subst s;have a:=B.step st2;obtain⟨kvs,M,t⟩:=a.held;have J:kvs.length=r.held.length:=(ng t).symm;have h:OKm X ad A e p W d I m (if r.held.length<LIM then Do A L {r with held:=fY r.held q y} else .bad) C E:=o;by_cases i:r.held.length<LIM;rw[if_pos i]at h;refine⟨d,_,rfl,F8.k (k:=qt q) M (by rw[J];exact bg i (by decide)),?_⟩;exact h σ O _ (T.chg (.inl (by simp)) a.gd (a.dict (v5 t (l.mono st2.sg) q)) Q);rw[if_neg i]at h;exact h.elim
 |_=>exact o.elim
def Hx(hx: ∀σ,XP X ad σ E)(RC:RkC X.K A)(hV:kT X 0 x)(hk:ME X ad k f)(hm:M1 X (.Attribute (.Name x np) "held" qp) "pop" ap k cp):
  MM X ad A E (.Expr (.Call (.Attribute (.Attribute (.Name x np) "held" qp) "pop" ap) [k] [] cp) pos) (Ht A f):=by
 refine PS.imp (oI (Cw (gT (bQ hV) rfl) hk hm) rfl) ?_;rintro w σ H ⟨e,p,Q,d,y,j,G,B,b,S,h⟩;obtain⟨r,O,h⟩:=nZ h;obtain⟨U,W,l,i,J⟩:=S.rk;rw[O]at l;cases l;obtain⟨c,N,_⟩:=i.held;unfold Fz Eo;refine g0 RC i S.me (fd:="held") rfl RC.n1 ⟨d,rfl,.inl ⟨c,.inl N⟩,?_⟩;refine nY S (hx σ) h λu z I T L n m st2=>?_;cases z with
 |str q=>
  unfold Rep at n;subst n;have a:=i.step st2;obtain⟨kvs,C,s⟩:=a.held;have t:=lA s q;have g:OKm X ad A e p Q d y j (if(bI r.held q).isSome=qz then Do A B {r with held:=gO r.held q} else .bad) w E:=m;rcases o:bI r.held q with _|dd;rw[o]at g;exact g.elim;rw[o]at g t;obtain⟨v,M,_⟩:=t;refine⟨kvs,qt q,v,C,rfl,M,?_⟩;exact g σ I _ (L.chg (.inl (by simp)) a.gd (a.dict (Hv s q)) J)
 |_=>exact m.elim
def Hy{k}{Q'}(S:SM X ad A G₀ p dx d l1 l20 b G H ρ σ)(hx:XP X ad σ E)(hr:OKm X ad A G₀ p dx d l1 l20 (Oh b (args fs ρ) k) D' E)
  (q: ∀vs ds G1 H1,SM X ad A G₀ p dx d l1 l20 b G1 H1 ρ σ->aJ X.K ad G1 ds vs->ds.length=fs.length->OKm X ad A G₀ p dx d l1 l20 (k ds) D' E->Step G H G1 H1->Q' vs H1):tA X ad fs σ H Q':=by
 refine⟨G,ρ,E,S.gh,S.sl,hx,?_⟩;rcases e:args fs ρ with ds|c|_;rw[e]at hr;exact λvs G1 H1 t r=>q vs ds G1 H1 (S.step t) r (fR e) hr t;rw[e]at hr;obtain⟨a,hr⟩:=hr;have z:=S.st;unfold StB at z;rw[a,if_neg bf]at z;exact λG1 H1 t=>hr G1 H1 (z.trans t);rw[e]at hr;exact hr
def SM.call(S:SM X ad A G₀ p dx d l1 l20 b G H ρ σ)(h2:l2=l20\/X.H₀ l2=qw)(t:StepR [p,dx,d,l1,l2] G H G1 H1)(hR:RackIn X.K ad A G1 H1 p r' dx d l1 l2')(h3:l2'=l2\/H l2'=qw):SM X ad A G₀ p dx d l1 l20 qz G1 H1 (ρ.set 0 (.rk A r')) σ:=by
 have g:0<ρ.length:=by
  obtain⟨r,_,h,_⟩:=S.rk;exact(ay.mp h).1
 have f: ∀c,H c=qw->X.H₀ c=qw:=λc a=>by
  rcases q:X.H₀ c with _|o;rfl;exact absurd a (S.fr c (by rw[q];exact λz=>nomatch z))
 refine⟨⟨by rw[lg];exact S.sl.len,λj sl e=>?_⟩,t.gh,S.me,⟨r',l2',bj g,hR,?_⟩,?_,λc a=>t.th c (S.fr c a),λj sl e=>?_⟩;rcases j with _|j;rw[bj g]at e;cases e;exact⟨_,S.me,p,dx,d,l1,l2',rfl,hR⟩;rw[bc (by lia)]at e;obtain⟨i,n,w⟩:=S.sl.at_ _ sl e;have B:=S.on j sl e;refine⟨i,n,?_⟩;cases sl with
 |no=>trivial
 |sh d=>
  obtain⟨v,q1,l⟩:=w;exact⟨v,q1,l.mono t.sg⟩
 |_=>cases B
 rcases h3 with rfl|h3;exact h2;exact .inr (f _ h3);show StB qz _ _ _ _ _;unfold StB;rw[if_pos rfl];have z:=S.toR;refine⟨z.sg.trans t.sg,t.gh,λc u a e=>t.sh c u (λm=>?_) (z.sh c u a e),λc x s=>?_,λc a=>t.th c (S.fr c a)⟩;simp only[av,kh,or_false,not_or]at m a;rcases m with m|m|m|m|m;exact a.1 m;exact a.2.1 m;exact a.2.2.1 m;exact a.2.2.2.1 m;rcases h2 with h2|h2;exact a.2.2.2.2 (m.trans h2);rw[m,h2]at e;cases e;rcases q:G c with _|o;exact f c (t.nw c q s);exact z.nw c x (by rw[q];exact λy=>nomatch y);rw[bc (by lia)]at e;exact S.on j sl e
def Dq(S:SM X ad A G₀ p dx d l1 l20 b G H ρ σ)(h2:l2=l20\/X.H₀ l2=qw){R'}(hr:OKm X ad A G₀ p dx d l1 l20 (match R' with|.pure x=>wJ b x λ_=>.nx ρ b|.chg _ r'=>.nx (ρ.set 0 (.rk A r')) qz) D' E):
  RMK X.K ad A G H p dx d l1 l2 R' (λ_ H1=>D'.nx σ H1) E:=by
 rcases R' with x|⟨x,r'⟩;have a:OKm X ad A G₀ p dx d l1 l20 (wJ b x λ_=>.nx ρ b) D' E:=hr;rcases x with y|n|c|_;exact λv e H1 t _=>a σ e H1 (S.step t);exact λq o e H1 t _ _ _ _=>a σ e H1 (S.step t);obtain⟨g,f⟩:=a;have z:=S.st;unfold StB at z;rw[g,if_neg bf]at z;exact λe H1 t=>f e H1 (z.trans t);exact a.elim;exact λv j l i t m h _=>hr σ j l (S.call h2 t m h)
def Hz(hx: ∀σ,XP X ad σ E)(RC:RkC X.K A)(M0:MetOk X ad A m n M)(hV:kT X 0 x)(ha:MA X ad (e::es) fs)(hn:fs.length=n)(hst:starEach (e::es) X.env=(q7,eval e X.env)::starEach es X.env)(hpl:(backTo cp (starEach es X.env)).any (·.1)=q7)(hfm:methodCallForm ((e::es).length+([]:L1 Keyword).length) (backTo cp (starEach (e::es) X.env)) (backToKw cp (keywordEach [] X.env))=qz)(hln:(ap.endLine==cp.line)=qz):
  MM X ad A E (.Expr (.Call (.Attribute (.Name x np) m ap) (e::es) [] cp) pos) (nC A M fs):=by
 rintro B s σ H O I ⟨Q,p,dx,d,l1,ab,G,ρ,b,S,q⟩;obtain⟨r,e0,q⟩:=nZ q;obtain⟨t,l2,N,U,h2⟩:=S.rk;rw[e0]at N;cases N;have g:X.wp (eval (.Call (.Attribute (.Name x np) m ap) (e::es) [] cp) X.env) (EP X B σ λ_ a=>O.nx σ a) X.xe s:=by
  obtain⟨fm,k,fd,ps,L,_⟩:=M0.ok;refine gw (L2.thn (bQ hV B s σ H (λv a=>v= .ref p/\a=H) I ⟨.ref p,S.me,rfl,rfl⟩) λu T z=>?_) (jJ rfl hfm hln);obtain⟨v,a,h,t,e1,e2⟩:=z;subst e1;subst e2;cases (show u=qh p from t);refine hU h U.ins RC.cl L (v8 M0.no) ?_;refine i0 (first:=[.ref p]) (h₀:=X.base) h.ok.mod.kin L.kp (L2.thn (ha cp B T σ a (λJ j=>∃c f,Step G a f j/\aJ X.K ad f c J/\c.length=fs.length/\RMK X.K ad A f j p dx d l1 l2 (M r c) (λ_ H3=>O.nx σ H3) E) h
   (Hy S (hx σ) q λJ c f j S1 C l k i=>⟨c,f,i,C,l,Dq S1 h2 k⟩)) λus s2 ⟨J,j,Y,Z,c,f,i,C,l,k⟩=>⟨Y.kIn,?_⟩) hst hpl
  exact mJ M0 Y i.gh (U.step i) Z C (l.trans hn) (hx σ) k L
 exact wpAny_Expr_any (L2.thn g λv T o=>by obtain⟨y,a,h,t,q1⟩:=o;exact⟨σ,a,h,q1⟩) I.quiet rfl
end
structure CA where
 o:Expr
 m:Str
 ap:Pos
 as:List Expr
 cp:Pos
def wM:Expr->L7 CA
 |.Call f as kws cp=>if kws.isEmpty then(Co f).bind λ(o,m,ap)=>if(ap.endLine==cp.line)=qz then pi ⟨o,m,ap,as,cp⟩ else qw else qw
 |_=>qw
def Dr(h:Co e=pi (o,f,q)):e= .Attribute o f q:=by cases e<;>first|(cases h;rfl)|(cases h;done)
def mO(h:wM e=pi c):e= .Call (.Attribute c.o c.m c.ap) c.as [] c.cp/\(c.ap.endLine==c.cp.line)=qz:=by
 cases e<;>try (cases h;done)
 rename_i f as a cp;have b:(if a.isEmpty then(Co f).bind λ(o,m,ap)=>if(ap.endLine==cp.line)=qz then pi (⟨o,m,ap,as,cp⟩:CA)else qw else qw)=pi c:=h;by_cases hk:a.isEmpty=qz;rw[if_pos hk]at b;obtain⟨⟨o,m,ap⟩,i,j⟩:=zBd b;have d:(if(ap.endLine==cp.line)=qz then pi (⟨o,m,ap,as,cp⟩:CA)else qw)=pi c:=j;by_cases g:(ap.endLine==cp.line)=qz;rw[if_pos g]at d;cases d;cases Dr i;cases ko.mp hk;exact⟨rfl,g⟩;rw[if_neg g]at d;cases d;rw[if_neg hk]at b;cases b
noncomputable def Lp:L7 Nat->L7 Nat
 |some (i+1)=>pi i
 |_=>qw
def Ds(h:Lp o=pi i):o=pi (i+1):=by rcases o with _|j;cases h;rcases j with _|j;cases h;cases h;rfl
def EU:Expr->Bool
 |.List es _=>es.isEmpty
 |_=>q7
def A5(h:EU e=qz): ∃p,e= .List [] p:=by
 cases e<;>try (cases h;done)
 rename_i a p;cases ko.mp (show a.isEmpty=qz from h);exact⟨p,rfl⟩
def Pg(C:SK.Ctx)(e:Expr):L7 Bool:=(wM e).bind λc=>if c.m="pop"/\c.as.isEmpty=qz then(Jd C c.o).bind λ(i,bb)=>if i=0 then pi bb else qw else qw
def HA(h:Pg C e=pi bb): ∃x np qp ap cp,e= .Call (.Attribute (.Attribute (.Name x np) (if bb then "done" else "undone") qp) "pop" ap) [] [] cp/\(ap.endLine==cp.line)=qz/\loc C x=pi 0:=by have n:=zBd h;clear h;obtain⟨c,d,h⟩:=n;obtain⟨rfl,f⟩:=mO d;clear d;obtain⟨o,m,ap,u,cp⟩:=c;simp only at h f ⊢;split at h;rename_i l;obtain⟨rfl,r⟩:=l;cases ko.mp r;obtain⟨⟨i,g⟩,s,j⟩:=zBd h;have a:(if i=0 then pi g else qw)=pi bb:=j;by_cases b:i=0;rw[if_pos b]at a;cases a;subst b;obtain⟨x,p,q,rfl,t⟩:=pC s;exact⟨x,p,q,ap,cp,rfl,f,t⟩;rw[if_neg b]at a;cases a;cases h
def Oi(A:Nat)(C:SK.Ctx)(t e:Expr):L7 FSM:=match t with
 |.Name x _=>(Lp (loc C x)).bind λi=>(match Pg C e with
  |some bb=>pi (Hq A i bb)
  |none=>(bT 50 C e).map λf=>Dl i f)
 |.Attribute o f q=>if atF C "undone" (.Attribute o f q)=pi 0/\EU e=qz then pi (wL A)else qw
 |.Subscript o k _=>if atF C "held" o=pi 0 then(bT 50 C k).bind λf=>(cH e).bind λ(y,py)=>(bT 50 C (.Name y py)).map λg=>Hr A f g else qw
 |_=>qw
def Oj(A:Nat)(ms:L1 (Str×Nat×FM))(C:SK.Ctx)(e:Expr):L7 FSM:=match wM e with
 |some c=>(match cH c.o with
  |some (x,_)=>if loc C x=pi 0 then(ms.lookup c.m).bind λ(n,M)=>if c.as.length<20/\c.as.isEmpty=q7 then(eM (bT 50 C) c.as).bind λfs=>if fs.length=n then pi (nC A M fs)else qw else qw else qw
  |none=>(match Jd C c.o with
   |some (i,bb)=>if i=0/\c.m="append" then(one c.as).bind λa=>(bT 50 C a).map λf=>M6 A bb f else qw
   |none=>if atF C "held" c.o=pi 0/\c.m="pop" then(one c.as).bind λa=>(bT 50 C a).map λf=>Ht A f else qw))
 |none=>(match e with
  |.Call f as kws cp=>if kws.isEmpty then(bT 50 C (.Call f as [] cp)).map sB else qw
  |_=>qw)
def HB(C:SK.Ctx)(x:L7 Expr):L7 FSM:=x.bind λe=>(match e with
 |.Call f as kws _=>if kws.isEmpty then(cH f).bind λ(x,_)=>(one as).bind λa=>if FV a then(match loc C x,glo C x with
  |none,pi (.exc c)=>pi (wK c)
  |_,_=>qw)else qw else qw
 |_=>qw)
noncomputable def isN{α:Type}:L7 α->Bool
 |none=>qz
 |some _=>q7
mutual
def mS:Nat->Nat->L1 (Str×Nat×FM)->SK.Ctx->Stmt->L7 FSM
 |0,_,_,_,_=>qw
 |n+1,A,ms,C,st=>match st with
  |.Pass _=>pi fO
  |.If c a b _=>(bT 50 C c).bind λf=>(mSs n A ms C a).bind λg=>(mSs n A ms C b).map λh=>mIf f g h
  |.Return e _=>e.bind λe=>(bT 50 C e).map sC
  |.Raise x c _=>if isN c then HB C x else qw
  |.Assign ts e _=>(one ts).bind λt=>Oi A C t e
  |.Expr e _=>Oj A ms C e
  |_=>qw
def mSs:Nat->Nat->L1 (Str×Nat×FM)->SK.Ctx->L1 Stmt->L7 FSM
 |0,_,_,_,_=>qw
 |n+1,A,ms,C,l=>match l with
  |[]=>pi fO
  |st::r=>(mS n A ms C st).bind λg=>(mSs n A ms C r).map λh=>dY g h
end
section
variable{X:Cx}{ad:Ad}{A:Nat}{C:SK.Ctx}{E:Nat->Hp->Prop}{E₀:XK}{ms:L1 (Str×Nat×FM)}{e t:Expr}{g:FSM}
structure MeOk(X:Cx)(ad:Ad)(A:Nat)(ms:List (Str×Nat×FM))(C:SK.Ctx)(E:Nat->Hp->Prop)(E₀:XK):Prop where
 O:StOk X ad C
 T:DefX X E₀
 hx: ∀σ,XP X ad σ E
 hE: ∀c H,E c H->E₀ (.ref (ad.cls c)) qw H
 RC:RkC X.K A
 MO: ∀m n M,ms.lookup m=pi (n,M)->MetOk X ad A m n M
def HC(L:MeOk X ad A ms C E E₀)(h:Oi A C t e=pi g):MM X ad A E (.Assign [t] e pos) g:=by obtain⟨B,kL,kI⟩:=cU (ad:=ad) 50;unfold Oi at h;split at h;rename_i y py;have hx:=zBd h;clear h;obtain⟨i,l,h⟩:=hx;have c:=Ds l;have nm:=L.O.nm c;split at h;rename_i W T;cases h;obtain⟨x,z,u,ap,cp,rfl,J,n⟩:=HA T;have a:=L.O.cx.vis x 0 n;exact Hu W L.RC a J L.O.cx.nd nm.1 nm.2.1 nm.2.2;obtain⟨f,m,rfl⟩:=zMd h;refine PS.imp (AW L.O m c) ?_;rintro D' N H ⟨w,p,dx,d,l1,Z,G,ρ,b,S,K⟩;exact nY S (L.hx N) K λv x Q M U r k _=>k _ Q M (U.set r);rename_i o f q;split at h;rename_i j;cases h;obtain⟨x,z,u,n,s⟩:=iO j.1;cases n;obtain⟨lp,rfl⟩:=A5 j.2;have a:=L.O.cx.vis x 0 s;exact Dp L.RC a;cases h;rename_i o k kp;split at h;rename_i j;obtain⟨x,z,u,rfl,s⟩:=iO j;have a:=L.O.cx.vis x 0 s;have hx:=zBd h;clear h;obtain⟨f,l,h⟩:=hx;have hx:=zBd h;clear h;obtain⟨⟨y,py⟩,m,h⟩:=hx;cases bB m;obtain⟨Y,I,rfl⟩:=zMd h;exact Hw L.O.cx.un L.hx L.RC a (B X C _ f L.O.cx l).1 (B X C _ Y L.O.cx I).1 rfl;cases h;cases h
def HD(L:MeOk X ad A ms C E E₀)(h:Oj A ms C e=pi g):MM X ad A E (.Expr e pos) g:=by obtain⟨s,W,Y⟩:=cU (ad:=ad) 50;unfold Oj at h;split at h;rename_i c K;obtain⟨rfl,q⟩:=mO K;obtain⟨o,m,U,v,N⟩:=c;simp only at h q ⊢;split at h;rename_i x w T;cases bB T;split at h;rename_i p;have n:=L.O.cx.vis x 0 p;have hx:=zBd h;clear h;obtain⟨⟨H,M⟩,d,h⟩:=hx;simp only at h;split at h;rename_i b;have hx:=zBd h;clear h;obtain⟨fs,B,h⟩:=hx;split at h;rename_i I;cases h;obtain⟨J,t⟩:=nB s L.O.cx B;rcases v with _|⟨a,r⟩;exact absurd b.2 (by simp);exact Hz L.hx L.RC (L.MO m H M d) n J I (aK (t a (.head _))) (gH λe G=>t e (.tail _ G)) (pE t b.1) q;cases h;cases h;cases h;split at h;rename_i i S u;split at h;rename_i j;obtain⟨rfl,rfl⟩:=j;have hx:=zBd h;clear h;obtain⟨a,l,h⟩:=hx;cases cE l;obtain⟨f,d,rfl⟩:=zMd h;obtain⟨x,w,y,rfl,p⟩:=pC u;have n:=L.O.cx.vis x 0 p;exact Lo S L.hx L.RC n (s X C _ f L.O.cx d).1 (aK (aL d).1) q;cases h;split at h;rename_i j;obtain⟨u,rfl⟩:=j;have hx:=zBd h;clear h;obtain⟨a,l,h⟩:=hx;cases cE l;obtain⟨f,d,rfl⟩:=zMd h;obtain⟨x,w,y,rfl,p⟩:=iO u;have n:=L.O.cx.vis x 0 p;refine Hx L.hx L.RC n (s X C _ f L.O.cx d).1 ⟨rfl,?_,q,?_⟩;rw[aK (aL d).1];rfl;rw[aK (aL d).1];rfl;cases h;split at h;rename_i f v z N;split at h;rename_i hk;cases ko.mp hk;obtain⟨Q,l,rfl⟩:=zMd h;exact Ho L.hx (s X C _ Q L.O.cx l).1 rfl;cases h;cases h
def Dt(L:MeOk X ad A ms C E E₀)(h:HB C x=pi g):MM X ad A E (.Raise x qw pos) g:=by unfold HB at h;have d:=zBd h;clear h;obtain⟨e,rfl,h⟩:=d;split at h;rename_i t w i r;split at h;rename_i f;cases eG f;have d:=zBd h;clear h;obtain⟨⟨x,p⟩,q,h⟩:=d;cases bB q;have d:=zBd h;clear h;obtain⟨a,j,h⟩:=d;cases cE j;split at h;rename_i b;obtain⟨s,u,v,rfl⟩:=wE b;split at h;rename_i c z o;cases h;obtain⟨n,m,l,y⟩:=L.O.cx.gl o;exact Dn L.T L.O.cx.calm n l m (L.O.exi c) L.hE;cases h;cases h;cases h;cases h
theorem EV(L:MeOk X ad A ms C E E₀): ∀n,(∀st g,mS n A ms C st=pi g->MM X ad A E st g)/\∀l g,mSs n A ms C l=pi g->MMs X ad A E l g
 |0=>⟨(λ_ _ h=>by cases h),(λ_ _ h=>by cases h)⟩
 |n+1=>by
  obtain⟨p,b⟩:=EV L n;obtain⟨m,u,s⟩:=cU (ad:=ad) 50;refine⟨λst g h=>?_,λl g h=>?_⟩;unfold mS at h;split at h;cases h;exact Hm;obtain⟨f,a,h⟩:=zBd h;obtain⟨i,d,h⟩:=zBd h;obtain⟨j,o,rfl⟩:=zMd h;exact Og L.hx (m X C _ f L.O.cx a).2.1 (b _ i d) (b _ j o);have hx:=zBd h;clear h;obtain⟨e,rfl,h⟩:=hx;obtain⟨f,a,rfl⟩:=zMd h;exact Ln L.hx (m X C _ f L.O.cx a).1;rename_i x c q;split at h;rename_i r;rcases c with _|_;exact Dt L h;cases r;cases h;have hx:=zBd h;clear h;obtain⟨t,a,h⟩:=hx;cases cE a;exact HC L h;exact HD L h;cases h;unfold mSs at h;split at h;cases h;exact Hn;obtain⟨i,a,h⟩:=zBd h;obtain⟨j,d,rfl⟩:=zMd h;exact Dm (p _ i a) (b _ j d)
end
noncomputable def Du(A:Nat)(ρ:Rho)(x:D):RM:=match(ρ[0]? :L7 Slot)with
 |some (.rk C r)=>if C=A then .chg x r else .pure .bad
 |_=>.pure .bad
def gP(A:Nat):OutM->RM
 |.rt (.ok x) ρ b=>if b then Du A ρ x else .pure (.ok x)
 |.rt (.ow xs) _ b=>if b then .pure .bad else .pure (.ow xs)
 |.rt _ _ _=>.pure .bad
 |.nx ρ b=>if b then Du A ρ .non else .pure (.ok .non)
 |.ex c b=>if b then .pure .bad else .pure (.ex c)
 |.bad=>.pure .bad
def iX(A N:Nat)(g:FSM):FM:=λr ds=>gP A (g (.rk A r::(ds.map Slot.sh++ao (N-(ds.length+1)) .no)) q7)
def HE(tab:L1 (Str×SK.Gl))(A:Nat)(ms:L1 (Str×Nat×FM))(st:Stmt):L7 (Nat×FM):=match st with
 |.FunctionDef _ as b _ _ _ sc _ _ _=>(cY as).bind λps=>if bP (aA sc) ps sc then(mSs 100 A ms ⟨tab,[],sc,aA sc,[]⟩ b).map λg=>(ps.length-1,iX A (aA sc).length g)else qw
 |_=>qw
def SL.cons{K}{ad}{G H}{ρ}{σ}{s}{ov}(h:SL K ad G H ρ σ)(h0:SLi K ad G H s ov):SL K ad G H (s::ρ) (ov::σ):=
 ⟨by simp[h.len],λi a e=>by
  rcases i with _|i;cases e;exact⟨ov,rfl,h0⟩;exact h.at_ i a e⟩
section
variable{K:Frag}{ad:Ad}{tab:L1 (Str×SK.Gl)}
def A6{st}{A n:Nat}{ms:L1 (Str×Nat×FM)}(B:ExcK K ad)(TB:dX P w K mg base ad k tab)(RC:RkC K A)(MO: ∀m n M,ms.lookup m=pi (n,M)->(m≠"held"/\m≠"done"/\m≠"undone")/\∃f r fd ps,r<=k/\Meth K A m f/\FnOk P w K mg base (CXe P w) r f fd ps (spM K ad A n M)/\eA K fd ps [])(Fu:Fun K x qual st f fd)(hps:cY (defArgs st)=pi (self::ps))(hd:HE tab A ms st=pi (n,M)):FnOk P w K mg base (CXe P w) (k+1) f fd (self::ps) (spM K ad A n M):=by
 obtain⟨oc,od,kV,a5,pm,an,a1,ct,a4,rfl,lk,a2⟩:=Fu.ex;cases st with
 |FunctionDef nm as b dl re tp o ts bi a6=>
  have ak:((cY as).bind λps=>if bP (aA o) ps o then(mSs 100 A ms ⟨tab,[],o,aA o,[]⟩ b).map λg=>(ps.length-1,iX A (aA o).length g)else qw)=pi (n,M):=hd;have am:cY as=pi (self::ps):=hps;rw[am]at ak;have W:(if bP (aA o) (self::ps) o then(mSs 100 A ms ⟨tab,[],o,aA o,[]⟩ b).map λg=>((self::ps).length-1,iX A (aA o).length g)else qw)=pi (n,M):=ak;by_cases hs:bP (aA o) (self::ps) o=qz;rw[if_pos hs]at W;obtain⟨g,hg,e⟩:=zMd W;cases e;obtain⟨S,nm⟩:=cM hs;refine Ch lk a2 S (λvs H Q E ab=>?_) λA' ag s H vs Q E hr ab=>?_;obtain⟨G,p,r,dx,d,l1,Z,u,ws,rfl,_,_,rq,hl,_⟩:=ab;have:=rq.length;simp at hl ⊢;lia;obtain⟨G,p,r,dx,d,l1,Z,u,ws,rfl,hG,hR,rq,hl,hq⟩:=ab;let C:SK.Ctx:=⟨tab,[],o,aA o,[]⟩;have ap: ∀x i,loc C x=pi i->(aA o)[i]? =pi x/\Loc o x/\x∈aA o:=λx i e=>by
   obtain⟨e1,t⟩:=mD e;refine⟨gG e1,?_,mC e1⟩;rcases t with t|t|t;exact .inl t;exact .inr t;exact absurd rfl (S.nofree _ (fC t))
  let X:=jU (CXe P w) P w K mg base (aA o) qual o f a1 A' ag s H E;have O:StOk X ad C:=by
   refine⟨⟨rfl,S.nd,λx i e=>?_,λx e=>e,λx g e=>?_,λx i e=>?_,rfl,?_,hr.hd,B.exc,B.kin,B.kve,λj m F' e=>by cases e⟩,λ_=>rfl,rfl,λx i e=>(ap x i e).2.1,B.exm,B.exi⟩;obtain⟨a,b,c⟩:=ap x i e;exact⟨a,b.elim .inl λz=>.inr (.inl z),(nm x c).1,(nm x c).2⟩;obtain⟨a,b⟩:=TB x g e;refine⟨a,?_⟩;cases g with
   |fn j m F'=>
    obtain⟨r',f',I,U,J,Y,h5⟩:=b;exact⟨r',f',⟨U,J,Y⟩,hr.mono I,h5⟩
   |exc c=>exact b
   |verr=>exact b
   |val d=>exact b
   |tbl kvs=>exact b
   |py p=>exact b
   |cls A ms=>exact⟨b.1,b.2.1,λm n M hm=>let ⟨no,f,r,fd,ps,I,U,J,Y⟩:=b.2.2 m n M hm;⟨no,f,r,fd,ps,U,J,hr.mono I,Y⟩⟩
   |rfn A M=>obtain⟨f,r,fd,ps,I,U,J,Y,h5⟩:=b;exact⟨f,r,fd,ps,U,J,Y,hr.mono I,h5⟩
   |rmk A n M=>obtain⟨f,r,fd,ps,I,U,J,Y,h5⟩:=b;exact⟨f,r,fd,ps,U,J,Y,hr.mono I,h5⟩
   obtain⟨e1,t⟩:=fB e;rcases t with t|t;exact .inl t;exact absurd rfl (S.nofree _ (fC t));exact jc (io (by decide:62<=64) _) hr.units
  have T:DefX X E:=⟨rfl,rfl,rfl,λe s' h=>h⟩;have L:MeOk X ad A ms C (λc q=>E (.ref (ad.cls c)) qw q) E:=⟨O,T,λσ=>vS T,λc H h=>h,RC,λm n M hm=>let ⟨no,f,r,fd,ps,I,U,J,Y⟩:=MO m n M hm;⟨no,f,r,fd,ps,U,J,hr.mono I,Y⟩⟩;refine⟨_,(EV L 100).2 b g hg,?_⟩;have S0:=iC (X:=X) (ad:=ad) (n:=(aA o).length-(u.length+1)) hG rq;have a3:L2.start (aA o) (V.ref p::ws)=pi (V.ref p)::(ws.map pi++ao ((aA o).length-(u.length+1)) qw):=by
   unfold L2.start;rw[bq,rq.length];rfl
  refine⟨G,p,dx,d,l1,Z,G,.rk A r::(u.map Slot.sh++ao ((aA o).length-(u.length+1)) .no),q7,?_,?_⟩;rw[a3];refine⟨S0.sl.cons ⟨p,dx,d,l1,Z,rfl,hR⟩,hG,rfl,⟨r,Z,rfl,hR,.inl rfl⟩,?_,λc hc=>hc,λj sl e=>?_⟩;unfold StB;rw[if_neg bf];exact Step.refl hG;have e':(u.map Slot.sh++ao ((aA o).length-(u.length+1)) Slot.no)[j]? =pi sl:=e;have m:=List.mem_of_getElem? e';rcases k6.mp m with m|m;obtain⟨d',_,rfl⟩:=au.mp m;rfl;rw[(List.mem_replicate.mp m).2];rfl;have l:RMK K ad A G H p dx d l1 Z (gP A (g (.rk A r::(u.map Slot.sh++ao ((aA o).length-(u.length+1)) .no)) q7)) Q (λc q=>E (.ref (ad.cls c)) qw q):=hq;have ar: ∀(ρ:Rho) (b:Bool) (y:D),RMK K ad A G H p dx d l1 Z (if b then Du A ρ y else .pure (.ok y)) Q (λc q=>E (.ref (ad.cls c)) qw q)->∀σ N q v,SM X ad A G p dx d l1 Z b N q ρ σ->Rep K ad N y v->Q v q:=λρ b y hq σ N q v S' rv=>by
   cases b;rw[if_neg bf]at hq;have z:=S'.st;unfold StB at z;rw[if_neg bf]at z;exact hq v N q z rv;rw[if_pos rfl]at hq;obtain⟨r1,a0,f1,f2,f3⟩:=S'.rk;unfold Du at hq;rw[f1]at hq;have al:RMK K ad A G H p dx d l1 Z (if A=A then .chg y r1 else .pure .bad) Q (λc q=>E (.ref (ad.cls c)) qw q):=hq;rw[if_pos rfl]at al;exact al v N q a0 S'.toR f2 f3 rv
  cases e:g (.rk A r::(u.map Slot.sh++ao ((aA o).length-(u.length+1)) .no)) q7 with
  |nx ρ b=>rw[e]at l;exact λσ N q S'=>ar ρ b .non l σ N q .non S' (by unfold Rep;rfl)
  |rt y ρ b=>
   rw[e]at l;cases y with
   |ok y=>exact λσ N q v S' rv=>ar ρ b y l σ N q v S' rv
   |ow xs=>
    cases b;exact⟨rfl,l⟩;exact l.elim
   |ex c=>exact l.elim
   |bad=>exact l.elim
  |ex c b=>
   rw[e]at l;cases b;exact⟨rfl,l⟩;exact l.elim
  |bad=>rw[e]at l;exact l.elim
  rw[if_neg hs]at W;cases W
 |_=>cases hd
end
def kO(ρ:Rho)(A i:Nat)(M:FM)(fs:L1 F)(k:D->Rho->Out):Out:=match(ρ[i]? :L7 Slot)with
 |some (.rk C r)=>if C=A then(match args fs ρ with
  |.ok ds=>(match M r ds with
   |.pure x=>fN ρ x λd=>k d ρ
   |.chg x r'=>k x (ρ.set i (.rk A r')))
  |.ex c=>.ex c ρ
  |.bad=>.rt .bad)else .rt .bad
 |_=>.rt .bad
def EW(A i:Nat)(M:FM)(fs:L1 F):FS:=λρ=>kO ρ A i M fs λ_ ρ'=>.nx ρ'
section
variable{X:Cx}{ad:Ad}{σ:St}{G₀ G H G1 H1:Hp}{ρ:Rho}{A i:Nat}{r r':Rk}{p0 dx d l1 l2 l2':Addr}
def RackIn.stepR{K}{r}{qx qd q1 q2}(h:RackIn K ad C G H q r qx qd q1 q2)(t:StepR foot G H G1 H1)(dis: ∀a∈[q,qx,qd,q1,q2],a∉foot):RackIn K ad C G1 H1 q r qx qd q1 q2:=by
 obtain⟨kvs,e,m⟩:=h.held;obtain⟨l,d,i⟩:=h.done;obtain⟨j,f,n⟩:=h.undone;have c: ∀{b:Addr} {o:HO},G b=qw->H b=pi o->G1 b=qw:=λ{b o} g hb=>by
  rcases z:G1 b with _|u;rfl;have:=t.nw b g (by rw[z];exact λy=>nomatch y);rw[hb]at this;cases this
 exact⟨t.sh _ _ (dis _ (by simp)) h.ins,t.sh _ _ (dis _ (by simp)) h.own,⟨kvs,t.sh _ _ (dis _ (by simp)) e,m.mono t.sg⟩,⟨l,t.sh _ _ (dis _ (by simp)) d,i.mono t.sg⟩,⟨j,t.sh _ _ (dis _ (by simp)) f,n.mono t.sg⟩,h.ne,
  c h.gp h.ins,c h.gx h.own,c h.gd e,c h.g1 d,c h.g2 f⟩
def SS.updR(S:SS X ad G₀ G H ρ σ)(e:ρ[i]? =pi (.rk A r))(h1:σ[i]? =pi (pi (.ref p0)))(hR:RackIn X.K ad A G H p0 r dx d l1 l2)(t:StepR [p0,dx,d,l1,l2] G H G1 H1)(hR':RackIn X.K ad A G1 H1 p0 r' dx d l1 l2')(h3:l2'=l2\/H l2'=qw):
  SS X ad G₀ G1 H1 (ρ.set i (.rk A r')) σ:=by
 have hl:i<ρ.length:=(ay.mp e).1;have W:iA H ρ σ i [p0,dx,d,l1,l2]:=⟨A,r,p0,dx,d,l1,l2,e,h1,hR.ins,rfl⟩;have f0:=S.rs.h0 i _ W;have L:=S.rs.ow i _ W;have a0:=W.at S.sl
 have E: ∀c,H c=qw->X.H₀ c=qw:=λc hc=>S.st.sh.free hc
 have I: ∀(j:Nat) (sl:Slot),(ρ.set i (.rk A r'))[j]? =pi sl->(j=i/\sl= .rk A r')\/(j≠i/\ρ[j]? =pi sl):=λj sl e=>by
  by_cases z:j=i
  .subst z;rw[bj hl]at e;cases e;exact .inl ⟨rfl,rfl⟩
  .rw[bc (qu z)]at e;exact .inr ⟨z,e⟩
 have gn: ∀{b:Addr} {o:HO},G b=qw->H b=pi o->G1 b=qw:=λ{b o} g hb=>by
  cases z:G1 b with
  |none=>rfl
  |some u=>
   have:=t.nw b g (by rw[z];exact λy=>nomatch y)
   rw[hb]at this;cases this
 have ab: ∀{j:Nat} {h:L1 Addr},j≠i->iA H ρ σ j h->∀a∈h,a∉[p0,dx,d,l1,l2]:=λ{j h} l f a n hm=>l (S.rs.rr j i h _ a f W n hm)
 have bk: ∀{j:Nat} {h:L1 Addr},j≠i->iA H1 (ρ.set i (.rk A r')) σ j h->iA H ρ σ j h:=λ{j h} l f=>by
  obtain⟨C,r2,q,qx,qd,q1,B,Q,Y,f3,f4⟩:=f;rw[bc (qu l)]at Q;obtain⟨q',ap,am,an,al,Z,M⟩:=S.sl.rk Q;rw[Y]at Z;cases Z;have fo:iA H ρ σ j [q,ap,am,an,al]:=⟨C,r2,q,ap,am,an,al,Q,Y,M.ins,rfl⟩
  have:=t.sh _ _ (ab l fo q (by simp)) M.ins
  rw[f3]at this;cases this;exact⟨C,r2,q,qx,qd,q1,B,Q,Y,M.ins,f4⟩
 have bi: ∀{h:L1 Addr},iA H1 (ρ.set i (.rk A r')) σ i h->h=[p0,dx,d,l1,l2']:=λ{h} f=>by
  obtain⟨C,r2,q,qx,qd,q1,B,Q,Y,f3,f4⟩:=f;rw[h1]at Y;cases Y;rw[bj hl]at Q;cases Q;rw[hR'.ins]at f3;cases f3;exact f4
 have s: ∀a∈[p0,dx,d,l1,l2'],a∈[p0,dx,d,l1,l2]\/H a=qw:=λa n=>by
  simp only[av,kh,or_false]at n ⊢;rcases n with z|z|z|z|z
  .exact .inl (.inl z)
  .exact .inl (.inr (.inl z))
  .exact .inl (.inr (.inr (.inl z)))
  .exact .inl (.inr (.inr (.inr (.inl z))))
  .rcases h3 with y|y
   .exact .inl (.inr (.inr (.inr (.inr (z.trans y)))))
   .exact .inr (by rw[z];exact y)
 refine⟨⟨S.st.sg.trans t.sg,t.gh,λb o hb=>t.sh b o (λm=>by rw[f0 b m]at hb;cases hb) (S.st.sh b o hb),λb Z M=>?_⟩,⟨by rw[lg];exact S.sl.len,λj sl p=>?_⟩,λj sl a p w hj=>?_,λj O sl ag a p T w w' hj ar=>?_,⟨λj h f a n=>?_,λj h f a n k sl ek w hk=>?_,λj O h ak a f f' n J=>?_⟩⟩
 .cases q:G b with
  |none=>exact E b (t.nw b q M)
  |some o=>exact S.st.nw b Z (by rw[q];exact λy=>nomatch y)
 .rcases I j sl p with ⟨rfl,rfl⟩|⟨l,p⟩
  .exact⟨_,h1,p0,dx,d,l1,l2',rfl,hR'⟩
  .obtain⟨ov,k1,k2⟩:=S.sl.at_ j sl p;refine⟨ov,k1,?_⟩
   cases sl with
   |no=>trivial
   |sh y=>
    obtain⟨v,q1,B⟩:=k2;exact⟨v,q1,B.mono t.sg⟩
   |ow xs=>
    obtain⟨a,vs,q1,B,N,q4⟩:=k2;subst q1;exact⟨a,vs,rfl,gn B N,t.sh _ _ (λm=>L a m j _ p rfl k1) N,q4.mono t.sg⟩
   |dc kvs=>
    obtain⟨a,vs,q1,B,N,q4,q5⟩:=k2;subst q1;exact⟨a,vs,rfl,gn B N,t.sh _ _ (λm=>L a m j _ p rfl k1) N,q4.mono t.sg,q5⟩
   |sd kvs=>
    obtain⟨a,vs,q1,B,N,q4,q5⟩:=k2;subst q1;exact⟨a,vs,rfl,gn B N,t.sh _ _ (λm=>L a m j _ p rfl k1) N,q4.mono t.sg,q5⟩
   |rk C r2=>
    obtain⟨q,qx,qd,q1,B,Z,M⟩:=k2;subst Z;exact⟨q,qx,qd,q1,B,rfl,M.stepR t (ab l ⟨C,r2,q,qx,qd,q1,B,p,k1,M.ins,rfl⟩)⟩
 .rcases I j sl p with ⟨rfl,rfl⟩|⟨l,p⟩
  .cases w
  .exact S.ow j sl a p w hj
 .rcases I j sl p with ⟨rfl,rfl⟩|⟨l,p⟩
  .cases w
  .rcases I O ag T with ⟨rfl,rfl⟩|⟨x,T⟩
   .cases w'
   .exact S.dj j O sl ag a p T w w' hj ar
 .by_cases l:j=i
  .subst l;rw[bi f]at n;rcases s a n with z|z
   .exact f0 a z
   .exact E a z
  .exact S.rs.h0 j h (bk l f) a n
 .rcases I k sl ek with ⟨rfl,rfl⟩|⟨nk,U⟩
  .cases w
  .by_cases l:j=i
   .subst l;rw[bi f]at n;rcases s a n with z|z
    .exact L a z k sl U w hk
    .exact(S.sl.own_at U w hk).2 z
   .exact S.rs.ow j h (bk l f) a n k sl U w hk
 .by_cases l:j=i
  .by_cases x:O=i
   .rw[l,x]
   .subst l;rw[bi f]at n;have fb:=bk x f';rcases s a n with z|z
    .exact S.rs.rr j O _ ak a W fb z J
    .exact absurd z (fb.at S.sl a J).2
  .by_cases x:O=i
   .subst x;rw[bi f']at J;have fb:=bk l f;rcases s a J with z|z
    .exact S.rs.rr j O h _ a fb W n z
    .exact absurd z (fb.at S.sl a n).2
   .exact S.rs.rr j O h ak a (bk l f) (bk x f') n J
end
def nD(X:Cx)(ad:Ad)(A i:Nat)(M:FM)(fs:L1 F):TE:=λσ H Q=>∃G ρ E r p0 dx d l1 l2,Same G H/\SL X.K ad G H ρ σ/\XP X ad σ E/\σ[i]? =pi (pi (V.ref p0))/\RackIn X.K ad A G H p0 r dx d l1 l2/\
 tA X ad fs σ H (λvs H1=>∃ds G1,Step G H G1 H1/\aJ X.K ad G1 ds vs/\ds.length=fs.length/\RMK X.K ad A G1 H1 p0 dx d l1 l2 (M r ds) Q E)
section
variable{X:Cx}{ad:Ad}{Z:(St->Nat->Hp->Prop)->Prop}{σ:St}{G₀ G H G1 H1:Hp}{ρ:Rho}{D':Ends}{E:St->Nat->Hp->Prop}{A i n:Nat}{M:FM}{fs:L1 F}{x m:Str}{es:L1 Expr}{np ap cp:Pos}
def EX(RC:RkC X.K A)(M0:MetOk X ad A m n M)(hV:kT X i x)(ha:MA X ad es fs)(hn:fs.length=n)(hst: ∀a r,es=a::r->starEach (a::r) X.env=(q7,eval a X.env)::starEach r X.env/\(backTo cp (starEach r X.env)).any (·.1)=q7)(hl:es.length=fs.length)(hfm:methodCallForm (es.length+([]:L1 Keyword).length) (backTo cp (starEach es X.env)) (backToKw cp (keywordEach [] X.env))=qz)(hln:(ap.endLine==cp.line)=qz):
  PE X (.Call (.Attribute (.Name x np) m ap) es [] cp) (nD X ad A i M fs):=by
 rintro z s y H Q I ⟨G,ρ,E,r,e,dx,d,l1,l2,hG,hS,t,C,q,h⟩;obtain⟨fm,k,fd,Z,g,_⟩:=M0.ok;refine gw (L2.thn (bQ hV z s y H (λv c=>v= .ref e/\c=H) I ⟨.ref e,C,rfl,rfl⟩) λu O l=>?_) (jJ rfl hfm hln);obtain⟨v,c,f,L,S,Y⟩:=l;subst S;subst Y;cases (show u=qh e from L);refine hU f q.ins RC.cl g (v8 M0.no) ?_;rcases es with _|⟨a,dO⟩;rcases fs with _|⟨_,_⟩;obtain⟨w,U,T,j,_,_,h⟩:=h;obtain⟨N,G3,b,p,o,k⟩:=(show AK X.K ad w c (.ok []) _ T from h) [] w c (Step.refl j) aJ.nil;exact ig (first:=[.ref e]) f.kIn g.kp (mJ M0 f b.gh (q.step b) .nil p (o.trans hn) t k g);cases hl;refine i0 (first:=[.ref e]) (h₀:=X.base) f.ok.mod.kin g.kp (L2.thn (ha cp z O y c _ f h) λus s2 ⟨vs,H2,B,J,N,G1,b,p,hl,k⟩=>⟨B.kIn,?_⟩) (hst a dO rfl).1 (hst a dO rfl).2;exact mJ M0 B b.gh (q.step b) J p (hl.trans hn) t k g
def EY(S:SS X ad G₀ G H ρ σ)(hx:XA X ad Z E){k}{Q'}(hr:OKo X ad G₀ (kO ρ A i M fs k) D' E)
  (q: ∀v y G1 H1 ρ1,SS X ad G₀ G1 H1 ρ1 σ->Rep X.K ad G1 y v->OKo X ad G₀ (k y ρ1) D' E->Q' v H1):nD X ad A i M fs σ H Q':=by
 unfold kO at hr;cases e:(ρ[i]? :L7 Slot)with
 |none=>rw[e]at hr;exact hr.elim
 |some sl=>
  rw[e]at hr;rcases sl with _|_|_|_|_|⟨C,r⟩;exact hr.elim;exact hr.elim;exact hr.elim;exact hr.elim;exact hr.elim;have b:OKo X ad G₀ (if C=A then(match args fs ρ with
   |.ok j=>(match M r j with
    |.pure x=>fN ρ x λd=>k d ρ
    |.chg x m=>k x (ρ.set i (.rk A m)))
   |.ex c=>.ex c ρ
   |.bad=>.rt .bad)else .rt .bad) D' E:=hr
  by_cases s:C=A;rw[if_pos s]at b;subst s;obtain⟨Q,dx,d,N,T,B,J⟩:=S.sl.rk e;refine⟨G,ρ,E σ,r,Q,dx,d,N,T,S.st.gh,S.sl,hx.1 σ,B,J,G,ρ,E σ,S.st.gh,S.sl,hx.1 σ,?_⟩;rcases l:args fs ρ with j|c|_;rw[l]at b;intro vs G1 H1 st rq;refine⟨j,G1,st,rq,fR l,?_⟩;have n:=S.step st;have z:=J.step st;have f:OKo X ad G₀ (match M r j with
   |.pure x=>fN ρ x λd=>k d ρ
   |.chg x m=>k x (ρ.set i (.rk C m))) D' E:=b
  rcases I:M r j with y|⟨y,m⟩;rw[I]at f;rcases y with y|xs|c|_;exact λv h g st2 u=>q v y h g ρ (n.step st2) u f;intro a ws h g st2 U m2 e2 p;obtain⟨O,o,W⟩:=dP (X:=X) (ad:=ad) st2 U m2 e2 p;exact q _ _ O g ρ (n.step o) W f;exact λh g st2=>f σ h g (n.step st2);exact f.elim;rw[I]at f;exact λv h g Y t w L u=>q v y h g _ (n.updR e B z t w L) u f;rw[l]at b;exact λG1 H1 st=>b σ G1 H1 (S.step st);rw[l]at b;exact b.elim;rw[if_neg s]at b;exact b.elim
end
def rk0:Rk:=⟨[],[],[]⟩
def spI(K:Frag)(ad:Ad)(A:Nat):Sp:=λvs H Q _=>∃p dx G,vs=[V.ref p]/\Same G H/\G p=qw/\G dx=qw/\dx≠p/\H p=pi (.ins A dx [])/\H dx=pi (.own p)/\
 ∀d l1 l2 H',H d=qw->H l1=qw->H l2=qw->RackIn K ad A G H' p rk0 dx d l1 l2->(∀b o,b≠p->H b=pi o->H' b=pi o)->Q .non H'
structure Ini(X:Cx)(A:Nat)(x:Str):Prop where
 RC:RkC X.K A
 hN:X.N[0]? =pi x
 hv:Vis X.env.scope x
 hd:(x==gV)=q7
 hcd:(x==hK)=q7
noncomputable def Ph(x:Str)(n1 q1 a1 n2 q2 a2 n3 q3 a3 e1 e2 e3:Pos):L1 Stmt:=
 [.Assign [.Attribute (.Name x n1) "held" q1] (.Dict [] [] e1) a1,.Assign [.Attribute (.Name x n2) "done" q2] (.List [] e2) a2,.Assign [.Attribute (.Name x n3) "undone" q3] (.List [] e3) a3]
section
variable{ad:Ad}{q1:Pos}
def A7(L:Ini X A x){σ:St}(me:σ[0]? =pi (pi (.ref p)))(hG:Same G H)(gp:G p=qw)(gx:G dx=qw)(ne:dx≠p)(hp:H p=pi (.ins A dx []))(hx:H dx=pi (.own p))(q: ∀d l1 l2 H',H d=qw->H l1=qw->H l2=qw->RackIn X.K ad A G H' p rk0 dx d l1 l2->(∀b o,b≠p->H b=pi o->H' b=pi o)->Q .non H'):
  ∃t,PSs X (Ph x n1 q1 a1 n2 q2 a2 n3 q3 a3 e1 e2 e3) t/\t {nx:=λ_ H'=>Q .non H',rt:=Q} σ H:=by
 have nm: ∀l:Pos,PE X (.Name x l) (IY 0):=λl=>yR L.hN L.hv L.hd L.hcd;refine⟨_,i9 (u8 (nm n1) vE rfl) (i9 (u8 (nm n2) (u9 eP) rfl) (oH (u8 (nm n3) (u9 eP) rfl))),?_⟩;intro d g;have h:d≠p:=λz=>by rw[z,hp]at g;cases g
 have dd:dx≠d:=λz=>by rw[<-z,hx]at g;cases g
 have j:upd H d (.dK []) p=pi (.ins A dx []):=by rw[aC (qu h)];exact hp
 refine⟨.ref p,me,p,A,dx,_,rfl,j,L.RC.cl,L.RC.n1,by show 0<1000;decide,?_⟩;refine⟨bu _,λl1 n1=>?_⟩;have lp:l1≠p:=λz=>by rw[z,aH]at n1;cases n1
 have n:l1≠d:=λz=>by rw[aC lp,z,aH]at n1;cases n1
 have a:H l1=qw:=by rw[aC lp,aC n]at n1;exact n1
 have s:dx≠l1:=λz=>by rw[<-z,hx]at a;cases a
 refine⟨.ref p,me,p,A,dx,[(("held":Str),V.ref d)],rfl,by rw[aC (qu lp),aH];rfl,L.RC.cl,L.RC.n2,by show 1<1000;decide,?_⟩;refine⟨bu _,λl2 n2=>?_⟩;have f:l2≠p:=λz=>by rw[z,aH]at n2;cases n2
 have ml:l2≠l1:=λz=>by rw[aC f,z,aH]at n2;cases n2
 have m:l2≠d:=λz=>by rw[aC f,aC ml,aC f,z,aH]at n2;cases n2
 have c:H l2=qw:=by rw[aC f,aC ml,aC f,aC m]at n2;exact n2
 have r:dx≠l2:=λz=>by rw[<-z,hx]at c;cases c
 refine⟨.ref p,me,p,A,dx,[(("held":Str),V.ref d),("done",V.ref l1)],rfl,by rw[aC (qu f),aH];rfl,L.RC.cl,L.RC.n3,by show 2<1000;decide,?_⟩;refine q d l1 l2 _ g a c ⟨by rw[aH];rfl,?_,⟨[],?_,.nil⟩,⟨[],?_,aJ.nil⟩,⟨[],?_,aJ.nil⟩,qu ml,gp,gx,hG.free g,hG.free a,hG.free c⟩ λb o i e=>?_;rw[aC ne,aC r,aC ne,aC s,aC ne,aC dd];exact hx;rw[aC h,aC (qu m),aC h,aC (qu n),aC h,aH];rw[aC lp,aC (qu ml),aC lp,aH];rw[aC f,aH];rw[aC i,aC (aO e c),aC i,aC (aO e a),aC i,aC (aO e g)];exact e
end
section
variable{X:Cx}{ad:Ad}{A:Nat}
def SS.setR2(S:SS X ad G₀ G H ρ σ)(st:Step G H G1 H1)(hR:RackIn X.K ad A G1 H1 p r dx d l1 l2)(nw: ∀a∈[p,dx,d,l1,l2],H a=qw):SS X ad G₀ G1 H1 (ρ.set i (.rk A r)) (σ.set i (pi (.ref p))):=by
 have s1:=st.sh;have Z:=S.step st;have g: ∀(j:Nat) (sl:Slot),(ρ.set i (.rk A r))[j]? =pi sl->(j=i/\sl= .rk A r/\i<ρ.length)\/(j≠i/\ρ[j]? =pi sl):=λj sl e=>by
  by_cases z:j=i;subst z;have u:j<ρ.length:=by have:=(ay.mp e).1;rwa [lg]at this
  rw[bj u]at e;cases e;exact .inl ⟨rfl,rfl,u⟩;rw[bc (qu z)]at e;exact .inr ⟨z,e⟩
 have o: ∀{j:Nat},j≠i->(σ.set i (pi (V.ref p)))[j]? =σ[j]? :=λ{j} z=>bc (qu z);have bk: ∀{j:Nat} {b:L1 Addr},j≠i->iA H1 (ρ.set i (.rk A r)) (σ.set i (pi (.ref p))) j b->iA H ρ σ j b:=λ{j b} l f=>by
  obtain⟨C,Q,q,W,qd,q1,Y,E,y,I,O⟩:=f;rw[bc (qu l)]at E y;exact iA.back S.sl s1 ⟨C,Q,q,W,qd,q1,Y,E,y,I,O⟩
 have J: ∀{b:L1 Addr},iA H1 (ρ.set i (.rk A r)) (σ.set i (pi (.ref p))) i b->b=[p,dx,d,l1,l2]:=λ{b} f=>by
  obtain⟨C,Q,q,W,qd,q1,Y,E,y,I,O⟩:=f;rcases g i _ E with ⟨_,z,u⟩|⟨z,_⟩;cases z;rw[bj (by rw[<-S.sl.len];exact u)]at y;cases y;rw[hR.ins]at I;cases I;exact O;exact absurd rfl z
 have t: ∀c,H c=qw->X.H₀ c=qw:=λc hc=>S.st.sh.free hc;refine⟨Z.st,⟨by rw[lg,lg];exact S.sl.len,λj sl e=>?_⟩,λj sl a e w h=>?_,λj v sl B a e M w U h T=>?_,⟨λj b f a m=>?_,λj b f a m k sl ek w hk=>?_,λj v b N a f L m s=>?_⟩⟩;rcases g j sl e with ⟨rfl,rfl,u⟩|⟨z,e⟩;exact⟨pi (.ref p),bj (by rw[<-S.sl.len];exact u),p,dx,d,l1,l2,rfl,hR⟩;obtain⟨ov,h1,h2⟩:=Z.sl.at_ j sl e;exact⟨ov,by rw[o z];exact h1,h2⟩;rcases g j sl e with ⟨_,rfl,_⟩|⟨z,e⟩;cases w;rw[o z]at h;exact S.ow j sl a e w h;rcases g j sl e with ⟨_,rfl,_⟩|⟨z,e⟩;cases w;rcases g v B M with ⟨_,rfl,_⟩|⟨z',M⟩;cases U;rw[o z]at h;rw[o z']at T;exact S.dj j v sl B a e M w U h T;by_cases l:j=i;subst l;rw[J f]at m;exact t a (nw a m);exact S.rs.h0 j b (bk l f) a m;rcases g k sl ek with ⟨_,rfl,_⟩|⟨z,x⟩;cases w;rw[o z]at hk;by_cases l:j=i;rw[l]at f;rw[J f]at m;exact(S.sl.own_at x w hk).2 (nw a m);exact S.rs.ow j b (bk l f) a m k sl x w hk;by_cases l:j=i;by_cases n:v=i;rw[l,n];rw[l]at f;rw[J f]at m;exact absurd (nw a m) ((bk n L).at S.sl a s).2;by_cases n:v=i;rw[n]at L;rw[J L]at s;exact absurd (nw a s) ((bk l f).at S.sl a m).2;exact S.rs.rr j v b N a (bk l f) (bk n L) m s
structure MkOk(X:Cx)(ad:Ad)(A:Addr):Prop where
 ok: ∃f k fd ps,Mk X.K A f/\FnOk X.prog X.w X.K X.mg X.base (CXe X.prog X.w) k f fd ps (spI X.K ad A)/\Room (k+1) X.A/\eA X.K fd ps []
end
abbrev FC:=Rho->(Bool->Rho->Out)->Out
noncomputable def Jg(d:D)(k:Bool->Out):Out:=match d with
 |.bl b=>k b
 |_=>.rt .bad
def pH(f:F):FC:=λρ k=>fN ρ (f ρ) λd=>Jg d λb=>k b ρ
def uK(A i:Nat)(M:FM)(fs:L1 F)(op:CmpOp)(g:F):FC:=λρ k=>kO ρ A i M fs λd ρ1=>fN ρ1 (g ρ1) λd2=>fN ρ1 (eS op d d2) λz=>Jg z λb=>k b ρ1
noncomputable def cOr(c1 c2:FC):FC:=λρ k=>c1 ρ λb ρ1=>if b then k qz ρ1 else c2 ρ1 k
noncomputable def B8(c:FC)(g h:FS):FS:=λρ=>c ρ λb ρ1=>if b then g ρ1 else h ρ1
def tTx(X:Cx)(ad:Ad)(Z:(St->Nat->Hp->Prop)->Prop)(c:FC):TT:=λσ H Q=>∃G₀ G ρ D' E k,SS X ad G₀ G H ρ σ/\XA X ad Z E/\OKo X ad G₀ (c ρ k) D' E/\∀b ρ1 G1 H1,SS X ad G₀ G1 H1 ρ1 σ->OKo X ad G₀ (k b ρ1) D' E->Q b H1
abbrev MTX(X:Cx)(ad:Ad)(Z:(St->Nat->Hp->Prop)->Prop)(e:Expr)(c:FC):Prop:=PT X e (tTx X ad Z c)
def Lq(X:Cx)(ad:Ad)(op:CmpOp):R2:=λx y H Q=>∃G d1 d2 E,Same G H/\Rep X.K ad G d1 x/\Rep X.K ad G d2 y/\RK X.K ad G H (eS op d1 d2) Q E
section
variable{X:Cx}{ad:Ad}{Z:(St->Nat->Hp->Prop)->Prop}{A i:Nat}{M:FM}{g:F}{fs:L1 F}{op:CmpOp}
def HF(hu:X.A.units+62<cLine):OpR X (compareOp op) (Lq X ad op):=by intro c s l H x y v u Q I g a h;obtain⟨G,j,f,E,i,e,b,d⟩:=h;exact gY op hu c s l H G j f x y v u Q E I i e b g a d
def EZ{G₀ G H}{ρ}{σ}{D'}{E}{k:Bool->Rho->Out}{Q:Bool->Hp->Prop}{r}(S:SS X ad G₀ G H ρ σ)(hr:OKo X ad G₀ (fN ρ r λz=>Jg z λb=>k b ρ) D' E)(q: ∀b ρ1 G1 H1,SS X ad G₀ G1 H1 ρ1 σ->OKo X ad G₀ (k b ρ1) D' E->Q b H1):
  RK X.K ad G H r (λv H'=>∃b,v= .bl b/\Q b H') (E σ)/\lX r:=by
 rcases r with d|f|c|_;cases d with
 |bl b=>
  refine⟨λv G1 H1 a e=>?_,.inl ⟨b,rfl⟩⟩;unfold Rep at e;exact⟨b,e,q b ρ G1 H1 (S.step a) hr⟩
 |_=>exact hr.elim
 exact hr.elim;exact⟨λG1 H1 a=>hr σ G1 H1 (S.step a),.inr ⟨c,rfl⟩⟩;exact hr.elim
def Dv(h:MT X ad e f):MTX X ad Z e (pH f):=by rintro d s a H Q I ⟨b,G,g,m,E,k,S,i,j,q⟩;obtain⟨c,l⟩:=EZ S j q;exact h d s a H Q I ⟨G,g,E a,S.st.gh,S.sl,i.1 a,l,c⟩
def Lr{σ:St}{H}{Q}(h:tTx X ad Z (uK A i M fs op g) σ H Q):tOp (Lq X ad op) (nD X ad A i M fs) (tE X ad g) σ H λv H'=>∃b,v= .bl b/\Q b H':=by obtain⟨e,G,u,s,E,k,S,c,m,q⟩:=h;refine EY S c m λv y r x l d j hk=>?_;refine f8 d c hk λt o n w a f p=>?_;exact⟨n,y,o,E σ,a.gh,j.mono a.sg,f,(EZ (d.step a) p q).1⟩
end
section
variable{P:Program}{w:World}{K:Frag}{mg:Str->L7 Value}{base h:Heap}{ad:Ad}{k:Nat}{tab:L1 (Str×SK.Gl)}{fns:L1 (Nat×Fn)}
structure PQ(P:Program)(w:World)(K:Frag)(mg:Str->Option Value)(base h:Heap)(ad:Ad)(k:Nat)(tab:List (Str×SK.Gl))(fns:List (Nat×Fn)):Prop where
 t:dX P w K mg base ad k tab
 u:gI P w K mg base ad k fns
 X:K.In h
 G:h.Ns mainGlobals mg
 B:ExcK K ad
theorem wO: ∀{ps:L1 Str} {us:L1 Value},ps.Nodup->us.length=ps.length->(∀n∈ps,((ps.zip us).lookup n).isNone=q7)/\ps.filterMap (λn=>((ps.zip us).lookup n).map (n,·))=ps.zip us
 |[],[],_,_=>⟨(λn m=>nomatch m),rfl⟩
 |p::ps,u::us,nd,hl=>by
  obtain⟨f,e⟩:=la.1 nd;obtain⟨a,b⟩:=wO (ps:=ps) (us:=us) e (by simpa using hl);have d:((p::ps).zip (u::us)).lookup p=pi u:=by simp[ke]
  have c: ∀n∈ps,((p::ps).zip (u::us)).lookup n=(ps.zip us).lookup n:=λn m=>by
   have:(n==p)=q7:=by
    rcases h:n==p with _|_;rfl;rw[eq_of_beq h]at m;exact absurd m f
   simp[ke,this]
  refine⟨λn m=>?_,?_⟩;rcases av.1 m with rfl|m;rw[d];rfl;rw[c n m];exact a n m;rw[ib,d,vZ λn m=>by rw[c n m],b];rfl
 |[],_::_,_,h=>by cases h
 |_::_,[],_,h=>by cases h
def gJ(h:cY as=pi ps)(nd:ps.Nodup){kV doc pm cdv ct}(hl:us.length=ps.length):bindArgs (oy x q as body scope .none kV doc pm an cdv ct) ⟨us,[]⟩=pure (ps.zip us):=by
 unfold cY at h;split at h;rename_i e;obtain⟨p,a,o,t,s,r,l⟩:=as;simp only[aw,ko,ef]at e;obtain⟨⟨⟨⟨rfl,rfl⟩,rfl⟩,rfl⟩,rfl⟩:=e;cases h;obtain⟨i,d⟩:=wO nd hl;have b:us.length=a.length:=by simpa using hl
 have f:(List.filter (λn=>(((a.map (·.arg)).zip us).lookup n).isNone) (a.map (·.arg)))=[]:=List.filter_eq_nil_iff.2 λn m=>by rw[i n m];decide
 unfold bindArgs oy;simp only[oz,lz,k7,aq];have j:seqItems? (pw)=pure qw:=rfl;simp only at d f;rw[List.filterMap_map]at d;have g:(List.drop ((#[]:Array Value).size-a.length) ([]:L1 Value)).length=0:=by simp
 have c:List.take a.length (a.map (·.arg))=a.map (·.arg):=gi (by simp);simp[j,b];refine(if_neg ?_).trans ?_;rw[g,Nat.sub_zero,c,f];decide;rw[d];cases h
theorem PQ.cons(T:PQ P w K mg base h ad k tab fns){x}{f}{fd}{ps}{n r}{M}(hr:k<=r)(ok:FnOk P w K mg base (CXe P w) r f fd ps (xT K ad n M))(hb:eA K fd ps [])(kp:keepIn K (.ref f)=qz)(hm:mg x=pi (.ref f))(hj:f=ad.fnA fns.length)(hdb:(x==gV)=q7):
  PQ P w K mg base h ad r ((x,.fn fns.length n M)::tab) (fns++[(n,M)]):=
 ⟨dX.cons (T.t.mono hr) hdb ⟨r,f,aj _,hm,kp,⟨_,_,ok,hb⟩,hj⟩,gI.snoc T.u hr rfl hj (aj _) kp ok hb,T.X,T.G,T.B⟩
def PQ.addV(T:PQ P w K mg base h ad k tab fns)(x:Str)(st:Stmt)(f:Addr)(ps:L1 Str)(n:Nat)(M:Fn){oc:Value}{od an:L7 Addr}{osl:Array (L7 Value)}{kV doc pm cdv ct:Value}(l:K.lookup f=pi ⟨oc,od,.func (oy x x (defArgs st) (defBody st) (defScope st) .none kV doc pm an cdv ct),osl⟩)
  (fns':L1 (Nat×Fn)) (hf:fns'=fns\/fns'=[]) (d:F2 tab fns' st=pi (n,M):=by kernel_rfl) (c:codeIn K cdv x=qz:=by kernel_rfl) (kp:keepIn K (.ref f)=qz:=by kernel_rfl) (hm:nsIn K mainGlobals x=pi (pi (.ref f)):=by kernel_rfl) (hj:f=ad.fnA fns.length:=by rfl)
  (hdb:(x==gV)=q7:=by decide) (hps:cY (defArgs st)=pi ps:=by rfl) (nd:ps.Nodup:=by decide):
  PQ P w K mg base h ad (k+1) ((x,.fn fns.length n M)::tab) (fns++[(n,M)]):=by
 have F:=kB (st:=st) l c kp;refine T.cons (pj _) (Lc (ps:=ps) T.B T.t ?_ F hps d) (F.binds λ_ _ _ _ _ _ b a=>gJ hps nd a) kp (n8 T.X T.G hm) hj hdb
 rcases hf with rfl|rfl
 .exact T.u
 .exact gI.nil
def PQ.add(T:PQ P w K mg base h ad k tab fns)(x:Str)(st:Stmt)(f:Addr)(ps:L1 Str)(n:Nat)(M:Fn){oc:Value}{od an:L7 Addr}{osl:Array (L7 Value)}{kV doc pm cdv ct:Value}(l:K.lookup f=pi ⟨oc,od,.func (oy x x (defArgs st) (defBody st) (defScope st) .none kV doc pm an cdv ct),osl⟩)
  (d:F2 tab [] st=pi (n,M):=by kernel_rfl) (c:codeIn K cdv x=qz:=by kernel_rfl) (kp:keepIn K (.ref f)=qz:=by kernel_rfl) (hm:nsIn K mainGlobals x=pi (pi (.ref f)):=by kernel_rfl) (hj:f=ad.fnA fns.length:=by rfl)
  (hdb:(x==gV)=q7:=by decide) (hps:cY (defArgs st)=pi ps:=by rfl) (nd:ps.Nodup:=by decide):
  PQ P w K mg base h ad (k+1) ((x,.fn fns.length n M)::tab) (fns++[(n,M)]):=T.addV x st f ps n M l [] (.inr rfl) d c kp hm hj hdb hps nd
theorem PQ.py(T:PQ P w K mg base h ad 0 tab [])(p:Py)(hm:nsIn K mainGlobals (eC p)=pi qw:=by kernel_rfl)(hdb:(eC p==gV)=q7:=by decide):PQ P w K mg base h ad 0 ((eC p,.py p)::tab) []:=⟨dX.cons T.t hdb ⟨rfl,PySem.W.mg_none_of T.X T.G hm⟩,T.u,T.X,T.G,T.B⟩
theorem PQ.verr(T:PQ P w K mg base h ad 0 tab [])(hm:nsIn K mainGlobals "ValueError"=pi qw:=by kernel_rfl):PQ P w K mg base h ad 0 (("ValueError",.verr)::tab) []:=⟨dX.cons T.t rfl ⟨rfl,PySem.W.mg_none_of T.X T.G hm⟩,T.u,T.X,T.G,T.B⟩
theorem PQ.exc(T:PQ P w K mg base h ad 0 tab [])(x:Str)(c:Nat)(hm:nsIn K mainGlobals x=pi (pi (.ref (ad.cls c))):=by kernel_rfl)(hc:c<ad.nb:=by decide)(hdb:(x==gV)=q7:=by decide):PQ P w K mg base h ad 0 ((x,.exc c)::tab) []:=⟨dX.cons T.t hdb ⟨n8 T.X T.G hm,hc⟩,T.u,T.X,T.G,T.B⟩
theorem PQ.int(T:PQ P w K mg base h ad 0 tab [])(x:Str)(i:Int)(t:Tok)(hm:nsIn K mainGlobals x=pi (pi (.int i t)):=by kernel_rfl)(hdb:(x==gV)=q7:=by decide):PQ P w K mg base h ad 0 ((x,.val (.int i))::tab) []:=⟨dX.cons T.t hdb ⟨.int i t,.int i,n8 T.X T.G hm,⟨_,rfl⟩,λG=>by unfold Rep;rfl⟩,T.u,T.X,T.G,T.B⟩
theorem PQ.val(T:PQ P w K mg base h ad 0 tab [])(x:Str){d:D}{u:Value}{v:V}(hv:bG v u)(hr: ∀G,Rep K ad G d v)(hm:nsIn K mainGlobals x=pi (pi u):=by kernel_rfl)(hdb:(x==gV)=q7:=by decide):PQ P w K mg base h ad 0 ((x,.val d)::tab) []:=⟨dX.cons T.t hdb ⟨u,v,n8 T.X T.G hm,hv,hr⟩,T.u,T.X,T.G,T.B⟩
theorem PQ.tbl(T:PQ P w K mg base h ad 0 tab [])(x:Str)(A:Addr){kvs:L1 (Str×D)}(hF:Ay P w K ad A kvs)(hm:nsIn K mainGlobals x=pi (pi (.ref A)):=by kernel_rfl)(hdb:(x==gV)=q7:=by decide):PQ P w K mg base h ad 0 ((x,.tbl kvs)::tab) []:=⟨dX.cons T.t hdb ⟨A,n8 T.X T.G hm,hF⟩,T.u,T.X,T.G,T.B⟩
theorem PQ.nil(X:K.In h)(G:h.Ns mainGlobals mg)(B:ExcK K ad):PQ P w K mg base h ad 0 [] []:=⟨dX.nil,gI.nil,X,G,B⟩
end
section
variable{P:Program}{w:World}{K:Frag}{mg:Str->L7 Value}{base h:Heap}{ad:Ad}{k:Nat}{tab:L1 (Str×SK.Gl)}{fns:L1 (Nat×Fn)}
def E3{st}{A:Nat}(RC:RkC K A)(Fu:Fun K x qual st f fd)(hs:bP (aA (defScope st)) [self] (defScope st)=qz)(hb: ∃n1 q1 a1 n2 q2 a2 n3 q3 a3 e1 e2 e3,defBody st=Ph self n1 q1 a1 n2 q2 a2 n3 q3 a3 e1 e2 e3):FnOk P w K mg base (CXe P w) (k+1) f fd [self] (spI K ad A):=by
 obtain⟨M,C,kV,n,L,I,u,ct,i,rfl,lk,d⟩:=Fu.ex;obtain⟨S,nm⟩:=cM hs;obtain⟨n1,q1,a1,n2,q2,a2,n3,q3,a3,e1,e2,e3,b⟩:=hb;have g:(aA (defScope st))[0]? =pi self:=by
  have:=S.pre;cases e:aA (defScope st)with
  |nil=>rw[e]at this;cases this
  |cons y N=>rw[e]at this;cases this;rfl
 have h:self∈aA (defScope st):=List.mem_of_getElem? g;refine Ch lk d S (λr H Q E a=>?_) λJ c s H r Q E B a=>?_;obtain⟨p,dx,G,rfl,_⟩:=a;rfl;obtain⟨p,dx,G,rfl,m,q,v,t,o,j,l⟩:=a;rw[b];refine A7 ⟨RC,g,(S.par self (.head _)).elim .inl λz=>.inr (.inl z),(nm _ h).1,(nm _ h).2⟩ (p:=p) (dx:=dx) (G:=G) ?_ m q v t o j l;unfold L2.start;rfl
def gI.mono(h:gI P w K mg base ad k fns)(hk:k<=k'):gI P w K mg base ad k' fns:=λj n F e=>let ⟨r,h1,h2⟩:=h j n F e;⟨r,om h1 hk,h2⟩
def A8(h1:jy K A qi=qz)(h2:je K A=qz)(h3:jf K A=qz)(h4:mf K (.ref A) "__setattr__"=pi (pi (.builtin "object.__setattr__")))(h5:mf K (.ref A) "held"=pi qw)(h6:mf K (.ref A) "done"=pi qw)(h7:mf K (.ref A) "undone"=pi qw):RkC K A:=⟨⟨h1,h2,h3,h4⟩,h5,h6,h7⟩
def PQ.rack(T:PQ P w K mg base h ad k tab fns)(A:Addr)(c:RkC K A)(hm:nsIn K mainGlobals "Rack"=pi (pi (.ref A)):=by kernel_rfl):PQ P w K mg base h ad k (("Rack",.cls A [])::tab) fns:=
 ⟨dX.cons T.t rfl ⟨n8 T.X T.G hm,c,λ_ _ _ e=>by cases e⟩,T.u,T.X,T.G,T.B⟩
def PQ.met(T:PQ P w K mg base h ad k tab fns)(m qual:Str)(st:Stmt)(f:Addr)(self:Str)(ps:L1 Str)(n:Nat)(M:FM){A:Addr}{ms:L1 (Str×Nat×FM)}{oc:Value}{od an:L7 Addr}{osl:Array (L7 Value)}{kV doc pm cdv ct:Value}(l:K.lookup f=pi ⟨oc,od,.func (oy m qual (defArgs st) (defBody st) (defScope st) .none kV doc pm an cdv ct),osl⟩)
  (hl:tab.lookup ("Rack":Str)=pi (SK.Gl.cls A ms)) (d:HE tab A ms st=pi (n,M):=by kernel_rfl) (c:codeIn K cdv qual=qz:=by kernel_rfl) (kp:keepIn K (.ref f)=qz:=by kernel_rfl) (m1:mf K (.ref A) m=pi (pi (.ref f)):=by kernel_rfl) (m2:ox K (.ref f)=qz:=by kernel_rfl)
  (no:m≠"held"/\m≠"done"/\m≠"undone":=by decide) (hps:cY (defArgs st)=pi (self::ps):=by rfl) (nd:(self::ps).Nodup:=by decide):
  PQ P w K mg base h ad (k+1) (("Rack",.cls A ((m,n,M)::ms))::tab) fns:=by
 have F:=kB (x:=m) (qual:=qual) (st:=st) l c kp;obtain⟨C,j,i⟩:=(T.t "Rack" _ hl).2;have ok:=A6 (k:=k) T.B T.t j i F hps d;refine⟨dX.cons (T.t.mono (pj k)) (by decide) ⟨C,j,λg s p e=>?_⟩,T.u.mono (pj k),T.X,T.G,T.B⟩
 rw[ke]at e
 cases q:g==m with
 |true=>
  rw[q]at e;cases e
  cases eq_of_beq q
  exact⟨no,f,k+1,_,_,aj _,⟨m1,m2,kp⟩,ok,F.binds λ_ _ _ _ _ _ E hl=>gJ hps nd hl⟩
 |false=>
  rw[q]at e;obtain⟨a,v,r,y,b,o,z⟩:=i g s p e;exact⟨a,v,r,y,b,om o (pj k),z⟩
end
noncomputable def HG(a:Arguments):Bool:=a.posonlyargs.isEmpty&&a.args.isEmpty&&a.vararg.isNone&&a.kwonlyargs.isEmpty&&a.kw_defaults.isEmpty&&a.kwarg.isNone&&a.defaults.isEmpty
def Dw(h:HG a=qz):a=⟨[],[],qw,[],[],qw,[]⟩:=by obtain⟨q,p,o,n,j,l,m⟩:=a;unfold HG at h;simp only[aw,ko,ef]at h;obtain⟨⟨⟨⟨⟨⟨b,f⟩,c⟩,i⟩,e⟩,g⟩,d⟩:=h;subst b f c i e g d;rfl
def Dx(sc:Scope):Bool:=sc.kind== .function&& !sc.isCoroutine&& !sc.isGenerator&&sc.names.all (λp=>p.2 != .cell&&p.2 != .local)&&decide (bE sc).Nodup&&(bE sc).all (λx=> !(x==gV)&& !(x==hK))
def sD(h:Dx sc=qz):LamSc (bE sc) sc/\(bE sc).Nodup/\∀x∈bE sc,(x==gV)=q7/\(x==hK)=q7:=by
 unfold Dx at h;simp only[aw]at h;obtain⟨⟨⟨⟨⟨b,e⟩,c⟩,g⟩,d⟩,f⟩:=h;have all: ∀p∈sc.names,p.2≠ .cell/\p.2≠ .local:=λp i=>by
  have:=zAd g p i;simpa using this
 refine⟨⟨by simpa using b,by simpa using e,by simpa using c,λx a=>(all x a).1,λx z=>(all _ (ii z)).2 rfl⟩,of_decide_eq_true d,λx a=>?_⟩;have:=zAd f x a;simpa using this
section
variable{K:Frag}{ad:Ad}{tab:L1 (Str×SK.Gl)}
def P9(B:ExcK K ad)(TB:dX P w K mg base ad k tab)(FB:gI P w K mg base ad k fns)(hs:Dx sc=qz)(hr:Room k (A.deeper (EJ q sc s.z a cd cl))):
  CtxOk (cxL (CXe P w) P w K mg base (bE sc) q sc a cd cl A outer s H E) ad ⟨tab,fns,sc,bE sc,[]⟩:=by
 obtain⟨S,J,nm⟩:=sD hs;refine⟨rfl,J,λx i e=>?_,λx e=>e,λx g e=>?_,λx i e=>(fB e).2,rfl,?_,hr.hd,B.exc,B.kin,B.kve,λj m C e=>?_⟩;obtain⟨G,N⟩:=mD e;have m:=mC G;exact⟨gG G,N,(nm x m).1,(nm x m).2⟩;obtain⟨a,b⟩:=TB x g e;refine⟨a,?_⟩;rcases g with ⟨j,m,C⟩|c|_|d|p|kvs|⟨A,O⟩|⟨A,M⟩|⟨A,n,M⟩;obtain⟨z,I,h,o,l,t,v⟩:=b;exact⟨z,I,⟨o,l,t⟩,hr.mono h,v⟩;exact b;exact b;exact b;exact b;exact b;exact⟨b.1,b.2.1,λm n M L=>let ⟨no,f,r,y,u,h,o,l,t⟩:=b.2.2 m n M L;⟨no,f,r,y,u,o,l,hr.mono h,t⟩⟩;obtain⟨f,r,y,u,h,o,l,t,v⟩:=b;exact⟨f,r,y,u,o,l,t,hr.mono h,v⟩;obtain⟨f,r,y,u,h,o,l,t,v⟩:=b;exact⟨f,r,y,u,o,l,t,hr.mono h,v⟩;exact jc (io (by decide:62<=64) _) hr.units;obtain⟨z,h,o,l⟩:=FB j m C e;exact⟨z,⟨o,l⟩,hr.mono h⟩
end
noncomputable def Pi:Expr->L7 (Arguments×Expr×Scope)
 |.Lambda ps body sc _=>pi (ps,body,sc)
 |_=>qw
def HH(h:Pi e=pi (ps,body,sc)): ∃p,e= .Lambda ps body sc p:=by cases e<;>first|(cases h;exact⟨_,rfl⟩)|(cases h;done)
theorem uL{α β}{f:α->L7 β}: ∀{l} {r},eM f l=pi r->∀(i:Nat) a,l[i]? =pi a->∃b,r[i]? =pi b/\f a=pi b
 |[],_,_,i,a,h=>by cases h
 |x::l,r,h,i,a,ha=>by
  unfold eM at h;rcases e:f x with _|y;rw[e]at h;cases h;rw[e]at h;obtain⟨g,c,d⟩:=zMd h;subst d;rcases i with _|i;cases ha;exact⟨y,rfl,e⟩;exact uL c i a ha
noncomputable def cxP(Ps:L1 Addr)(X:Cx):Cx:={X with ex:=Ps}
def Ol(u:Un fs [] H H' h h'):Un fs ex H H' h h':=
 ⟨λb o e n f _=>u.keep b o e n f (by simp),λb o e n f _=>u.slot b o e n f (by simp),λb o e n _=>u.free b o e n (by simp),λb o e _=>u.there b o e (by simp),u.tups,u.frzs,u.tbls⟩
section
variable{Ps:L1 Addr}{σ:St}
def Ls(I:Inv X [] σ H s)(hex:X.ex=[])(hP: ∀P∈Ps,P<X.s₀.z/\X.base.get? P=qw/\P∉X.fs)(hcell: ∀x c,X.env.cells.lookup x=pi c->X.s₀.z<=c):Inv (cxP Ps X) [] σ H s:=by refine⟨⟨I.ok.mod,I.ok.kind,I.ok.glob,I.ok.blt,I.ok.above,I.ok.inj,I.ok.has,I.ok.cab,I.ok.hd,I.ok.frames,I.ok.stk,λb a=>?_,I.ok.bs,I.ok.bsz,λb o e a=>?_,λb a=>(hP b a).2.2,I.ok.funs,I.ok.frf⟩,I.os,I.bare,?_,I.loc,I.cell,I.free,I.freeC,I.pin,I.hok,I.len⟩;exact⟨bh (bg (hP b a).1 I.ok.above),λx c h z=>absurd (bg (hP b a).1 (hcell x c h)) (by rw[z];exact nh _)⟩;have d:X.base.get? b=pi o:=e;rw[(hP b a).2.1]at d;cases d;have u:=I.base;rw[hex]at u;exact Ol u
end
def E4:Tb P0 q #[] []:=⟨trivial,(λa c h=>by cases h),(λp b=>by cases b)⟩
structure Td where
 dn:Str
 en:Str
 x:Str
 cx:Str
def Om(t:Td)(sc:Scope):Bool:=bP (aA sc) [t.dn] sc&&aA sc==[t.dn,t.en]&&sc.names.lookup t.dn==pi .local&&sc.names.lookup t.en==pi .local&&sc.names.lookup t.x==pi .globalImplicit&&sc.names.lookup t.cx==pi .globalImplicit&&
 !(t.x==gV)&& !(t.cx==gV)
def wP{F}: ∀r c,o8 F r≠ .ex c:=λr c z=>by
 unfold o8 at z;rcases r with d|a|b|_;cases z;cases z;simp only at z;split at z<;>cases z;cases z
def defBody:Stmt->L1 Stmt
 |.FunctionDef _ _ b _ _ _ _ _ _ _=>b
 |_=>[]
def On:Stmt->L7 Scope
 |.FunctionDef _ _ _ _ _ _ sc _ _ _=>pi sc
 |_=>qw
def StOk.P{ad}(O:StOk X ad C):StOk (cxP Ps X) ad C:=by refine⟨⟨O.cx.N,O.cx.nd,O.cx.vis,O.cx.gk,λx g e=>⟨(O.cx.gt x g e).1,?_⟩,O.cx.cap,O.cx.calm,O.cx.un,O.cx.hd,O.cx.exc,O.cx.kin,O.cx.kve,λj n F e=>?_⟩,O.fn,O.sc,O.lc,O.exm,O.exi⟩;have h:=(O.cx.gt x g e).2;rcases g with ⟨k,n,f⟩|c|_|d|p|kvs|⟨A,B⟩|⟨A,M⟩|⟨A,n,M⟩;obtain⟨r,w,⟨a,s,i⟩,y⟩:=h;exact⟨r,w,⟨a,s,i⟩,y⟩;exact h;exact h;exact h;exact h;exact h;obtain⟨a,s,i⟩:=h;exact⟨a,s,λm n M z=>let ⟨no,f,r,q,l,t,u,o,b⟩:=i m n M z;⟨no,f,r,q,l,t,u,o,b⟩⟩;obtain⟨f,r,q,l,t,u,o,b,v⟩:=h;exact⟨f,r,q,l,t,u,o,b,v⟩;obtain⟨f,r,q,l,t,u,o,b,v⟩:=h;exact⟨f,r,q,l,t,u,o,b,v⟩;obtain⟨r,⟨a,s⟩,i⟩:=O.cx.fnv j n F e;exact⟨r,⟨a,s⟩,i⟩
def sE(L:Pl)(h:Heap)(H:Hp)(fs:L1 Addr):Prop:= ∀p∈L,h.get? p.1=pi p.2/\H p.1=qw/\p.1∉fs/\∀v,p.2.data≠ .cell v
section
variable{K:Frag}{kV:Value}{args:Args}
def Dy(lk:K.lookup fa=pi ⟨oc,od,.func (oy name qual params body scope dV kV doc pm an (.ref c) ct),osl⟩)(hcd:mi K (.ref c) qual=qz)(S:FnScope N prs scope)(hr:Room (k+1) A)(e0:Env0 P w K mg base A outer s H)(hb:BindsTo s (oy name qual params body scope dV kV doc pm an (.ref c) ct) args (prs.zip us))(hl:vs.length=prs.length)(rv:cD vs us)(pk:sE (L++pl) s.heap H (frs outer))(T0:TD (TbL P0 q) L pl)(hbP:base.get? P0=qw)(hbody:sX (cxP [P0] (jU (CXe P w) P w K mg base N qual scope fa (.ref c) A outer s H λ_ _ _=>False)) (TbL P0 q) body t)(ht:t ⟨λ_ _=>False,Q,λ_ _=>False,λ_ _=>False⟩ (start N vs) H):
  codeAny (model P w) A (.call (.ref fa) args) (λr s'=>∃u v H' L',r= .ok (.ret u)/\s'.os=s.os/\AllBare s'.gens/\Un (frs outer) [P0] H H' s.heap s'.heap/\HOk P w H' s'.heap/\bG v u/\Q v H'/\sE (L'++pl) s'.heap H' (frs outer)/\TD (TbL P0 q) L' pl) s:=by
 obtain⟨G,cs,E,tb⟩:=T0.tb;have n:=pk (P0,mq G) (g8 _ (by rw[E];exact .head _));have C:K.In s.heap:=e0.mod.kin.keeps λb o e=>(e0.bs b o e).1;have lim:s.heap.NoLimit:=e0.mod.nolimit.keeps λb o e=>(e0.bs b o e).1;have ab:us.length=prs.length:=by rw[<-hl];exact rv.length.symm
 have g: ∀y∈prs.zip us,scope.names.lookup y.1=pi .local\/(scope.names.lookup y.1=pi .cell/\((cellsFrom (s.z+1) scope.names []).lookup y.1).isSome=qz):=λy Z=>by
  rcases S.par y.1 (lf Z).1 with z|z;exact .inl z;exact .inr ⟨z,fy _ _ _ (.inl z)⟩
 let X:=jU (CXe P w) P w K mg base N qual scope fa (.ref c) A outer s H λ_ _ _=>False;refine codeAny_call_function hr.depth (C _ _ lk) rfl S.co S.gen rfl (ix C hcd) (hb _ _ _ _ ?_);refine wpAny_newFunctionEnv_cells S.kind g λad U i y=>?_;subst U;refine⟨lim.keeps y.toInCall.keep,codeAny_func ?_⟩;have hk:=y.toInCall.keep;have I:Inv X [] (start N vs) H i:=gU S hr.hd e0 hl rv y;have I1:Inv (cxP [P0] X) [] (start N vs) H i:=Ls I rfl (λP hP=>by
  rw[i3.mp hP];exact⟨ah n.1,hbP,n.2.2.1⟩) λz d h=>oo (y.above z d (ii h))
 have I2:Inv (cxP [P0] X) (L++pl) (start N vs) H i:=I1.pins_of λp l=>by
  obtain⟨B,Y,a3,O⟩:=pk p l;exact⟨hk _ _ B,Y,bh (ah B),a3,O⟩
 refine wpAny_mono (hbody pl L i _ H _ T0 I2 ht) (λfl s' f=>?_) λe s' f=>?_;obtain⟨L',T,f⟩:=f;cases fl with
 |next=>obtain⟨_,_,_,z⟩:=f;exact z.elim
 |brk=>obtain⟨_,_,_,z⟩:=f;exact z.elim
 |cont=>obtain⟨_,_,_,z⟩:=f;exact z.elim
 |ret u=>
  obtain⟨v,ag,H',J,j,M⟩:=f;exact⟨u,v,H',L',rfl,J.os,J.bare,J.base,J.hok,j,M,λp l=>let t:=J.pin p (bt _ l);⟨t.1,t.2.1,t.2.2.2.1,t.2.2.2.2⟩,T⟩
 have no: ∀(e:Value) (a:Shared),CXe P w outer H s (λ_ _ _=>False) e a->False:=λe a z=>by
  obtain⟨_,_,_,_,_,_,_,_,_,_,_,_,_,_,z⟩:=z;exact z
 have m:wpAny (model P w) (A.deeper (envOfC qual scope s.z fa (.ref c))) (leaving (envOfC qual scope s.z fa (.ref c)) e) (λ_ a=>CXe P w outer H s (λ_ _ _=>False) e a) (λx a=>CXe P w outer H s (λ_ _ _=>False) x a) s':=f;exact wpAny_mono m (λ_ a z=>(no _ _ z).elim) λx a z=>(no _ _ z).elim
end
def HI(X:Cx)(ad:Ad)(A n:Nat)(P0:Addr)(q:Str)(k:Nat)(fa:Addr)(fd:FuncData)(prs:L1 Str)(M:FM):Prop:=
 ∀(A':Around) (outer:L1 qm) (s:Shared) (G H:Hp) (p0 dx d l1 l2:Addr) (r:Rk) (ds:L1 D) (ws:L1 V) (us:L1 Value) (args:Args) (L pl:Pl) (Q:VK),Room k A'->Env0 X.prog X.w X.K X.mg X.base A' outer s H->BindsTo s fd args (prs.zip us)->cD (V.ref p0::ws) us->Same G H->RackIn X.K ad A G H p0 r dx d l1 l2->aJ X.K ad G ds ws->ds.length=n->
  sE (L++pl) s.heap H (frs outer)->TD (TbL P0 q) L pl->RMK X.K ad A G H p0 dx d l1 l2 (M r ds) Q (λ_ _=>False)->
  codeAny (model X.prog X.w) A' (.call (.ref fa) args) (λr s'=>∃u v H' L',r= .ok (.ret u)/\s'.os=s.os/\AllBare s'.gens/\Un (frs outer) [P0] H H' s.heap s'.heap/\HOk X.prog X.w H' s'.heap/\bG v u/\Q v H'/\sE (L'++pl) s'.heap H' (frs outer)/\TD (TbL P0 q) L' pl) s
section
variable{ad:Ad}
def HJ(hD:HI X ad A n P0 q k fa fd prs M)(hr:Room k X.A)(hnx: ∀r ds c,M r ds≠ .pure (.ex c))(hg:L2.Gl X tn)(hm:X.mg tn=pi (.ref fa))(hdb:(tn==gV)=q7)(hk:mh X.K (.ref fa)=qz)(hbd: ∀s us,X.K.In s.heap->us.length=n+1->BindsTo s fd ⟨us,[]⟩ (prs.zip us))(hx:P0∈X.ex)(hstk:X.stack=X.env::X.outer/\X.env.frame=pi X.env.locals)(hV:kT X i x)(ha:MA X ad es fs)(hn:fs.length=n)(hst:starEach (.Name x px::es) X.env=(q7,eval (.Name x px) X.env)::starEach es X.env)(hany:(backTo cp (starEach es X.env)).any (·.1)=q7):
  LPE X (TbL P0 q) (.Call (.Name tn p) (.Name x px::es) [] cp) (nD X ad A i M fs):=by
 rintro cc L s σ H Q T I ⟨G,ρ,E,r,w,dx,d,l1,l2,hG,hS,ar,h1,hR,hA⟩;refine wpAny_Call_Name_kw (eT I hg hm ?_ hdb);refine i0 (h₀:=X.base) I.ok.mod.kin hk (L2.thn (cJ (bQ hV) (ha) hst cp _ s σ H (λN O=>∃U ds f,N= .ref w::U/\Step G H f O/\aJ X.K ad f ds U/\ds.length=n/\RMK X.K ad A f O w dx d l1 l2 (M r ds) Q E) I ?_) λus o hz=>?_) hst hany;refine⟨.ref w,h1,?_⟩;obtain⟨G',J,E',a1,a2,a3,l⟩:=hA;refine⟨G',J,E',a1,a2,a3,?_⟩;cases e:args fs J with
 |ok as=>
  rw[e]at l;intro N f O Z rq;obtain⟨ds,G2,b1,b2,S,b4⟩:=l N f O Z rq;exact⟨N,ds,G2,rfl,b1,b2,S.trans hn,b4⟩
 |ex c=>rw[e]at l;exact l
 |bad=>rw[e]at l;exact l
 obtain⟨N,Y,j,r2,U,ds,f,e1,Z,rq,hl,m⟩:=hz;subst e1;refine⟨j.kIn,?_⟩;have ag: ∀b,b≠X.env.locals->b∉X.fs->b∉frs X.stack:=λb n1 n2 z=>by
  rw[hstk.1]at z;unfold frs at z;rw[ib,hstk.2]at z;rcases av.mp z with y|y;exact n1 y;exact n2 y
 have pk:sE (L++(X.pn++cc)) o.heap Y (frs X.stack):=λp a=>by
  have:=j.pin p (by simp only[k6]at a ⊢;rcases a with z|z|z<;>simp[z]);exact⟨this.1,this.2.1,ag _ this.2.2.1 this.2.2.2.1,this.2.2.2.2⟩
 obtain⟨ps,cs,hL,tb⟩:=T.tb;have al:RMK X.K ad A f Y w dx d l1 l2 (M r ds) Q (λ_ _=>False):=by
  have:=hnx r ds;cases em:M r ds with
  |chg y r'=>rw[em]at m;exact m
  |pure y=>
   rw[em]at m;cases y with
   |ok y=>exact m
   |ow ys=>exact m
   |ex c=>exact absurd em (this c)
   |bad=>exact m
 have lu:us.length=n+1:=by rw[<-r2.length,bq,rq.length,hl]
 refine wpAny_call (codeAny_mono (hD X.A X.stack o f Y w dx d l1 l2 r ds U us ⟨us,[]⟩ L (X.pn++cc) Q hr j.env0 (hbd o us j.kIn lu) r2 Z.gh (hR.step Z) rq hl pk T al) λap s' B=>?_);obtain⟨u,v,H',L',rfl,os,C,un,am,rv,qv,ab,T'⟩:=B;obtain⟨hh,g,dr,tk,an⟩:=s';obtain rfl:an=o.os:=os;have I3:Inv X [] σ Y o:=j.pins_of λp a=>by cases a
 have I4:Inv X [] σ H' {o with heap:=hh,gens:=g,drawn:=dr,toks:=tk}:=I3.call (ch:=[P0]) un am C λb h=>by
  rw[i3.mp h];refine⟨.inl hx,(j.ok.exf P0 hx).1,(j.ok.exf P0 hx).2,λp a=>?_⟩;rw[k7]at a;exact(T.dj (P0,mq ps) (by rw[hL];exact .head _) p (g8 _ a)).symm
 have t: ∀b,b∉frs X.stack->b≠X.env.locals/\b∉X.fs:=λb h=>by
  rw[hstk.1]at h;unfold frs at h;rw[ib,hstk.2]at h;exact⟨λz=>h (by rw[z];exact .head _),λz=>h (.tail _ z)⟩
 refine⟨L',T',v,H',I4.pins_of λp a=>?_,rv,qv⟩;obtain⟨b1,b2,S,b4⟩:=ab p (by simp only[k6]at a ⊢;rcases a with z|z<;>simp[z]);exact⟨b1,b2,(t _ S).1,(t _ S).2,b4⟩
end
abbrev FL:=Rho->RM
def E5(A i:Nat)(M:FM)(fs:L1 F):FL:=λρ=>match(ρ[i]? :L7 Slot)with
 |some (.rk C r)=>if C=A then(match args fs ρ with
  |.ok ds=>M r ds
  |.ex c=>.pure (.ex c)
  |.bad=>.pure .bad)else .pure .bad
 |_=>.pure .bad
noncomputable def ifM(f:F)(g h:FL):FL:=λρ=>match f ρ with
 |.ok (.bl b)=>if b then g ρ else h ρ
 |.ex c=>.pure (.ex c)
 |_=>.pure .bad
def Lu(dE:Expr->L7 F)(A:Nat)(ms:L1 (Str×Nat×FM))(C:SK.Ctx)(e:Expr):L7 FL:=match e with
 |.Call f as kws cp=>if kws.isEmpty then(match f with
  |.Attribute o m ap=>if(ap.endLine==cp.line)=qz then(cH o).bind λ(x,_)=>(loc C x).bind λi=>(ms.lookup m).bind λ(n,M)=>if as.length<20 then(eM dE as).bind λfs=>if fs.length=n then pi (E5 A i M fs)else qw else qw else qw
  |_=>qw)else qw
 |_=>qw
noncomputable def vIf:Expr->L7 (Expr×Expr×Expr)
 |.IfExp c a b _=>pi (c,a,b)
 |_=>qw
def Oo(dE:Expr->L7 F)(A:Nat)(ms:L1 (Str×Nat×FM))(C:SK.Ctx)(e:Expr):L7 FL:=match vIf e with
 |some (c,a,b)=>(dE c).bind λf=>(Lu dE A ms C a).bind λg=>(Lu dE A ms C b).map λh=>ifM f g h
 |none=>Lu dE A ms C e
theorem RMK.step{K}{ad}(h:RMK K ad A G H p dx d l1 l2 m Q E)(st:Step G H G1 H1):RMK K ad A G1 H1 p dx d l1 l2 m Q E:=by rcases m with x|⟨x,r⟩;exact RK.step h st;intro v s g c t i j n;refine h v s g c ⟨st.sg.trans t.sg,t.gh,λb o a e=>t.sh b o a (st.sh _ _ e),λb f l=>?_,λb a=>t.th b λz=>a (st.sh.free z)⟩ i (j.imp id λz=>st.sh.free z) n;rcases q:G1 b with _|o;exact st.sh.free (t.nw b q l);exact st.nw b f (by rw[q];exact λz=>nomatch z)
def tFR(X:Cx)(ad:Ad)(A:Nat)(p0 dx d l1 l2:Addr)(g:FL):TE:=λσ H Q=>∃G ρ E r i,Same G H/\SL X.K ad G H ρ σ/\XP X ad σ E/\ρ[i]? =pi (.rk A r)/\σ[i]? =pi (pi (.ref p0))/\RackIn X.K ad A G H p0 r dx d l1 l2/\(∀(j C:Nat) (r':Rk),ρ[j]? =pi (.rk C r')->j=i)/\RMK X.K ad A G H p0 dx d l1 l2 (g ρ) Q E
section
variable{ad:Ad}{A:Nat}
def uM(hE:p5 ad n)(O:CtxOk X ad C)(RC:RkC X.K A)(MO: ∀m n M,ms.lookup m=pi (n,M)->MetOk X ad A m n M)(h:Lu (bT n C) A ms C e=pi g):PE X e (tFR X ad A p0 dx d l1 l2 g):=by
 unfold Lu at h;split at h;rename_i f as N cp;split at h;rename_i hk;cases ko.mp hk;split at h;rename_i o m ap;split at h;rename_i S;have l:=zBd h;clear h;obtain⟨⟨x,p⟩,h0,h⟩:=l;cases bB h0;have l:=zBd h;clear h;obtain⟨i,L,h⟩:=l;have l:=zBd h;clear h;obtain⟨⟨Z,M⟩,Y,h⟩:=l;have T:=O.vis x i L;simp only at h;split at h;rename_i q;have l:=zBd h;clear h;obtain⟨fs,w,h⟩:=l;split at h;rename_i W;cases h;obtain⟨ma,t⟩:=nB hE O w;refine PE.imp (EX RC (MO m Z M Y) T ma W (λa r e=>by
  subst e;exact⟨aK (t a (.head _)),gH λe U=>t e (.tail _ U)⟩) (fS w).symm (pE t q) S) λσ H Q hz=>?_
 obtain⟨G,u,E,r,j,B,y,l,e1,e2,hR,hu,b⟩:=hz;unfold E5 at b;split at b;rename_i J r' v;by_cases I:J=A;rw[if_pos I]at b;have ej:i=j:=hu i J r' v;subst ej;rw[e1]at v;cases v;refine⟨G,u,E,r,p0,dx,d,l1,l2,B,y,l,e2,hR,G,u,E,B,y,l,?_⟩;rcases s:args fs u with ds|c|_;rw[s]at b;exact λvs G1 H1 z rq=>⟨ds,G1,z,rq,fR s,RMK.step b z⟩;rw[s]at b;exact b;rw[s]at b;exact b;rw[if_neg I]at b;exact b.elim;exact b.elim;cases h;cases h;cases h;cases h;cases h;cases h
def Lv(h:vIf e=pi (c,a,b)): ∃p,e= .IfExp c a b p:=by cases e<;>first|(cases h;exact⟨_,rfl⟩)|(cases h;done)
def HK(hE:p5 ad n)(O:CtxOk X ad C)(RC:RkC X.K A)(MO: ∀m n M,ms.lookup m=pi (n,M)->MetOk X ad A m n M)(h:Oo (bT n C) A ms C e=pi g):PE X e (tFR X ad A p0 dx d l1 l2 g):=by
 unfold Oo at h;split at h;rename_i c a b Z;obtain⟨Y,rfl⟩:=Lv Z;have o:=zBd h;clear h;obtain⟨f,L,h⟩:=o;have o:=zBd h;clear h;obtain⟨U,T,h⟩:=o;obtain⟨S,N,rfl⟩:=zMd h;refine PE.imp (Ca (hE X C _ f O L).2.1 (uM (p0:=p0) (dx:=dx) (d:=d) (l1:=l1) (l2:=l2) hE O RC MO T) (uM (p0:=p0) (dx:=dx) (d:=d) (l1:=l1) (l2:=l2) hE O RC MO N)) λσ H Q W=>?_;obtain⟨G,s,E,r,i,u,t,o,w,J,I,z,j⟩:=W;unfold ifM at j;rcases q:f s with y|ys|c|_;rw[q]at j;cases y<;>try exact ba j
 rename_i k;refine⟨G,s,E,u,t,o,.inl ⟨k,q⟩,?_⟩;rw[q];intro v x H1 p B;unfold Rep at B;subst B;refine⟨k,rfl,?_⟩;have l:RMK X.K ad A G H p0 dx d l1 l2 (if k=qz then U s else S s) Q E:=j;cases k;rw[if_neg bf]at l;exact B3 ⟨x,s,E,r,i,p.gh,t.step p,o,w,J,I.step p,z,RMK.step l p⟩;rw[if_pos rfl]at l;exact y9 ⟨x,s,E,r,i,p.gh,t.step p,o,w,J,I.step p,z,RMK.step l p⟩;rw[q]at j;exact j.elim;rw[q]at j;refine⟨G,s,E,u,t,o,.inr ⟨c,q⟩,?_⟩;rw[q];exact j;rw[q]at j;exact j.elim;exact uM hE O RC MO h
end
def A9{l:L1 Nat}(h:l.Nodup){i j x:Nat}(a:l[i]? =pi x)(b:l[j]? =pi x):i=j:=by obtain⟨d,a⟩:=ay.mp a;obtain⟨c,b⟩:=ay.mp b;exact(List.getElem_inj h).mp (a.trans b.symm)
structure DidX(X:Cx)(ad:Ad)(C:SK.Ctx)(tn:Str)(F:Fn)(A:Nat)(ms:List (Str×Nat×FM))(P c:Addr)(q:Str)(k:Nat):Prop where
 O:StOk X ad C
 B:ExcK X.K ad
 TB:dX X.prog X.w X.K X.mg X.base ad k C.tab
 FB:gI X.prog X.w X.K X.mg X.base ad k C.fns
 RC:RkC X.K A
 MO: ∀m n M,ms.lookup m=pi (n,M)->(m≠"held"/\m≠"done"/\m≠"undone")/\∃f r fd ps,r<=k/\Meth X.K A m f/\FnOk X.prog X.w X.K X.mg X.base (CXe X.prog X.w) r f fd ps (spM X.K ad A n M)/\eA X.K fd ps []
 told: ∃ft fd dn,X.mg tn=pi (.ref ft)/\mh X.K (.ref ft)=qz/\mM X.prog X.w X.K X.mg X.base ad (k+1) ft fd dn F/\∀(s:Shared) (u:Value),X.K.In s.heap->BindsTo s fd ⟨[u],[]⟩ [(dn,u)]
 tdb:(tn==gV)=q7
 room:Room (k+2) X.A
 ex:P∈X.ex
 ql:X.env.qual++"<lambda>"=q
 code:X.env.code= .ref c
 hC:mr X.base c P
 hB:X.base.BuiltinsAt X.mg P
def uN(F:Fn)(cap:L1 Nat)(g:FL):FL:=λρ=>match Dj cap ρ with
 |some sl=>dM F (g sl)
 |none=>.pure .bad
def M7(tn:Str)(A:Nat)(ms:L1 (Str×Nat×FM))(C:SK.Ctx):Expr->L7 (L1 Nat×FL)
 |.Call (.Name x _) [l] [] _=>if x=tn/\C.sc.names.lookup x=pi .globalImplicit then(Pi l).bind λ(ps,body,sc)=>if HG ps&&Dx sc then(eM (λx=>fZ C x) (bE sc)).bind λcap=>(Oo (bT 50 ⟨C.tab,C.fns,sc,bE sc,[]⟩) A ms ⟨C.tab,C.fns,sc,bE sc,[]⟩ body).map λg=>(cap,g)else qw else qw
 |_=>qw
def Ba(tn:Str)(F:Fn)(A:Nat)(ms:L1 (Str×Nat×FM))(C:SK.Ctx)(e:Expr):L7 FL:=(M7 tn A ms C e).bind λ(cap,g)=>if cap.contains 0&&decide cap.Nodup then pi (uN F cap g)else qw
def tF0(X:Cx)(ad:Ad)(A:Nat)(p0 dx d l1 l2:Addr)(g:FL):TE:=λσ H Q=>∃G ρ E r,Same G H/\SL X.K ad G H ρ σ/\XP X ad σ E/\ρ[0]? =pi (.rk A r)/\σ[0]? =pi (pi (.ref p0))/\RackIn X.K ad A G H p0 r dx d l1 l2/\(∀(j C:Nat) (r':Rk),ρ[j]? =pi (.rk C r')->j=0)/\RMK X.K ad A G H p0 dx d l1 l2 (g ρ) Q E
def HL{K}{ad}{F}(h:RMK K ad A G H p dx d l1 l2 (dM F m) Q E):RMK K ad A G H p dx d l1 l2 (dM F m) Q λ_ _=>False:=by rcases m with r|⟨x,r⟩;have a:RK K ad G H (o8 F r) Q E:=h;show RK K ad G H (o8 F r) Q _;rcases e:o8 F r with d|b|c|_;rw[e]at a;exact a;rw[e]at a;exact a;exact absurd e (wP r c);rw[e]at a;exact a;exact h
def Lw: ∀{cs} {sl},Dj cs ρ=pi sl->∀(i:Nat) s,sl[i]? =pi s->∃j,cs[i]? =pi j/\ρ[j]? =pi s:=by
 intro cs sl h i s e;have b:eM (λi=>sA ρ[i]?) cs=pi sl:=h;induction cs generalizing sl i with
 |nil=>cases b;cases e
 |cons c cs g=>
  unfold eM at b;rcases a:sA ρ[c]? with _|y;rw[a]at b;cases b;rw[a]at b;obtain⟨l,d,m⟩:=zMd b;subst m;rcases i with _|i;cases e;refine⟨c,rfl,?_⟩;rcases f:ρ[c]? with _|z;rw[f]at a;cases a;rw[f]at a;cases z<;>first|(cases a;rfl)|(cases a;done)
  exact g (sl:=l) (i:=i) d e d
def Lx: ∀{cs} {sl},Dj cs ρ=pi sl->∀(i j:Nat),cs[i]? =pi j->∃s,sl[i]? =pi s/\ρ[j]? =pi s:=by intro cs sl h i j e;obtain⟨b,d,g⟩:=uL (f:=λi=>sA ρ[i]?) h i j e;refine⟨b,d,?_⟩;have a:sA ρ[j]? =pi b:=g;rcases c:ρ[j]? with _|z;rw[c]at a;cases a;rw[c]at a;cases z<;>first|(cases a;rfl)|(cases a;done)
section
variable{ad:Ad}{C:SK.Ctx}{tn:Str}{F:Fn}{A:Nat}{ms:L1 (Str×Nat×FM)}{e:Expr}{g:FL}
def E6(L:DidX X ad C tn F A ms P c q k)(h:M7 tn A ms C e=pi (cap,fb)){σ:St}{ρ sl:Rho}(T:TD (TbL P q) L0 (X.pn++cc))(I:Inv X (L0++cc) σ H s)(hG:Same G H)(hS:SL X.K ad G H ρ σ)(hcd:Dj cap ρ=pi sl)(ei:cap[i']? =pi i)(z1:sl[i']? =pi (.rk A r))(es:σ[i]? =pi (pi (.ref p0)))(hR:RackIn X.K ad A G H p0 r dx d l1 l2)(hu: ∀(j C:Nat) r',sl[j]? =pi (.rk C r')->j=i')(hr:RMK X.K ad A G H p0 dx d l1 l2 (dM F (fb sl)) Q E):
  X.wp (eval e X.env) (EPL X (TbL P q) cc σ Q) X.xe s:=by
 unfold M7 at h;split at h;rename_i x p l cp;split at h;rename_i g;obtain⟨rfl,ag⟩:=g;have g:=zBd h;clear h;obtain⟨⟨ps,a1,sc⟩,h0,h⟩:=g;obtain⟨lp,rfl⟩:=HH h0;simp only at h;split at h;rename_i hp;rw[aw]at hp;obtain⟨ab,y⟩:=hp;cases Dw ab;have g:=zBd h;clear h;obtain⟨a0,b,h⟩:=g;obtain⟨a2,as,h⟩:=zMd h;cases h;obtain⟨ft,fd,dn,t1,t2,t3,t4⟩:=L.told;have hC:mr s.heap c P:=by
  obtain⟨o,S,v,tf,t,tg,an,U,tt,z,r⟩:=L.hC;exact⟨o,S,v,tf,t,tg,an,U,tt,(I.bs _ _ z).1,r⟩
 have hB:s.heap.BuiltinsAt X.mg P:=by
  obtain⟨bm,o,b1,b2,b3,b4,b5,r⟩:=L.hB;exact⟨bm,o,b1,b2,b3,b4,(I.bs _ _ b5).1,r⟩
 refine Dk (k:=k) (F:=F) (cap:=cap) (dn:=dn) (fd:=fd) (ad:=ad) (ds:=sl) (Φ:=λG H Q E=>RMK X.K ad A G H p0 dx d l1 l2 (fb sl) Q E) (tb:=λY=>tFR Y ad A p0 dx d l1 l2 fb) L.O.fn (L.O.cx.gk _ ag) t1 L.tdb t2 t3 L.room t4 L.ex rfl L.ql (λx g=>?_) L.code hC hB (sD y).1 (λ_ _ _ _=>rfl) (fS b) (λi x hi=>?_) (λa cd cl A' ap s H E hr=>?_) T I hG hS hcd (λY S G1 H1 Q1 E1 Z am ar st1 u al ak=>?_) (Lm (HL hr));obtain⟨j,z⟩:=oY b x (oZ g);exact L.O.cx.cap x j z;obtain⟨j,z,e2⟩:=uL b i x hi;refine⟨j,z,?_,L.O.cx.cap x j e2⟩;rw[L.O.cx.N];exact gG (fB e2).1;exact HK (cU (ad:=ad) 50).1 (P9 L.B L.TB L.FB y hr) L.RC (λm n M hm=>let ⟨no,f,r,fd,ps,h1,h2,h3,h4⟩:=L.MO m n M hm;⟨no,f,r,fd,ps,h2,h3,hr.mono h1,h4⟩) as;have lv:(S.map pi).length=sl.length:=u.len.symm;obtain⟨v0,ev⟩: ∃v0,S[i']? =pi v0:=by
  have J:i'<sl.length:=(ay.mp z1).1;rw[<-lv,aq]at J;exact⟨S[i'],bd J⟩
 have e0:=al i' i v0 ei ev;rw[es]at e0;cases e0;exact⟨G1,sl,(λc H'=>E1 (.ref (ad.cls c)) qw H'),r,i',ar,by rw[Z];exact u,vS am,z1,by rw[ji,ev];rfl,by rw[Z];exact hR.step st1,hu,by rw[Z];exact ak⟩;cases h;cases h;cases h
def wQ(L:DidX X ad C tn F A ms P c q k)(h:Ba tn F A ms C e=pi g):LPE X (TbL P q) e (tF0 X ad A p0 dx d l1 l2 g):=by have o:=zBd h;clear h;obtain⟨⟨i,fb⟩,h,l⟩:=o;simp only at l;split at l;rename_i b;rw[aw,decide_eq_true_eq]at b;cases l;rintro Z Y s W H Q T I ⟨G,w,E,r,y,v,o,x,B,S,K,f⟩;unfold uN at f;rcases a:Dj i w with _|sl;rw[a]at f;exact f.elim;rw[a]at f;obtain⟨n,m⟩: ∃n,i[n]? =pi 0:=List.mem_iff_getElem?.mp (by simpa using b.1);obtain⟨O,U,p⟩:=Lx a n 0 m;rw[x]at p;cases p;refine E6 L h T I y v a m U B S (λj z N J=>?_) f;obtain⟨u,M,t⟩:=Lw a j _ J;have:=K u z N t;subst this;exact A9 b.2 M m;cases l
def rdT(tn:Str)(F:Fn)(A:Nat)(ms:L1 (Str×Nat×FM))(C:SK.Ctx)(e:Expr):L7 (Nat×FM):=(M7 tn A ms C e).bind λ(cap,g)=>match cap with
 |[i]=>pi (i,λr _=>dM F (g [.rk A r]))
 |_=>qw
def Ly(L:DidX X ad C tn F A ms P c q k)(h:rdT tn F A ms C e=pi (i,M)):LPE X (TbL P q) e (nD X ad A i M []):=by
 have o:=zBd h;clear h;obtain⟨⟨W,fb⟩,h,b⟩:=o;simp only at b;split at b;cases b;rintro cc L0 s σ H Q T I ⟨G,ρ,E,r,w,U,d,u,x,hG,n,o,f,O,p,S,N,l,_,_,B⟩;obtain⟨Z,Y,g,rq,J,v⟩:=(show AK X.K ad p H (.ok []) _ N from B) [] p H (Step.refl l) aJ.nil;have a:i<ρ.length:=by rw[n.len];exact(ay.mp f).1
 have m:=n.step g;have t:=O.step g;refine E6 L h (ρ:=ρ.set i (.rk A r)) (sl:=[.rk A r]) (i':=0) T I g.gh ⟨by rw[lg];exact m.len,λj sl e=>?_⟩ (by simp[Dj,eM,sA,a]) rfl rfl f t (λj C' r' y=>?_) v;by_cases z:i=j;subst z;rw[bj a]at e;cases e;exact⟨_,f,w,U,d,u,x,rfl,t⟩;rw[bc z]at e;exact m.at_ j sl e;rcases j with _|j;rfl;cases y;cases b
end
def Lz:Stmt->L7 Expr
 |.Return v _=>v
 |_=>qw
noncomputable def M8:Stmt->L7 (Expr×L1 Stmt×L1 Stmt)
 |.If c a b _=>pi (c,a,b)
 |_=>qw
def dSs(tn:Str)(F:Fn)(A:Nat)(ms:L1 (Str×Nat×FM))(C:SK.Ctx):L1 Stmt->L7 FL
 |[]=>qw
 |s::dO=>match dO with
  |[]=>(Lz s).bind λe=>Ba tn F A ms C e
  |_::_=>(M8 s).bind λ(c,a,b)=>if b.isEmpty then(Ka a).bind λs1=>(Lz s1).bind λe=>(bT 50 C c).bind λf=>(Ba tn F A ms C e).bind λg=>(dSs tn F A ms C dO).map λh=>ifM f g h else qw
def Bb(h:Lz s=pi e): ∃p,s= .Return (pi e) p:=by cases s<;>first|(cases h;exact⟨_,rfl⟩)|(cases h;done)
def Bc(h:M8 s=pi (c,a,b)): ∃p,s= .If c a b p:=by cases s<;>first|(cases h;exact⟨_,rfl⟩)|(cases h;done)
section
variable{X:Cx}{ad:Ad}{C:SK.Ctx}{tn q:Str}{F:Fn}{A:Nat}{ms:L1 (Str×Nat×FM)}{P c:Addr}{k:Nat}{e:Expr}{g:FL}{p0 dx d l1 l2:Addr}{t:TE}
theorem E7(L:DidX X ad C tn F A ms P c q k): ∀{sts} {g},dSs tn F A ms C sts=pi g->sX X (TbL P q) sts λD σ H=>tF0 X ad A p0 dx d l1 l2 g σ H D.rt
 |[],_,h=>by cases h
 |[s],g,h=>by
  have i:=zBd (show(Lz s).bind (λe=>Ba tn F A ms C e)=pi g from h);obtain⟨e,w,x⟩:=i;obtain⟨z,rfl⟩:=Bb w;exact jM (u:=Cb) (A2 (wQ L x)) (pG lG)
 |s::s2::dO,g,h=>by
  have i:=zBd (show(M8 s).bind (λ(c,a,b)=>if b.isEmpty then(Ka a).bind λI=>(Lz I).bind λe=>(bT 50 C c).bind λf=>(Ba tn F A ms C e).bind λg=>(dSs tn F A ms C (s2::dO)).map λh=>ifM f g h else qw)=pi g from h);clear h;obtain⟨⟨cd,a,b⟩,w,h⟩:=i;obtain⟨z,rfl⟩:=Bc w;simp only at h;split at h;rename_i U;cases ko.mp U;have i:=zBd h;clear h;obtain⟨I,x,h⟩:=i;cases Di x;have i:=zBd h;clear h;obtain⟨e,W,h⟩:=i;obtain⟨rp,rfl⟩:=Bb W;have i:=zBd h;clear h;obtain⟨f,h4,h⟩:=i;have i:=zBd h;clear h;obtain⟨g1,h5,h⟩:=i;obtain⟨Y,h6,rfl⟩:=zMd h;have ih:=E7 L h6;refine sX.imp (jM (Lj ((cU (ad:=ad) 50).1 X C _ f L.O.cx h4).2.1 (jM (u:=Cb) (A2 (wQ (p0:=p0) (dx:=dx) (d:=d) (l1:=l1) (l2:=l2) L h5)) (pG lG)) (pG lG)) ih) λD σ H Z=>?_;obtain⟨G,o,E,r,B,t,i,Q,N,T,J,j⟩:=Z;unfold ifM at j;rcases m:f o with y|ys|c|_;rw[m]at j;cases y<;>try exact ba j
  rename_i p;refine⟨G,o,E,B,t,i,.inl ⟨p,m⟩,?_⟩;rw[m];intro v S H1 n M;unfold Rep at M;subst M;refine⟨p,rfl,?_⟩;have l:RMK X.K ad A G H p0 dx d l1 l2 (if p=qz then g1 o else Y o) D.rt E:=j;cases p;rw[if_neg bf]at l;exact B3 ⟨S,o,E,r,n.gh,t.step n,i,Q,N,T.step n,J,RMK.step l n⟩;rw[if_pos rfl]at l;exact y9 ⟨S,o,E,r,n.gh,t.step n,i,Q,N,T.step n,J,RMK.step l n⟩;rw[m]at j;exact j.elim;rw[m]at j;refine⟨G,o,E,B,t,i,.inr ⟨c,m⟩,?_⟩;rw[m];exact j;rw[m]at j;exact j.elim;cases h
end
def HM(A N:Nat)(g:FL):FM:=λr ds=>g (.rk A r::(ds.map Slot.sh++ao (N-(ds.length+1)) .no))
section
variable{ad:Ad}{tab:L1 (Str×SK.Gl)}{F:Fn}{A:Nat}{ms:L1 (Str×Nat×FM)}{kV:Value}
def LA(B:ExcK X.K ad)(TB:dX X.prog X.w X.K X.mg X.base ad k tab)(FB:gI X.prog X.w X.K X.mg X.base ad k fns)(RC:RkC X.K A)(MO: ∀m n M,ms.lookup m=pi (n,M)->(m≠"held"/\m≠"done"/\m≠"undone")/\∃f r fd ps,r<=k/\Meth X.K A m f/\FnOk X.prog X.w X.K X.mg X.base (CXe X.prog X.w) r f fd ps (spM X.K ad A n M)/\eA X.K fd ps [])(told: ∃ft fd dn,X.mg tn=pi (.ref ft)/\mh X.K (.ref ft)=qz/\mM X.prog X.w X.K X.mg X.base ad (k+1) ft fd dn F/\∀s u,X.K.In s.heap->BindsTo s fd ⟨[u],[]⟩ [(dn,u)])(tdb:(tn==gV)=q7)(hC:mr X.base c P0)(hB:X.base.BuiltinsAt X.mg P0)(hbP:X.base.get? P0=qw)(lk:X.K.lookup fa=pi ⟨oc,od,.func (oy name qual params body sc dV kV doc pm an (.ref c) ct),osl⟩)(hcd:mi X.K (.ref c) qual=qz)(hs:bP (aA sc) (self::prs) sc=qz)(hd:dSs tn F A ms ⟨tab,fns,sc,aA sc,[]⟩ body=pi g):
  HI X ad A prs.length P0 ((envOfC qual sc 0 fa (.ref c)).qual++"<lambda>") (k+3) fa (oy name qual params body sc dV kV doc pm an (.ref c) ct) (self::prs) (HM A (aA sc).length g):=by
 intro p a s G H p0 dx d l1 l2 r b i us args L0 pl Q v e0 l Z x y q C N T I;have S:=(cM hs).1;have h:Room (k+2) (p.deeper (envOfC qual sc s.z fa (.ref c))):=v.deeper _;have L:DidX (cxP [P0] (jU (CXe X.prog X.w) X.prog X.w X.K X.mg X.base (aA sc) qual sc fa (.ref c) p a s H λ_ _ _=>False)) ad ⟨tab,fns,sc,aA sc,[]⟩ tn F A ms P0 c ((envOfC qual sc 0 fa (.ref c)).qual++"<lambda>") k:=
  ⟨(pF B TB FB hs (h.mono (by lia))).P,B,TB,FB,RC,MO,told,tdb,h,.head _,rfl,rfl,hC,hB⟩
 have t:i.length=prs.length:=by rw[q.length,C]
 refine Dy (k:=k+2) lk hcd S v e0 l (by rw[bq,bq,t]) Z N T hbP (E7 (p0:=p0) (dx:=dx) (d:=d) (l1:=l1) (l2:=l2) L hd) ?_;have S0:=iC (X:=cxP [P0] (jU (CXe X.prog X.w) X.prog X.w X.K X.mg X.base (aA sc) qual sc fa (.ref c) p a s H λ_ _ _=>False)) (ad:=ad) (n:=(aA sc).length-(b.length+1)) x q;have o:L2.start (aA sc) (V.ref p0::i)=pi (V.ref p0)::(i.map pi++ao ((aA sc).length-(b.length+1)) qw):=by
  unfold L2.start;rw[bq,q.length];rfl
 rw[o];have S1:SL X.K ad G H (b.map SK.Slot.sh++ao ((aA sc).length-(b.length+1)) SK.Slot.no) (i.map pi++ao ((aA sc).length-(b.length+1)) qw):=S0.sl;refine⟨G,SK.Slot.rk A r::(b.map SK.Slot.sh++ao ((aA sc).length-(b.length+1)) SK.Slot.no),λ_ _=>False,r,x,SL.cons (s:=.rk A r) (ov:=pi (.ref p0)) S1 ⟨p0,dx,d,l1,l2,rfl,y⟩,?_,rfl,rfl,y,λj J U O=>?_,I⟩;exact λcc H s e s' _ Y=>by
  obtain⟨_,_,_,_,_,_,_,_,_,_,_,_,_,_,_,_,z⟩:=Y;exact z.elim
 rcases j with _|j;rfl;have E:(b.map Slot.sh++ao ((aA sc).length-(b.length+1)) Slot.no)[j]? =pi (.rk J U):=O;have m:=List.mem_of_getElem? E;rcases k6.mp m with m|m;obtain⟨d',_,z⟩:=au.mp m;cases z;cases (List.mem_replicate.mp m).2
end
section
variable{K:Frag}{ad:Ad}{q1:Str}{st:Stmt}{F:Fn}
def Dz(Fu:Fun K x0 qual st f fd)(hb: ∃cp xp ep ap hp' rq np dp rp tp,defBody st=[k9 t.dn t.en t.x t.cx cp xp ep ap hp' rq np dp rp tp])(hs:(On st).map (Om t)=pi qz)(hmx:mg t.x=pi (.ref fa))(hkx:mh K (.ref fa)=qz)(hfx:FnOkQ P w K mg base (CXe P w) kf fa fdx [q1] (xT K ad 1 F))(hbx:eA K fdx [q1] [])(hkf:kf<=k)(hmc:mg t.cx=pi (.ref (ad.cls 0)))(B:ExcK K ad):mM P w K mg base ad k f fd t.dn F:=by
 obtain⟨oc,od,kV,L,pm,an,ab,ct,r,rfl,lk,m⟩:=Fu.ex;cases st with
 |FunctionDef nm as b dl re tp i ts bi O=>
  obtain⟨cp,xp,ep,ap,hp',rq,np,dp,rp,u,hb⟩:=hb;cases (show b=_ from hb);have h:Om t i=qz:=ku hs;unfold Om at h;simp only[aw,jp]at h;obtain⟨⟨⟨⟨⟨⟨⟨J,y⟩,T⟩,Y⟩,q⟩,U⟩,v⟩,M⟩:=h;have d:aA i=[t.dn,t.en]:=by simpa using y
  obtain⟨S,c⟩:=cM J;intro A l s G H a Φ Q E args z Z j n _ _ g I C;have p:t.dn∈aA i:=by rw[d];simp
  have o:t.en∈aA i:=by rw[d];simp
  exact A3 (N:=aA i) lk m S (by rw[d];rfl) (by rw[d];rfl) (bV T) (bV Y) (c _ p).1 (c _ p).2 (c _ o).1 (c _ o).2 hmx v hkx hfx hbx hkf hmc M B.exm (λX e=>by show X.env.scope.names.lookup _=_;rw[e];exact bV q) (λX e=>by show X.env.scope.names.lookup _=_;rw[e];exact bV U) z Z j n g I C
 |_=>cases hs
end
abbrev LMS(X:Cx)(Δ:Pl->Prop)(ad:Ad)(Z:(St->Nat->Hp->Prop)->Prop)(st:Stmt)(g:FS):Prop:=LPS X Δ st (tS X ad Z g)
abbrev HN(X:Cx)(Δ:Pl->Prop)(ad:Ad)(Z:(St->Nat->Hp->Prop)->Prop)(st:L1 Stmt)(g:FS):Prop:=sX X Δ st (tS X ad Z g)
section
variable{ad:Ad}{tg:Expr}{st:Stmt}
def E8(a:MS X ad Z st g):LMS X Δ ad Z st g:=Li a
def DA:HN X Δ ad Z [] aX:=pG oW
def Bd(h1:LMS X Δ ad Z st g)(h2:HN X Δ ad Z sts h):HN X Δ ad Z (st::sts) (aY g h):=by refine sX.imp (jM h1 h2) ?_;rintro o p H ⟨d,G,f,E,S,i,a⟩;refine⟨d,G,f,E,S,i,?_⟩;unfold aY at a;rcases e:g f with b|r|b|b|⟨c,b⟩;rw[e]at a;exact λm j n l=>⟨d,j,b,E,l,i,a⟩;rw[e]at a;cases r<;>exact a;rw[e]at a;exact a;rw[e]at a;exact a;rw[e]at a;exact a
def HP(hp:PassesOwn (model X.prog X.w) X.A X.env X.xe)(hc:X.calm=qz)(hN:X.N.Nodup)(hi:MIG X ad tg it f)(ht:cF tg=pi (xs,k))(hn:NmsOk X xs is)(hb:HN X Δ ad Z body g)(hs: ∀x,foldedSetIterable it X.env x=pure x):LMS X Δ ad Z (.For tg it body [] pos) (tU is (k==0) f g):=by obtain⟨p,hk⟩:=CM hc hN ht hn;refine LPS.imp (Hi hp hc hi p hb hs) ?_;rintro q n H ⟨h,G,j,E,S,l,a⟩;refine⟨G,j,E n,S.st.gh,S.sl,l.1 n,?_⟩;unfold tU fN at a;rcases e:f j with d|xs|c|_;rw[e]at a;have b:OKo X ad h (match kH d with|some m=>fU (q8 is (k==0)) g m j|none=>.rt .bad) q E:=a;rcases i:kH d with _|m;rw[i]at b;exact b.elim;rw[i]at b;exact⟨m,i,λJ r s st it=>k8 hk (S.step st) l it b⟩;rw[e]at a;exact λJ r s st it=>k8 hk (S.step st) l it a;rw[e]at a;exact λo t st=>a n o t (S.step st);rw[e]at a;exact a
def DB(hu:X.A.units+62<cLine)(ha:LPE X Δ a (nD X ad A i M fs))(hb:ME X ad b ge)(hm:behindInMarks op b=q7):LPT X Δ (.Compare a [op] [b] pos) (tTx X ad Z (uK A i M fs op ge)):=by
 intro m L s f H Q T I h;have d:=Lr h;unfold tOp at d;refine wpAny_isTrue_Compare1 (L2.thn (ha m L s f H _ T I d) λv K ⟨q,p,x,G,r,t,w⟩=>L2.thn (hb _ K f G _ r w) λu o ⟨y,n,C,l,E⟩=>
  L2.thn (HF hu _ o f n x y v u _ C t l E) λc N ⟨z,J,g,j,k,e,B⟩=>?_) hm
 subst e;cases j;exact wpAny_truthy_bool ⟨q,p,J,g,B⟩
def DC(h:LPT X Δ e (tTx X ad Z c)):LPW X Δ (.BoolOp .Or [e] pos) (tTx X ad Z c):=Hj h
def HQ(ha:LPT X Δ a (tTx X ad Z c1))(hb:LPW X Δ (.BoolOp .Or (b::r) pos) (tTx X ad Z c2)):LPW X Δ (.BoolOp .Or (a::b::r) pos) (tTx X ad Z (cOr c1 c2)):=by rintro m j L s p H Q T I ⟨d,G,l,f,E,k,S,g,n,i⟩;refine Ll ha hb m j L s p H Q T I ?_;refine⟨d,G,l,f,E,λb c=>if b then k qz c else c2 c k,S,g,n,λb c e o h ok=>?_⟩;cases b;exact B3 ⟨d,e,c,f,E,k,h,g,ok,i⟩;exact y9 (i qz c e o h ok)
def HS(hc:LPT X Δ e (tTx X ad Z c))(ha:HN X Δ ad Z sa gs)(hb:HN X Δ ad Z sb hs):LMS X Δ ad Z (.If e sa sb pos) (B8 c gs hs):=by refine LPS.imp (Hk hc ha hb) ?_;rintro i n H ⟨a,G,j,E,S,f,l⟩;refine⟨a,G,j,i,E,λb d=>if b then gs d else hs d,S,f,l,λb d h m g ok=>?_⟩;cases b;exact B3 ⟨a,h,d,E,g,f,ok⟩;exact y9 ⟨a,h,d,E,g,f,ok⟩
end
def yC(A i:Nat)(f g:F):FS:=λρ=>fN ρ (g ρ) λy=>match(ρ[i]? :L7 Slot)with
 |some (.rk C r)=>if C=A then fN ρ (f ρ) (λz=>match z with
  |.str q=>if r.held.length<LIM then .nx (ρ.set i (.rk A {r with held:=fY r.held q y}))else .rt .bad
  |_=>.rt .bad)else .rt .bad
 |_=>.rt .bad
noncomputable def LB(ρ:Rho)(j A:Nat):RR->Out
 |.rk r=>.nx (ρ.set j (.rk A r))
 |.ex c=>.ex c ρ
 |.bad=>.rt .bad
def M9(j A:Nat)(M:FR)(fs:L1 F):FS:=λρ=>match args fs ρ with
 |.ok ds=>LB ρ j A (M ds)
 |.ex c=>.ex c ρ
 |.bad=>.rt .bad
def Jh(X:Cx)(ad:Ad)(A:Nat)(M:FR)(fs:L1 F):TE:=λσ H Q=>∃G E,XP X ad σ E/\tA X ad fs σ H (λvs H1=>∃ds G1,Step G H G1 H1/\aJ X.K ad G1 ds vs/\ds.length=fs.length/\RRK X.K ad A G1 H1 (M ds) Q E)
section
variable{X:Cx}{ad:Ad}{Z:(St->Nat->Hp->Prop)->Prop}{A i j:Nat}{M:FM}{N:FR}{f:F}{fs:L1 F}{e:Expr}
theorem StepR.at(gh:Same G H)(gb:G b=qw)(hb:b∈foot)(hn:H b≠qw):StepR foot G H G (upd H b o):=by refine⟨Same.refl _,λc u e=>?_,λc u a e=>?_,λc d f=>absurd d f,λc a=>?_⟩;rw[aC (λz=>by rw[z,gb]at e;cases e)];exact gh c u e;rw[aC (λz=>a (by rw[z];exact hb))];exact e;by_cases z:c=b;rw[z,aH];exact λy=>nomatch y;rw[aC z];exact a
def HU(hu:X.A.units+62<cLine)(RC:RkC X.K A)(hV:kT X i x)(hk:ME X ad k f)(hw:ME X ad v g)(hs:swapsWith v (pi (.Subscript (.Attribute (.Name x np) "held" qp) k kp)) pos.line X.env=pure q7):
  MS X ad Z (.Assign [.Subscript (.Attribute (.Name x np) "held" qp) k kp] v pos) (yC A i f g):=by
 refine PS.imp (zM (by omega) (gT (bQ hV) rfl) hk hw hs) ?_;rintro s U H ⟨e,G,j,E,S,t,Q⟩;refine f8 S t Q λw y G1 H1 st1 o a=>?_;have n:=S.step st1;cases m:(j[i]? :L7 Slot)with
 |none=>rw[m]at a;exact a.elim
 |some sl=>
  rw[m]at a;rcases sl with _|_|_|_|_|⟨C,r⟩;exact a.elim;exact a.elim;exact a.elim;exact a.elim;exact a.elim;have c:OKo X ad e (if C=A then fN j (f j) (λz=>match z with
   |.str q=>if r.held.length<LIM then .nx (j.set i (.rk A {r with held:=fY r.held q y}))else .rt .bad
   |_=>.rt .bad)else .rt .bad) s E:=a
  by_cases h:C=A;rw[if_pos h]at c;subst h;obtain⟨p0,dx,d,W,l2,p,N⟩:=n.sl.rk m;refine g0 RC N p (fd:="held") rfl RC.n1 ?_;refine f8 n t c λu z T Y st2 J I=>?_;have M:=n.step st2;cases z with
  |str q=>
   unfold Rep at J;subst J;have b:=N.step st2;obtain⟨kvs,B,L⟩:=b.held;have O:kvs.length=r.held.length:=(ng L).symm;have l:OKo X ad e (if r.held.length<LIM then .nx (j.set i (.rk C {r with held:=fY r.held q y}))else .rt .bad) s E:=I;by_cases h:r.held.length<LIM;rw[if_pos h]at l;refine⟨d,_,rfl,F8.k (k:=qt q) B (by rw[O];exact bg h (by decide)),?_⟩;exact l U T _ (M.updR m p b (StepR.at M.st.gh b.gd (by simp) (by rw[B];exact λz=>nomatch z)) (b.dict (v5 L (o.mono st2.sg) q)) (.inl rfl));rw[if_neg h]at l;exact l.elim
  |_=>exact I.elim
  rw[if_neg h]at c;exact c.elim
def RRK.impE(h:RRK X.K ad A G H m Q E)(k: ∀c H',E c H'->E' c H'):RRK X.K ad A G H m Q E':=by rcases m with r|c|_;exact h;exact λa H' b=>k c H' (h a H' b);exact h
def Op(T:CT X tn (spR X.K ad A n N))(hg:L2.Gl X tn)(hdb:(tn==gV)=q7)(ha:MA X ad (a::es) fs)(hn:fs.length=n)(hst:starEach (a::es) X.env=(q7,eval a X.env)::starEach es X.env)(hany:(backTo cp (starEach es X.env)).any (·.1)=q7):
  PE X (.Call (.Name tn p) (a::es) [] cp) (Jh X ad A N fs):=by
 rintro x s u H Q I ⟨G,E,h,w⟩;obtain⟨L,k,M,prs,C,hk,m,l,d⟩:=T;refine wpAny_Call_Name_kw (eT I hg C ?_ hdb);refine i0 (h₀:=X.base) I.ok.mod.kin hk (L2.thn (ha cp _ s u H _ I w) λO j t=>?_) hst hany;obtain⟨vs,i,b,f,o,v,q,B,g,r⟩:=t;exact⟨b.kIn,l6 (vs:=vs) (E:=xk ad E) m l d b f ⟨v,o,q.gh,B,g.trans hn,r.impE λc J e=>⟨c,rfl,e⟩⟩ λe z y=>h x i j e z b y⟩
def LC(O:StOk X ad C)(he:PE X e (Jh X ad A N fs))(hj:loc C y=pi j)(hs:swapsWith e (pi (.Name y p)) pos.line X.env=pure q7):MS X ad Z (.Assign [.Name y p] e pos) (M9 j A N fs):=by have nm:=O.nm hj;refine PS.imp (nE O.cx.nd nm.1 nm.2.1 he hs nm.2.2) ?_;rintro x g H ⟨h,G,m,E,S,t,f⟩;refine⟨G,E g,t.1 g,G,m,E g,S.st.gh,S.sl,t.1 g,?_⟩;unfold M9 at f;rcases i:args fs m with s|c|_;rw[i]at f;intro K l v st z;have u:=S.step st;refine⟨s,l,st,z,fR i,?_⟩;have a:OKo X ad h (LB m j A (N s)) x E:=f;rcases q:N s with r|c|_;rw[q]at a;intro p L d I J n o b B w;exact a _ n o (u.setR2 b B w);rw[q]at a;exact λn o b=>a g n o (u.step b);rw[q]at a;exact a.elim;rw[i]at f;exact λl v st=>f g l v (S.step st);rw[i]at f;exact f.elim
def LD(MK:MkOk X ad A)(hg:L2.Gl X z)(hm:X.mg z=pi (.ref A))(hdb:(z==gV)=q7):PE X (.Call (.Name z np) [] [] cp) (Jh X ad A (λ_=>.rk rk0) []):=by
 obtain⟨f,k',fd,W,M,F,B,w⟩:=MK.ok;rintro u s q H Q I ⟨G,E,Z,U,Y,E0,y,a2,a3,i⟩;refine Cg (E:=λ_ _ _=>False) M F B hg hm w .nil (λu q H s e s' I h=>by obtain⟨_,_,_,_,_,_,_,_,_,_,_,_,_,_,z⟩:=h;exact z.elim) hdb u s q H Q I ?_;obtain⟨ds,t,J,_,_,i⟩:=i [] U H (Step.refl y) aJ.nil;intro p g np d j;have gh:=J.gh;refine⟨p,g,t,rfl,gh.trans ((Same.upd_new d).trans (Same.upd_new (by rw[aC (qu j)];exact np))),gh.free np,gh.free d,j,aH,by rw[aC j,aH],λC x K m O S N T hk=>⟨rfl,?_⟩⟩;have back: ∀{c:Addr},upd (upd H g (.own p)) p (.ins A g []) c=qw->H c=qw:=λ{c} h=>by
  by_cases z:c=p;rw[z];exact np;by_cases n:c=g;rw[n];exact d;rw[aC z,aC n]at h;exact h
 have r:Same H m:=λb o e=>hk b o (aO e np) (by rw[aC (aO e np),aC (aO e d)];exact e);exact i p g C x K t m ⟨Same.refl _,gh.trans r,r,λb v L=>absurd v L⟩ T λa l=>by
  simp only[av,kh,or_false]at l;rcases l with z|z|z|z|z;rw[z];exact np;rw[z];exact d;rw[z];exact back O;rw[z];exact back S;rw[z];exact back N
def iP(i j A:Nat)(M:FR)(fs:L1 F)(e:F):FS:=λρ=>match args fs ρ with
 |.ok ds=>(match M ds with
  |.rk r=>fN ρ (e ρ) λd=>.nx ((ρ.set i (.rk A r)).set j (.sh d))
  |.ex c=>.ex c ρ
  |.bad=>.rt .bad)
 |.ex c=>.ex c ρ
 |.bad=>.rt .bad
def Be{D'}{G₀ G H}{ρ}{σ}{E}{Q':V->V->Hp->Prop}(S:SS X ad G₀ G H ρ σ)(hx:XA X ad Z E)(hr:OKo X ad G₀ (iP i j A N fs f ρ) D' E)(k: ∀ρ1 u v G2 H2,SS X ad G₀ G2 H2 ρ1 ((σ.set i (pi u)).set j (pi v))->OKo X ad G₀ (.nx ρ1) D' E->Q' u v H2):Jh X ad A N fs σ H λu H1=>tE X ad f σ H1 λv H2=>Q' u v H2:=by refine⟨G,E σ,hx.1 σ,G,ρ,E σ,S.st.gh,S.sl,hx.1 σ,?_⟩;unfold iP at hr;rcases b:args fs ρ with o|c|_;rw[b]at hr;intro C e H1 st w;have g:=S.step st;refine⟨o,e,st,w,fR b,?_⟩;simp only at hr;rcases h:N o with r|c|_;rw[h]at hr;intro p I d y B m n a x s;refine f8 (g.step a) hx hr λv z G2 H2 l q t=>?_;exact k _ _ _ _ _ (((g.setR2 a x s).step l).set q) t;rw[h]at hr;exact λm n a=>hr σ m n (g.step a);rw[h]at hr;exact hr.elim;rw[b]at hr;exact λe H1 st=>hr σ e H1 (S.step st);rw[b]at hr;exact hr.elim
def DD{kt k2}(O:StOk X ad C)(he:PE X e (Jh X ad A N fs))(ha:ME X ad a f)(se:gN e)(sa:gN a)(hi:loc C x=pi i)(hj:loc C y=pi j)(ok:xS C x y px py e a=qz\/lU C x y=qz):
  MS X ad Z (.Assign [.Tuple [.Name x px,.Name y py] kt pt] (.Tuple [e,a] k2 pt2) pos) (iP i j A N fs f):=by
 have B:PA X [e,a] _:=cJ he (cJ ha eP (aK sa)) (aK se);rcases ok with ok|ok
 .unfold xS at ok;simp only[aw,jp]at ok;obtain⟨⟨⟨⟨⟨⟨⟨W,o2⟩,o3⟩,o4⟩,Q⟩,o6⟩,_⟩,_⟩:=ok
  have w:X.env.scope.names.lookup x=pi .local:=by rw[O.sc];exact bV W
  have J:X.env.scope.names.lookup y=pi .local:=by rw[O.sc];exact bV o2
  have g:x≠y:=by simpa using o3
  have nx:=(O.cx.vis x i hi).1;have q:=(O.cx.vis y j hj).1;have o:i≠j:=λz=>by subst z;rw[nx]at q;exact g (ku q)
  rintro cc s K H r I ⟨d,G,T,E,S,l,m⟩;refine Eb O.cx.calm O.cx.nd nx q o w J B (mK I.ok.kind w J g (by simpa using o4) se sa Q o6) rfl cc s K H r I ?_
  exact Be S l m λp u v n U h k=>⟨u,v,rfl,k _ n _ h⟩
 .have c:eM (λx=>loc C x) [x,y]=pi [i,j]:=by simp[eM,hi,hj]
  obtain⟨P,_⟩:=CM (tg:=.Tuple [.Name x px,.Name y py] kt pt) (xs:=[x,y]) (k:=2) O.cx.calm O.cx.nd rfl (O.nms c);refine PS.imp (yU (Ed B) P rfl (kN (by rw[O.sc];simpa[lU]using ok)) rfl) ?_
  rintro r K H ⟨d,G,T,E,S,l,m⟩;refine Be S l m λp u v n U h k=>?_
  refine⟨show 2<=sizeLine by decide,λt L=>?_⟩
  exact⟨t,[u,v],rfl,SqT.of aH,rfl,vQ rfl (k _ n _ (h.step ⟨Same.refl _,h.st.gh.trans (Same.upd_new L),Same.upd_new L,λb M Y=>absurd M Y⟩))⟩
end
section
variable{ad:Ad}
def DE(he:LPE X Δ e te)(hs:swapsWith e qw pos.line X.env=pure q7):LPS X Δ (.Expr e pos) λD σ H=>te σ H λ_ H1=>D.nx σ H1:=by intro a L s σ H D T I h;refine wpAny_Expr_any (L2.thn (he a L s σ H _ T I h) λu g f=>?_) I.quiet hs;obtain⟨c,b,v,H1,d,_,q⟩:=f;exact⟨c,b,σ,H1,d,q⟩
def HV(he:LPE X Δ e (nD X ad A i M fs))(hs:swapsWith e qw pos.line X.env=pure q7):LMS X Δ ad Z (.Expr e pos) (EW A i M fs):=by refine LPS.imp (DE he hs) ?_;rintro l g H ⟨a,G,m,E,S,f,j⟩;exact EY S f j λv y c d h b n k=>k g c d b
end
structure MRd where
 A:Nat
 i:Nat
 M:FM
 fs:List F
def HW(C:SK.Ctx)(e:Expr):L7 MRd:=(rkc C).bind λ(A,ms)=>(wM e).bind λc=>(cH c.o).bind λ(x,_)=>(loc C x).bind λi=>(ms.lookup c.m).bind λ(n,M)=>if c.as.length<20 then(eM (bT 50 C) c.as).bind λfs=>if fs.length=n then pi ⟨A,i,M,fs⟩ else qw else qw
def wT(h:rkc C=pi (A,ms)):C.tab.lookup ("Rack":Str)=pi (SK.Gl.cls A ms):=by unfold rkc at h;split at h;rename_i e;cases h;exact e;cases h
def Pj(e:Expr):L7 Str:=match e with
 |.Call f as kws _=>if as.isEmpty&&kws.isEmpty then(cH f).map (·.1)else qw
 |_=>qw
def Na(st:Stmt):L7 (Expr×Expr):=match st with
 |.Assign ts e _=>(one ts).map λt=>(t,e)
 |_=>qw
def uO{st}(h:Na st=pi (t,e)): ∃p,st= .Assign [t] e p:=by unfold Na at h;split at h;obtain⟨c,a,b⟩:=zMd h;cases cE a;cases b;exact⟨_,rfl⟩;cases h
structure GCl where
 g:Str
 gp:Pos
 x:Str
 xp:Pos
 as:List Expr
 cp:Pos
def Oq(e:Expr):L7 GCl:=match e with
 |.Call f as kws cp=>if kws.isEmpty then(cH f).bind λ(g,gp)=>(match as with
  |[]=>qw
  |a::r=>(cH a).map λ(x,xp)=>⟨g,gp,x,xp,r,cp⟩)else qw
 |_=>qw
def HX(h:Oq e=pi c):e= .Call (.Name c.g c.gp) (.Name c.x c.xp::c.as) [] c.cp:=by unfold Oq at h;split at h;split at h;rename_i hk;cases ko.mp hk;have d:=zBd h;clear h;obtain⟨⟨g,gp⟩,a,h⟩:=d;cases bB a;simp only at h;split at h;cases h;obtain⟨⟨x,xp⟩,b,rfl⟩:=zMd h;cases bB b;rfl;cases h;cases h
abbrev GMs:=L1 (Str×Nat×FM)
def rdG(gms:GMs)(A:Nat)(C:SK.Ctx)(e:Expr):L7 MRd:=(Oq e).bind λc=>(gms.lookup c.g).bind λ(n,M)=>if C.sc.names.lookup c.g=pi .globalImplicit then(loc C c.x).bind λi=>(eM (bT 50 C) c.as).bind λfs=>if fs.length=n then pi ⟨A,i,M,fs⟩ else qw else qw
noncomputable def vOr:Expr->L7 (L1 Expr)
 |.BoolOp op es _=>(match op with|.Or=>pi es|_=>qw)
 |_=>qw
def LE(h:vOr e=pi es): ∃p,e= .BoolOp .Or es p:=by unfold vOr at h;split at h;split at h;cases h;exact⟨_,rfl⟩;cases h;cases h
def HY(gms:GMs)(tn:Str)(F:Fn)(A:Nat)(ms:GMs)(C:SK.Ctx)(e:Expr):L7 MRd:=match rdG gms A C e with
 |some r=>pi r
 |none=>(match rdT tn F A ms C e with
  |some (i,M)=>pi ⟨A,i,M,[]⟩
  |none=>HW C e)
def HZ:Expr->L7 (Expr×CmpOp×Expr)
 |.Compare a ops cs _=>(match ops with
  |[op]=>(one cs).map λb=>(a,op,b)
  |_=>qw)
 |_=>qw
def DF(h:HZ e=pi (a,op,b)): ∃p,e= .Compare a [op] [b] p:=by unfold HZ at h;split at h;split at h;obtain⟨f,c,d⟩:=zMd h;cases d;cases cE c;exact⟨_,rfl⟩;cases h;cases h
def cP(rd:Expr->L7 MRd)(C:SK.Ctx)(e:Expr):L7 FC:=(HZ e).bind λ(a,op,b)=>(rd a).bind λr=>(bT 50 C b).map λg=>uK r.A r.i r.M r.fs op g
def cT(rd:Expr->L7 MRd)(C:SK.Ctx)(e:Expr):L7 FC:=match cP rd C e with
 |some c=>pi c
 |none=>(bT 50 C e).map pH
def orT(rd:Expr->L7 MRd)(C:SK.Ctx):L1 Expr->L7 FC
 |[]=>qw
 |[a]=>cT rd C a
 |a::b::r=>(cT rd C a).bind λc1=>(orT rd C (b::r)).map λc2=>cOr c1 c2
structure KRd where
 A:Nat
 M:FR
 fs:List F
def Nb(C:SK.Ctx)(e:Expr):L7 KRd:=match e with
 |.Call f as kws _=>if kws.isEmpty then(cH f).bind λ(x,_)=>if as.isEmpty then(if x=("Rack":Str)/\C.sc.names.lookup x=pi .globalImplicit then(rkc C).map λ(A,_)=>⟨A,λ_=>.rk rk0,[]⟩ else qw)else(match glo C x with
  |some (.rmk A n M)=>(eM (bT 50 C) as).bind λfs=>if fs.length=n then pi ⟨A,M,fs⟩ else qw
  |_=>qw)else qw
 |_=>qw
def Bf:Expr->Bool
 |.Call _ _ _ _=>qz
 |_=>q7
def sF(h:Bf e=qz): ∃a b c d,e= .Call a b c d:=by
 cases e with
 |Call a b c d=>exact⟨_,_,_,_,rfl⟩
 |_=>cases h
def vEx:Stmt->L7 Expr
 |.Expr e _=>pi e
 |_=>qw
def LF{st}(h:vEx st=pi e): ∃p,st= .Expr e p:=by cases st<;>first|(cases h;exact⟨_,rfl⟩)|(cases h;done)
def Os(C:SK.Ctx)(st:Stmt):L7 FS:=(Na st).bind λ(t,e)=>(Jb t).bind λ(es,_)=>(MX es e).bind λq=>(Nb C q.a).bind λr=>(loc C q.x).bind λi=>(loc C q.y).bind λj=>(bT 50 C q.b).bind λf=>if xS C q.x q.y q.px q.py q.a q.b=qz\/lU C q.x q.y=qz then pi (iP i j r.A r.M r.fs f)else qw
def Ot(C:SK.Ctx)(rd:Expr->L7 MRd)(st:Stmt):L7 FS:=(vEx st).bind λe=>if Bf e then(rd e).map λr=>EW r.A r.i r.M r.fs else qw
mutual
def gS:Nat->(Expr->L7 MRd)->SK.Ctx->Stmt->L7 FS
 |0,_,_,_=>qw
 |n+1,rd,C,st=>match Os C st with
  |some g=>pi g
  |none=>match Ot C rd st with
   |some g=>pi g
   |none=>match M8 st with
    |some (c,a,b)=>(match vOr c with
     |some es=>orT rd C es
     |none=>cT rd C c).bind λt=>(gSs n rd C a).bind λg=>(gSs n rd C b).map λh=>B8 t g h
    |none=>match st with
     |.For tg it b [] _=>(cF tg).bind λ(xs,k)=>(Cq 50 C q7 it).bind λf=>(eM (λx=>loc C x) xs).bind λis=>if(cH it).isNone then(gSs n rd C b).map λg=>tU is (k==0) f g else qw
     |st=>B7 50 qz C st
def gSs:Nat->(Expr->L7 MRd)->SK.Ctx->L1 Stmt->L7 FS
 |0,_,_,_=>qw
 |n+1,rd,C,l=>match l with
  |[]=>pi aX
  |st::r=>(gS n rd C st).bind λg=>(gSs n rd C r).map λh=>aY g h
end
structure LawG(X:Cx)(ad:Ad)(C:SK.Ctx)(Δ:Pl->Prop)(rd:Expr->Option MRd):Prop where
 O:StOk X ad C
 pass:PassesOwn (model X.prog X.w) X.A X.env X.xe
 made: ∀A ms,C.tab.lookup ("Rack":Str)=pi (SK.Gl.cls A ms)->MkOk X ad A
 rd: ∀e r,rd e=pi r->LPE X Δ e (nD X ad r.A r.i r.M r.fs)
section
variable{X:Cx}{ad:Ad}{C:SK.Ctx}{Δ:Pl->Prop}{rd:Expr->L7 MRd}{e:Expr}{Z:(St->Nat->Hp->Prop)->Prop}
def DG(O:StOk X ad C)(h:HW C e=pi r):PE X e (nD X ad r.A r.i r.M r.fs):=by
 unfold HW at h;have b:=zBd h;clear h;obtain⟨⟨A,H⟩,y,h⟩:=b;have b:=zBd h;clear h;obtain⟨c,j,h⟩:=b;have b:=zBd h;clear h;obtain⟨⟨x,p⟩,v,h⟩:=b;obtain⟨rfl,s⟩:=mO j;clear j;obtain⟨o,m,I,J,K⟩:=c;have g:cH o=pi (x,p):=v;cases bB g;have b:=zBd h;clear h;obtain⟨i,q,h⟩:=b;have b:=zBd h;clear h;obtain⟨⟨w,M⟩,G,h⟩:=b;simp only at h;split at h;rename_i d;obtain⟨fs,l,h⟩:=zBd h;split at h;rename_i z;cases h;obtain⟨_,n,E⟩:=(O.cx.gt _ _ (wT y)).2;have t:=O.cx.vis x i q;obtain⟨B,f⟩:=nB (cU (ad:=ad) 50).1 O.cx l;exact EX n (E m w M G) t B z (λa r e=>by
  subst e;exact⟨aK (f a (.head _)),gH λe u=>f e (.tail _ u)⟩) (fS l).symm (pE f d) s
 cases h;cases h
def Id(L:LawG X ad C Δ rd)(h:cT rd C e=pi c):LPT X Δ e (tTx X ad Z c):=by unfold cT at h;split at h;rename_i o j;cases h;have m:=zBd j;clear j;obtain⟨⟨a,n,b⟩,d,h⟩:=m;obtain⟨r,l,h⟩:=zBd h;obtain⟨g,i,rfl⟩:=zMd h;obtain⟨p,rfl⟩:=DF d;exact DB L.O.cx.un (L.rd _ _ l) ((cU (ad:=ad) 50).1 X C _ _ L.O.cx i).1 (e9 (aL i).2.1);obtain⟨f,d,rfl⟩:=zMd h;exact Lk (Dv ((cU (ad:=ad) 50).1 X C _ _ L.O.cx d).2.1)
theorem E9(L:LawG X ad C Δ rd){pos}: ∀{es} {c},orT rd C es=pi c->LPW X Δ (.BoolOp .Or es pos) (tTx X ad Z c)
 |[],c,h=>by cases h
 |[a],c,h=>DC (Id L h)
 |a::b::r,c,h=>by
  unfold orT at h;obtain⟨g,d,h⟩:=zBd h;obtain⟨f,e,rfl⟩:=zMd h;exact HQ (Id L d) (E9 L e)
def Bg(O:StOk X ad C)(mk: ∀A ms,C.tab.lookup ("Rack":Str)=pi (SK.Gl.cls A ms)->MkOk X ad A)(h:Nb C e=pi r):PE X e (Jh X ad r.A r.M r.fs)/\∃a b c d,e= .Call a b c d:=by unfold Nb at h;split at h;rename_i f B t J;refine⟨?_,_,_,_,_,rfl⟩;split at h;rename_i i;cases eG i;have j:=zBd h;clear h;obtain⟨⟨x,p⟩,s,h⟩:=j;cases bB s;simp only at h;split at h;rename_i I;cases eG I;split at h;rename_i i;obtain⟨rfl,m⟩:=i;have j:=zMd h;clear h;obtain⟨⟨A,ms⟩,q,rfl⟩:=j;obtain⟨w,g,_,_⟩:=O.cx.gt _ _ (wT q);exact LD (mk A ms (wT q)) (O.cx.gk _ m) g w;cases h;rename_i l;split at h;rename_i A n M m;obtain⟨fs,E,h⟩:=zBd h;split at h;rename_i H;cases h;obtain⟨G,y,v⟩:=O.cx.gl m;rcases B with _|⟨a,dO⟩;exact absurd rfl l;obtain⟨u,o⟩:=nB (cU (ad:=ad) 50).1 O.cx E;exact Op v G y u H (aK (o a (.head _))) (gH λe z=>o e (.tail _ z));cases h;cases h;cases h;cases h
def Ie(O:StOk X ad C)(mk: ∀A ms,C.tab.lookup ("Rack":Str)=pi (SK.Gl.cls A ms)->MkOk X ad A){st}(h:Os C st=pi g):MS X ad Z st g:=by unfold Os at h;have l:=zBd h;clear h;obtain⟨⟨t,e⟩,n,h⟩:=l;have l:=zBd h;clear h;obtain⟨⟨G,k,E⟩,z,h⟩:=l;have l:=zBd h;clear h;obtain⟨q,o,h⟩:=l;have l:=zBd h;clear h;obtain⟨r,B,h⟩:=l;obtain⟨i,p,h⟩:=zBd h;obtain⟨j,s,h⟩:=zBd h;obtain⟨f,m,h⟩:=zBd h;split at h;rename_i w;cases h;obtain⟨u,rfl⟩:=uO n;cases AR z;obtain⟨H,v,rfl,rfl⟩:=AZ o;obtain⟨y,x⟩:=Bg O mk B;exact DD O y (((cU (ad:=ad) 50).1 X C _ _ O.cx m).1) (by obtain⟨a,b,c,d,e⟩:=x;rw[e];trivial) (aL m).1 p s w;cases h
def Ig(L:LawG X ad C Δ rd){st}(h:Ot C rd st=pi g):LMS X Δ ad Z st g:=by unfold Ot at h;have l:=zBd h;clear h;obtain⟨e,f,h⟩:=l;obtain⟨p,rfl⟩:=LF f;split at h;rename_i j;obtain⟨r,i,rfl⟩:=zMd h;obtain⟨a,b,c,d,rfl⟩:=sF j;exact HV (L.rd _ _ i) rfl;cases h
theorem LG{E₀}(L:LawG X ad C Δ rd): ∀n,(∀st g,gS n rd C st=pi g->LMS X Δ ad (Zt ad E₀ qz) st g)/\∀l g,gSs n rd C l=pi g->HN X Δ ad (Zt ad E₀ qz) l g
 |0=>⟨(λ_ _ h=>by cases h),(λ_ _ h=>by cases h)⟩
 |n+1=>by
  obtain⟨y,d⟩:=LG (E₀:=E₀) L n;obtain⟨N,J,G⟩:=cU (ad:=ad) 50;refine⟨λst g h=>?_,λl g h=>?_⟩;unfold gS at h;split at h;rename_i H r;cases h;exact E8 (Ie L.O L.made r);split at h;rename_i H r;cases h;exact Ig L r;split at h;rename_i c a b u;obtain⟨q,rfl⟩:=Bc u;obtain⟨t,e,h⟩:=zBd h;obtain⟨s,i,h⟩:=zBd h;obtain⟨j,o,rfl⟩:=zMd h;refine HS ?_ (d _ s i) (d _ j o);split at e;rename_i M B;obtain⟨p,rfl⟩:=LE B;exact(E9 L e).pt;exact Id L e;split at h;rename_i tg v b q _ _ _;have A:=zBd h;clear h;obtain⟨⟨Q,m⟩,e,h⟩:=A;obtain⟨f,i,h⟩:=zBd h;obtain⟨K,o,h⟩:=zBd h;have w: ∀a b c,v≠ .Set a b c:=λa b c z=>by subst z;exact jL i
  split at h;rename_i u;obtain⟨j,I,rfl⟩:=zMd h;have E: ∀x p,v≠ .Name x p:=De (ef.mp u);exact HP L.pass L.O.cx.calm L.O.cx.nd ((G X C tg _ q7 f L.O.cx (λz=>nomatch z) i).2 rfl E) e (L.O.nms o) (d _ j I) (Aj w);cases h;exact E8 ((mL (ad:=ad) (E₀:=E₀) 50).1 X C qz _ g L.O (λz=>nomatch z) h);unfold gSs at h;split at h;cases h;exact DA;obtain⟨s,e,h⟩:=zBd h;obtain⟨j,i,rfl⟩:=zMd h;exact Bd (y _ s e) (d _ j i)
end
def wN(C:SK.Ctx)(y:Str)(e:Expr):L7 FS:=(loc C y).bind λj=>(Nb C e).map λr=>M9 j r.A r.M r.fs
def wH(C:SK.Ctx)(o k e:Expr):L7 FS:=if Bf e then(rkc C).bind λ(A,_)=>(atF C "held" o).bind λi=>(bT 50 C k).bind λf=>(bT 50 C e).map λg=>yC A i f g else qw
def wA(C:SK.Ctx)(st:Stmt):L7 FS:=(Na st).bind λ(t,e)=>match t with
 |.Name y _=>wN C y e
 |.Subscript o k _=>wH C o k e
 |_=>qw
mutual
def wS:Nat->SK.Ctx->Stmt->L7 FS
 |0,_,_=>qw
 |n+1,C,s=>match wA C s with
  |some g=>pi g
  |none=>match s with
   |.If c a b _=>(bT 50 C c).bind λf=>(wSs n C a).bind λg=>(wSs n C b).map λh=>sIf f g h
   |.For tg it b els _=>if els.isEmpty then(cF tg).bind λ(xs,k)=>(Cq 50 C q7 it).bind λf=>(eM (λx=>loc C x) xs).bind λis=>if(cH it).isNone then(wSs n C b).map λg=>tU is (k==0) f g else qw else qw
   |s=>B7 50 q7 C s
def wSs:Nat->SK.Ctx->L1 Stmt->L7 FS
 |0,_,_=>qw
 |n+1,C,ss=>match ss with
  |[]=>pi aX
  |[a]=>wS n C a
  |a::r=>(wS n C a).bind λf=>(wSs n C r).map λg=>aY f g
end
def Ih:Stmt->L7 Str
 |.Return v _=>v.bind λe=>(cH e).map (·.1)
 |_=>qw
def wR:Nat->SK.Ctx->L1 Stmt->L7 (FS×Nat)
 |0,_,_=>qw
 |n+1,C,ss=>match ss with
  |[]=>qw
  |[a]=>(Ih a).bind λx=>(loc C x).map λi=>(aX,i)
  |a::r=>(wS n C a).bind λf=>(wR n C r).map λ(g,i)=>(aY f g,i)
structure WOk(X:Cx)(ad:Ad)(C:SK.Ctx)(E₀:XK):Prop where
 O:StOk X ad C
 MK: ∀A ms,C.tab.lookup ("Rack":Str)=pi (SK.Gl.cls A ms)->MkOk X ad A
 dx:DefX X E₀
 po:PassesOwn (model X.prog X.w) X.A X.env X.xe
def DH{st}(h:Ih st=pi x): ∃p q,st= .Return (pi (.Name x p)) q:=by unfold Ih at h;split at h;obtain⟨e,a,h⟩:=zBd h;obtain⟨⟨y,p⟩,b,rfl⟩:=zMd h;cases bB b;cases a;exact⟨_,_,rfl⟩;cases h
section
variable{X:Cx}{ad:Ad}{C:SK.Ctx}{E₀:XK}{e:Expr}{st:Stmt}{g:FS}
def Ou(W:WOk X ad C E₀)(h:wA C st=pi g):MS X ad (Zt ad E₀ q7) st g:=by have O:=W.O;have u:=(cU (ad:=ad) 50).1;unfold wA at h;have m:=zBd h;clear h;obtain⟨⟨t,e⟩,s,h⟩:=m;simp only at h;split at h;rename_i y p;obtain⟨n,rfl⟩:=uO s;unfold wN at h;obtain⟨j,l,h⟩:=zBd h;obtain⟨r,H,rfl⟩:=zMd h;obtain⟨z,a,b,c,d,rfl⟩:=Bg O W.MK H;exact LC O z l rfl;rename_i o k Q;obtain⟨n,rfl⟩:=uO s;unfold wH at h;split at h;rename_i K;have m:=zBd h;clear h;obtain⟨⟨A,N⟩,l,h⟩:=m;obtain⟨i,w,h⟩:=zBd h;obtain⟨f,v,h⟩:=zBd h;obtain⟨E,M,rfl⟩:=zMd h;obtain⟨x,p,q,rfl,J⟩:=iO w;have I:=O.cx.vis x i J;obtain⟨_,_,G,_⟩:=O.cx.gt _ _ (wT l);have B:=(u X C _ f O.cx v).1;have L:=(u X C _ E O.cx M).1;obtain⟨a,b,c,d,rfl⟩:=sF K;exact HU O.cx.un G I B L rfl;cases h;cases h
def LH(W:WOk X ad C E₀): ∀n,(∀st g,wS n C st=pi g->MS X ad (Zt ad E₀ q7) st g)/\(∀ss g,wSs n C ss=pi g->MSs X ad (Zt ad E₀ q7) ss g):=by
 have O:=W.O;have E:=(cU (ad:=ad) 50).1;have B:=(cU (ad:=ad) 50).2.2;have kD: ∀st g,B7 50 q7 C st=pi g->MS X ad (Zt ad E₀ q7) st g:=λst g h=>(mL (ad:=ad) (E₀:=E₀) 50).1 X C q7 _ g O (λ_=>⟨W.dx,W.po⟩) h;intro n;induction n with
 |zero=>
  refine⟨λst g h=>?_,λss g h=>?_⟩;unfold wS at h;cases h;unfold wSs at h;cases h
 |succ n H=>
  obtain⟨q,d⟩:=H;refine⟨λst g h=>?_,λss g h=>?_⟩;unfold wS at h;split at h;rename_i L G;cases h;exact Ou W G;split at h;obtain⟨f,i,h⟩:=zBd h;obtain⟨r,e,h⟩:=zBd h;obtain⟨l,o,rfl⟩:=zMd h;exact GA (E X C _ f O.cx i).2.1 (d _ r e) (d _ l o);rename_i tg s b y A _;split at h;rename_i j;cases eG j;have u:=zBd h;clear h;obtain⟨⟨K,m⟩,i,h⟩:=u;obtain⟨f,e,h⟩:=zBd h;obtain⟨J,o,h⟩:=zBd h;split at h;rename_i w;obtain⟨l,I,rfl⟩:=zMd h;have v: ∀x p,s≠ .Name x p:=λx p z=>by subst z;cases w
  have t: ∀a b c,s≠ .Set a b c:=λa b c z=>by subst z;exact jL e
  exact EG W.po O.cx.calm O.cx.nd ((B X C tg _ q7 f O.cx (λz=>nomatch z) e).2 rfl v) i (O.nms o) (d _ l I) (Aj t);cases h;cases h;exact kD _ _ h;unfold wSs at h;split at h;cases h;exact oW;exact Am (q _ _ h);obtain⟨r,i,h⟩:=zBd h;obtain⟨l,e,rfl⟩:=zMd h;exact oX (q _ _ i) (d _ _ e)
def tR(X:Cx)(ad:Ad)(Z:(St->Nat->Hp->Prop)->Prop)(g:FS)(i:Nat):TS:=λD' σ H=>tS X ad Z g {D' with nx:=λσ' H'=>∃p,σ'[i]? =pi (pi (.ref p))/\D'.rt (.ref p) H'} σ H
theorem LI(W:WOk X ad C E₀): ∀n ss g i,wR n C ss=pi (g,i)->PSs X ss (tR X ad (Zt ad E₀ q7) g i)
 |0,ss,g,i,h=>by unfold wR at h;cases h
 |n+1,ss,g,i,h=>by
  unfold wR at h;split at h;cases h;obtain⟨x,m,h⟩:=zBd h;obtain⟨j,o,e⟩:=zMd h;cases e;obtain⟨p,q,rfl⟩:=DH m;have y:=W.O.cx.vis x _ o;refine oH (PS.imp (u6 (bQ y)) ?_);rintro t s H ⟨a,G,l,E,S,f,b⟩;obtain⟨z,v,B⟩:=(show OKo X ad a (.nx l) _ E from b) s G H S;exact⟨.ref z,v,B⟩;obtain⟨A,m,h⟩:=zBd h;have f:=zMd h;clear h;obtain⟨⟨K,j⟩,o,e⟩:=f;cases e;refine PSs.imp (i9 ((LH W n).1 _ _ m) (LI W n _ _ _ o)) ?_;rintro t s H ⟨a,G,l,E,S,f,b⟩;refine⟨a,G,l,E,S,f,?_⟩;unfold aY at b;rcases e:A l with d|r|d|d|⟨c,d⟩;rw[e]at b;exact λI u J w=>⟨a,u,d,E,w,f,b⟩;rw[e]at b;cases r<;>exact b;rw[e]at b;exact b;rw[e]at b;exact b;rw[e]at b;exact b
end
noncomputable def Nc(A:Nat):L7 Slot->RR
 |some (.rk C r)=>if C=A then .rk r else .bad
 |_=>.bad
def Ji(A N:Nat)(g:FS)(i:Nat):FR:=λds=>match g (ds.map Slot.sh++ao (N-ds.length) .no)with
 |.nx ρ=>Nc A ρ[i]?
 |.ex c _=>.ex c
 |_=>.bad
def rFn(tab:L1 (Str×SK.Gl))(A:Nat)(s:Stmt):L7 (Nat×FR):=match s with
 |.FunctionDef _ as b _ _ _ sc _ _ _=>(cY as).bind λP=>if bP (aA sc) P sc then(wR 100 ⟨tab,[],sc,aA sc,[]⟩ b).map λp=>(P.length,Ji A (aA sc).length p.1 p.2)else qw
 |_=>qw
def MkT(P:Program)(w:World)(K:Frag)(mg:Str->L7 Value)(base:Heap)(ad:Ad)(k:Nat)(tab:L1 (Str×SK.Gl)):Prop:= ∀A ms,tab.lookup ("Rack":Str)=pi (SK.Gl.cls A ms)->∃f r fd ps,r+1<=k/\Mk K A f/\FnOk P w K mg base (CXe P w) r f fd ps (spI K ad A)/\eA K fd ps []
section
variable{K:Frag}{ad:Ad}{tab:L1 (Str×SK.Gl)}
def Ii{st}{F}(B:ExcK K ad)(TB:dX P w K mg base ad k tab)(mk:MkT P w K mg base ad k tab)(Fu:Fun K x qual st f fd)(hps:cY (defArgs st)=pi ps)(hd:rFn tab A st=pi (n,F)):FnOk P w K mg base (CXe P w) (k+1) f fd ps (spR K ad A n F):=by
 obtain⟨oc,od,kV,am,pm,an,u,ct,al,rfl,lk,ak⟩:=Fu.ex;cases st with
 |FunctionDef nm as b dl re tp j ts bi ap=>
  have z:((cY as).bind λPs=>if bP (aA j) Ps j then(wR 100 ⟨tab,[],j,aA j,[]⟩ b).map λp=>(Ps.length,Ji A (aA j).length p.1 p.2)else qw)=pi (n,F):=hd;have L:cY as=pi ps:=hps;rw[L]at z;have q:(if bP (aA j) ps j then(wR 100 ⟨tab,[],j,aA j,[]⟩ b).map λp=>(ps.length,Ji A (aA j).length p.1 p.2)else qw)=pi (n,F):=z;by_cases Y:bP (aA j) ps j=qz;rw[if_pos Y]at q;have hx:=zMd q;clear q z;obtain⟨⟨g,i⟩,hg,e⟩:=hx;cases e;obtain⟨S,nm⟩:=cM Y;refine Ch lk ak S (λvs H Q E ⟨G,y,_,r,hl,_⟩=>by rw[r.length,hl]) λZ l s H vs Q E hr ab=>?_;obtain⟨G,y,hG,r,hl,hq⟩:=ab;let C:SK.Ctx:=⟨tab,[],j,aA j,[]⟩;have O:StOk (jU (CXe P w) P w K mg base (aA j) qual j f u Z l s H E) ad C:=pF B TB gI.nil Y hr;have T:DefX (jU (CXe P w) P w K mg base (aA j) qual j f u Z l s H E) E:=⟨rfl,rfl,rfl,λe s' h=>h⟩;have W:WOk (jU (CXe P w) P w K mg base (aA j) qual j f u Z l s H E) ad C E:=⟨O,λA ms e=>let ⟨f,r,fd,ps,M,h2,h3,h4⟩:=mk A ms e;⟨f,r,fd,ps,h2,h3,hr.mono M,h4⟩,T,ju (Q₁:=λe ag=>CXe P w l H s E e ag)⟩;refine⟨_,LI W 100 b g i hg,?_⟩;refine⟨G,G,y.map Slot.sh++ao ((aA j).length-y.length) .no,λU c t=>E (.ref (ad.cls c)) qw t,?_,⟨λU=>vS T,λ_ U c H h=>h⟩,?_⟩;have:=iC (X:=jU (CXe P w) P w K mg base (aA j) qual j f u Z l s H E) (ad:=ad) (n:=(aA j).length-y.length) hG r;unfold L2.start;rw[r.length];exact this;have m:RRK K ad A G H (match g (y.map Slot.sh++ao ((aA j).length-y.length) .no)with
   |.nx I=>Nc A I[i]?
   |.ex c _=>.ex c
   |_=>.bad) Q (λc t=>E (.ref (ad.cls c)) qw t):=hq
  cases e:g (y.map Slot.sh++ao ((aA j).length-y.length) .no)with
  |nx I=>
   rw[e]at m;intro U G' t J;have o:RRK K ad A G H (Nc A (I[i]? :L7 Slot)) Q (λc t=>E (.ref (ad.cls c)) qw t):=m;cases N:(I[i]? :L7 Slot)with
   |none=>rw[N]at o;exact o.elim
   |some sl=>
    rw[N]at o;rcases sl with _|_|_|_|_|⟨C',r1⟩;exact o.elim;exact o.elim;exact o.elim;exact o.elim;exact o.elim;have v:RRK K ad A G H (if C'=A then .rk r1 else .bad) Q (λc t=>E (.ref (ad.cls c)) qw t):=o;by_cases hc:C'=A;rw[if_pos hc]at v;subst hc;obtain⟨p0,dx,d,l1,l2,M,hR⟩:=J.sl.rk N;exact⟨p0,M,v p0 dx d l1 l2 G' t J.st hR λa ha=>J.rs.h0 i _ ⟨C',r1,p0,dx,d,l1,l2,N,M,hR.ins,rfl⟩ a ha⟩;rw[if_neg hc]at v;exact v.elim
  |bk I=>rw[e]at m;exact m.elim
  |ct I=>rw[e]at m;exact m.elim
  |ex c I=>rw[e]at m;exact λU G' t J=>m G' t J.st
  |rt r'=>rw[e]at m;exact m.elim
  rw[if_neg Y]at q;cases q
 |_=>cases hd
end
section
variable{P:Program}{w:World}{K:Frag}{mg:Str->L7 Value}{base h:Heap}{ad:Ad}{k:Nat}{tab:L1 (Str×SK.Gl)}{fns:L1 (Nat×Fn)}
theorem PQ.rfn(T:PQ P w K mg base h ad k tab fns)(x:Str)(st:Stmt)(f:Addr)(self:Str)(M:FM){A:Addr}{ms:L1 (Str×Nat×FM)}{oc:Value}{od an:L7 Addr}{osl:Array (L7 Value)}{kV doc pm cdv ct:Value}(l:K.lookup f=pi ⟨oc,od,.func (oy x x (defArgs st) (defBody st) (defScope st) .none kV doc pm an cdv ct),osl⟩)
  (hl:tab.lookup ("Rack":Str)=pi (SK.Gl.cls A ms)) (d:HE tab A ms st=pi (0,M):=by kernel_rfl) (c:codeIn K cdv x=qz:=by kernel_rfl) (kp:keepIn K (.ref f)=qz:=by kernel_rfl) (hm:nsIn K mainGlobals x=pi (pi (.ref f)):=by kernel_rfl)
  (hdb:(x==gV)=q7:=by decide) (hps:cY (defArgs st)=pi [self]:=by rfl) (nd:[self].Nodup:=by decide):
  PQ P w K mg base h ad (k+1) ((x,.rfn A M)::tab) fns:=by
 have F:=kB (st:=st) l c kp;obtain⟨g,b,a⟩:=(T.t "Rack" _ hl).2;exact⟨dX.cons (T.t.mono (pj k)) hdb ⟨f,k+1,_,_,aj _,n8 T.X T.G hm,kp,A6 (k:=k) T.B T.t b a F hps d,F.binds λ_ _ _ _ _ _ e hl=>gJ hps nd hl⟩,T.u.mono (pj k),T.X,T.G,T.B⟩
theorem PQ.rmk(T:PQ P w K mg base h ad k tab fns)(mk:MkT P w K mg base ad k tab)(x:Str)(st:Stmt)(f:Addr)(ps:L1 Str)(n A:Nat)(M:FR){oc:Value}{od an:L7 Addr}{osl:Array (L7 Value)}{kV doc pm cdv ct:Value}(l:K.lookup f=pi ⟨oc,od,.func (oy x x (defArgs st) (defBody st) (defScope st) .none kV doc pm an cdv ct),osl⟩)
  (d:rFn tab A st=pi (n,M):=by kernel_rfl) (c:codeIn K cdv x=qz:=by kernel_rfl) (kp:keepIn K (.ref f)=qz:=by kernel_rfl) (hm:nsIn K mainGlobals x=pi (pi (.ref f)):=by kernel_rfl)
  (hdb:(x==gV)=q7:=by decide) (hps:cY (defArgs st)=pi ps:=by rfl) (nd:ps.Nodup:=by decide):
  PQ P w K mg base h ad (k+1) ((x,.rmk A n M)::tab) fns:=by
 have F:=kB (st:=st) l c kp;exact⟨dX.cons (T.t.mono (pj k)) hdb ⟨f,k+1,_,_,aj _,n8 T.X T.G hm,kp,Ii (k:=k) T.B T.t mk F hps d,F.binds λ_ _ _ _ _ _ b a=>gJ hps nd a⟩,T.u.mono (pj k),T.X,T.G,T.B⟩
end
noncomputable def LJ(H:Hp)(Ps:L1 Addr):Hp:=λb=>if b∈Ps then pi (.lst [])else H b
def sH(h:LJ H Ps b=qw):H b=qw/\b∉Ps:=by unfold LJ at h;by_cases e:b∈Ps;rw[if_pos e]at h;cases h;rw[if_neg e]at h;exact⟨h,e⟩
def Ij(h:H b=qw)(n:b∉Ps):LJ H Ps b=qw:=by unfold LJ;rw[if_neg n];exact h
noncomputable def tbs(Ps:L1 Addr):Pl:=Ps.map λP=>(P,mq #[])
def Bh{ad}(L:LawG (cxP Ps X) ad C Δ rd)(hg:gSs n rd C b=pi g)(I:Inv (cxP Ps X) [] (vs.map pi++ao m qw) H s)(hH:X.H₀=H)(hpn:X.pn=[])(hΔ:Δ (tbs Ps))(ht: ∀P∈Ps,s.heap.get? P=pi (mq #[])/\H P=qw/\P∉X.fs)(hG:Same G H)(r:aJ X.K ad G ds vs)(hm:g (ds.map SK.Slot.sh++ao m .no)= .rt (.ok (.bl qz))):
  X.wp (execs b X.env) (λf s'=>f= .ret (.bool qz)/\∃σ' H' L,Δ L/\Inv (cxP Ps X) [] σ' H' s'/\∀p∈L,s'.heap.get? p.1=pi p.2) X.xe s:=by
 have M:Inv (cxP Ps X) (tbs Ps++[]) (vs.map pi++ao m qw) H s:=I.pins_of λp c=>by
  rw[k7]at c;obtain⟨P,i,rfl⟩:=au.mp c;obtain⟨j,x,l⟩:=ht P i;exact⟨j,x,(I.ok.exf P i).1,l,λv z=>nomatch z⟩
 have T:TD Δ (tbs Ps) ((cxP Ps X).pn++[]):=⟨hΔ,λp _ r o=>by
  have e:r∈X.pn++[]:=o;rw[hpn]at e;cases e⟩
 refine L2.thn ((LG (E₀:=λ_ _ _=>False) L n).2 b g hg [] _ s _ H ⟨λ_ _=>False,λv _=>v= .bl qz,λ_ _=>False,λ_ _=>False⟩ T M ⟨G,G,ds.map SK.Slot.sh++ao m .no,λ_ _ _=>False,?_,⟨λS U H s e s' _ B=>?_,λz=>nomatch z⟩,?_⟩) λf s' a=>?_;have d:Same G (cxP Ps X).H₀:=by
  show Same G X.H₀;rw[hH];exact hG
 have:=iC (X:=cxP Ps X) (ad:=ad) (n:=m) d r;have e:(cxP Ps X).H₀=H:=hH;rwa [e]at this;obtain⟨_,_,_,_,_,_,_,_,_,_,_,_,_,_,_,_,z⟩:=B;exact z.elim;rw[hm];intro v O H' Q q;unfold Rep at q;exact q;obtain⟨N,y,a⟩:=a;cases f with
 |next=>obtain⟨_,_,_,z⟩:=a;exact z.elim
 |brk=>obtain⟨_,_,_,z⟩:=a;exact z.elim
 |cont=>obtain⟨_,_,_,z⟩:=a;exact z.elim
 |ret u=>
  obtain⟨v,σ',H',J,E,t⟩:=a;have h:v= .bl qz:=t;subst h;obtain rfl:u=p3 qz:=E;exact⟨rfl,σ',H',N,y.tb,J.pins_of (λp c=>by cases c),λp c=>(J.pin p (bt _ (g8 _ c))).1⟩
section
variable{K:Frag}{ad:Ad}{kV:Value}{cL:Nat}{CP:L1 (Addr×Addr)}
def sI(KX:K.In s₁.heap)(hns:s₁.heap.Ns mainGlobals mg)(hb:s₁.heap.Ns builtinsNs mb)(hbb: ∀x:Str,x≠"__name__"->mb x=bootBuiltins x)(hlim:s₁.heap.NoLimit)(hg:s₁.gens= #[])(lk:K.lookup fa=pi ⟨oc,od,.func (oy name qual params body scope dV kV doc pm an (.ref cL) ct),osl⟩)(hcd:mi K (.ref cL) qual=qz)(S:FnScope N [x] scope)(hbind: ∀s u,BindsTo s (oy name qual params body scope dV kV doc pm an (.ref cL) ct) ⟨[u],[]⟩ [(x,u)])(hr:Room (k+3) callerA)(hC: ∀z∈CP,mr s₁.heap z.1 z.2/\s₁.heap.BuiltinsAt mg z.2/\s₁.heap.get? z.2=pi (mq #[])/\K.lookup z.2=qw)(hΔ:Δ (tbs (CP.map (·.2))))(hΔ': ∀L,Δ L->∀P∈CP.map (·.2), ∃ps,(P,mq ps)∈L)(hO:Nz H)(hok:HOk P w H s₁.heap)(nd: ∀b o es ep,s₁.heap.get? b=pi o->o.data= .dict es ep->H b=qw)(nK: ∀b o,K.lookup b=pi o->H b=qw)(hn: ∀z∈CP,H z.1=qw/\H z.2=qw)(hbn: ∀bm o,s₁.heap.get? bm=pi o->o.data= .plain->H bm=qw)(LX: ∀base,K.In base->base.Ns mainGlobals mg->(∀z∈CP,mr base z.1 z.2/\base.BuiltinsAt mg z.2/\base.get? z.2=qw)->LawG (cxP (CP.map (·.2)) (jU (CXe P w) P w K mg base N qual scope fa (.ref cL) callerA [] s₁ H λ_ _ _=>False)) ad C Δ rd)(hread:gSs n rd C body=pi g)(hG:Same G H)(rp:aJ K ad G [d] [.ref a])(hN:N.length=m+1)(hm:g ([d].map SK.Slot.sh++ao m .no)= .rt (.ok (.bl qz))):
  codeAny (model P w) callerA (.call (.ref fa) ⟨[.ref a],[]⟩) (λr s'=>r= .ok (.ret (.bool qz))/\OldK s₁.heap s'.heap/\s'.os=s₁.os/\AllBare s'.gens) s₁:=by
 let base:=Jq s₁.heap (LJ H (CP.map (·.2)));have c: ∀{b:Addr} {o:Obj},s₁.heap.get? b=pi o->H b=qw->b∉CP.map (·.2)->base.get? b=pi o:=λe n z=>B9 e (Ij n z);have l: ∀{b:Addr} {o:Obj},s₁.heap.get? b=pi o->o≠mq #[]->b∉CP.map (·.2):=λ{b o} e z y=>by
  obtain⟨p,j,rfl⟩:=au.mp y;rw[(hC p j).2.2.1]at e;exact z (ku e).symm
 have q: ∀{b:Addr} {mm:Str->L7 Value},s₁.heap.Ns b mm->base.Ns b mm:=λ{b mm} ⟨o,es,ep,e,dd,r⟩=>⟨o,es,ep,c e (nd _ _ _ _ e dd) (l e λz=>by rw[z]at dd;cases dd),dd,r⟩;have O:K.In base:=λb o e=>c (KX b o e) (nK b o e) λz=>by
  obtain⟨p,j,rfl⟩:=au.mp z;rw[(hC p j).2.2.2]at e;cases e
 have hM:Mod K mg base:=⟨O,q hns,⟨mb,q hb,hbb⟩,let ⟨mc,h1,h2⟩:=hlim;⟨mc,q h1,h2⟩⟩;have e0:Env0 P w K mg base callerA [] s₁ H:=⟨rfl,hM,λb o e=>⟨(tF e).1,(sH (tF e).2).1⟩,Nat.le_of_eq (yQ _ _),trivial,λb hb=>absurd (show b∈([]:L1 Addr) from hb) (by simp),hok,.of_eq hg⟩;have U: ∀P∈CP.map (·.2),base.get? P=qw:=λP I=>by
  rcases e:base.get? P with _|o;rfl;exact absurd I (sH (tF e).2).2
 have L:=LX base O (q hns) λz E=>by
  obtain⟨h1,h2,h3,h4⟩:=hC z E;refine⟨?_,?_,U _ (ip E)⟩;obtain⟨o,vs,Q,tf,v,tg,al,Y,tt,A,T,M,r⟩:=h1;exact⟨o,vs,Q,tf,v,tg,al,Y,tt,c A (hn z E).1 (l A λy=>by rw[y]at M;cases M;exact absurd r.1 (by simp)),T,M,r⟩;obtain⟨bm,o,b1,b2,b3,b4,b5,b6,b7,Z⟩:=h2;exact⟨bm,o,b1,b2,b3,b4,c b5 (hbn bm o b5 Z) (l b5 λy=>by rw[y]at Z;cases Z),b6,b7,Z⟩
 let X:=jU (CXe P w) P w K mg base N qual scope fa (.ref cL) callerA [] s₁ H λ_ _ _=>False;have B: ∀y∈[(x,qh a)],scope.names.lookup y.1=pi .local\/(scope.names.lookup y.1=pi .cell/\((cellsFrom (s₁.z+1) scope.names []).lookup y.1).isSome=qz):=λy hy=>by
  rw[i3.mp hy];rcases S.par x (.head _)with z|z;exact .inl z;exact .inr ⟨z,fy _ _ _ (.inl z)⟩
 refine codeAny_call_function hr.depth (KX _ _ lk) rfl S.co S.gen rfl (ix KX hcd) (hbind _ _ _ _ _ _ ?_);refine wpAny_newFunctionEnv_cells S.kind B λap he s1 y=>?_;subst he;refine⟨hlim.keeps y.toInCall.keep,codeAny_func ?_⟩;have I0:Inv X [] (start N [.ref a]) H s1:=gU (vs:=[.ref a]) (us:=[.ref a]) (ps:=[x]) S hr.hd e0 rfl (.cons rfl .nil) y;have t: ∀b,b∉X.fs:=λb z=>absurd (show b∈([]:L1 Addr) from z) (by simp);have I1:Inv (cxP (CP.map (·.2)) X) [] (start N [.ref a]) H s1:=Ls I0 rfl (λP I=>by
  obtain⟨p,j,rfl⟩:=au.mp I;exact⟨ah (hC p j).2.2.1,U _ I,t _⟩) λz d h=>oo (y.above z d (ii h))
 have ag:start N [V.ref a]=[V.ref a].map pi++ao m qw:=by
  unfold L2.start;have e:N.length - [V.ref a].length=m:=by rw[hN];simp
  rw[e]
 rw[ag]at I1;refine wpAny_mono (Bh (X:=X) L hread I1 rfl rfl hΔ (λP I=>by
  obtain⟨p,j,rfl⟩:=au.mp I;exact⟨y.toInCall.keep _ _ (hC p j).2.2.1,(hn p j).2,t _⟩) hG rp hm) (λfl s' hs=>?_) λe s' hs=>?_
 obtain⟨rfl,am,H',L',dl,J,hL⟩:=hs;refine⟨rfl,⟨λb o e=>?_,λb o e=>?_⟩,J.os,J.bare⟩;by_cases i:b∈CP.map (·.2);obtain⟨ps,j⟩:=hΔ' L' dl b i;have ak:=hL _ j;obtain⟨z,E,rfl⟩:=au.mp i;rw[(hC z E).2.2.1]at e;cases e;obtain⟨co,vs,_,_,_,_,_,_,_,A,T,M,e4,_⟩:=(hC z E).1;exact .inr (.inl ⟨⟨z.1,co,vs,A,T,M,e4⟩,rfl, #[],ps,rfl,by rw[ak];simp[mq]⟩);refine .inl ?_;have nx:b∉(cxP (CP.map (·.2)) X).ex:=i;rcases hh:H b with _|u;exact J.base.keep b o e hh (t b) nx;rcases hO b with z|⟨ob,xs,z⟩;rw[hh]at z;cases z;have z2:=J.base.frzs b ob _ z;obtain⟨A,_⟩:=hok b _ z;obtain⟨T,_⟩:=J.hok b _ z2;rw[e]at A;cases A;exact T;by_cases i:b∈CP.map (·.2);obtain⟨ps,j⟩:=hΔ' L' dl b i;exact⟨_,hL _ j⟩;exact J.base.there b o e i;have no: ∀(e:Value) (f:Shared),CXe P w [] H s₁ (λ_ _ _=>False) e f->False:=λe f z=>by
  obtain⟨_,_,_,_,_,_,_,_,_,_,_,_,_,_,z⟩:=z;exact z
 have ab:wpAny (model P w) (callerA.deeper (envOfC qual scope s₁.z fa (.ref cL))) (leaving (envOfC qual scope s₁.z fa (.ref cL)) e) (λ_ f=>CXe P w [] H s₁ (λ_ _ _=>False) e f) (λe' f=>CXe P w [] H s₁ (λ_ _ _=>False) e' f) s':=hs;exact wpAny_mono ab (λ_ f z=>(no _ _ z).elim) λe' f z=>(no _ _ z).elim
end
def Ik{ad}(hF:FnOk X.prog X.w X.K X.mg X.base (CXe X.prog X.w) k fa fd prs (spM X.K ad A n M))(hr:Room k X.A)(hb:eA X.K fd prs [])(hg:L2.Gl X tn)(hm:X.mg tn=pi (.ref fa))(hdb:(tn==gV)=q7)(hk:mh X.K (.ref fa)=qz)(hV:kT X i x)(ha:MA X ad es fs)(hn:fs.length=n)(hst:starEach (.Name x px::es) X.env=(q7,eval (.Name x px) X.env)::starEach es X.env)(hany:(backTo cp (starEach es X.env)).any (·.1)=q7):
  PE X (.Call (.Name tn p) (.Name x px::es) [] cp) (nD X ad A i M fs):=by
 rintro cc s σ H Q I ⟨G,ρ,E,r,j,y,d,u,v,hG,hS,o,z,hR,hA⟩;refine wpAny_Call_Name_kw (eT I hg hm ?_ hdb);refine i0 (h₀:=X.base) I.ok.mod.kin hk (L2.thn (cJ (bQ hV) (ha) hst cp _ s σ H (λvs m=>∃g a b,vs= .ref j::g/\Step G H b m/\aJ X.K ad b a g/\a.length=n/\RMK X.K ad A b m j y d u v (M r a) Q E) I ?_) λus S hz=>?_) hst hany;refine⟨.ref j,z,?_⟩;obtain⟨O,h,Y,T,a2,a3,f⟩:=hA;refine⟨O,h,Y,T,a2,a3,?_⟩;rcases e:args fs h with C|c|_;rw[e]at f;intro vs b m l q;obtain⟨a,U,b1,B,b3,b4⟩:=f vs b m l q;exact⟨vs,a,U,rfl,b1,B,b3.trans hn,b4⟩;rw[e]at f;exact f;rw[e]at f;exact f;obtain⟨vs,N,t,J,g,a,b,e1,l,q,L,Z⟩:=hz;subst e1;exact⟨t.kIn,l6 (vs:=V.ref j::g) (E:=xk ad E) hF hr hb t J ⟨b,j,r,y,d,u,v,a,g,rfl,l.gh,hR.step l,q,L,Z.impE λc H' e=>⟨c,rfl,e⟩⟩ λe s' hc=>o cc N S e s' t hc⟩
def Fb(T:Top p loose mean mg mb h)(hT:h.get? P0=pi (mq #[])):h.BuiltinsAt mg P0:=by obtain⟨l,d,i,f,a,m,j,b⟩:=T.bmain;refine⟨l,d,i,f,λz=>?_,λz=>?_,a,m,j,b⟩;obtain⟨o,q,n,e,c,_⟩:=T.g;rw[<-z,a]at e;cases e;rw[b]at c;cases c;rw[z,hT]at a;cases a;cases b
section
variable{K:Frag}{ad:Ad}{kV:Value}{cL:Nat}{CP:L1 (Addr×Addr)}
def Bi(KX:K.In s₁.heap)(hns:s₁.heap.Ns mainGlobals mg)(hb:s₁.heap.Ns builtinsNs mb)(hbb: ∀x:Str,x≠"__name__"->mb x=bootBuiltins x)(hlim:s₁.heap.NoLimit)(hg:s₁.gens= #[])(ha:s₁.heap.get? a=pi {cls:=.type "list",data:=.seq vs.toArray})(hi:IntsAre vs ns)(hl:ns.length<=sizeLine)(lk:K.lookup fa=pi ⟨oc,od,.func (oy name qual params body scope dV kV doc pm an (.ref cL) ct),osl⟩)(hcd:mi K (.ref cL) qual=qz)(S:FnScope N [x] scope)(hbind: ∀s u,BindsTo s (oy name qual params body scope dV kV doc pm an (.ref cL) ct) ⟨[u],[]⟩ [(x,u)])(hr:Room (k+3) callerA)(hC: ∀z∈CP,mr s₁.heap z.1 z.2/\s₁.heap.BuiltinsAt mg z.2/\s₁.heap.get? z.2=pi (mq #[])/\K.lookup z.2=qw)(hΔ:Δ (tbs (CP.map (·.2))))(hΔ': ∀L,Δ L->∀P∈CP.map (·.2), ∃ps,(P,mq ps)∈L)(LX: ∀base H,K.In base->base.Ns mainGlobals mg->(∀z∈CP,mr base z.1 z.2/\base.BuiltinsAt mg z.2/\base.get? z.2=qw)->LawG (cxP (CP.map (·.2)) (jU (CXe P w) P w K mg base N qual scope fa (.ref cL) callerA [] s₁ H λ_ _ _=>False)) ad C Δ rd)(hread:gSs n rd C body=pi g)(hrep: ∀H,Nz H->SqL K H a (ns.map V.int)->∃G,Same G H/\aJ K ad G [d] [.ref a])(hN:N.length=m+1)(hm:g ([d].map SK.Slot.sh++ao m .no)= .rt (.ok (.bl qz))):
  codeAny (model P w) callerA (.call (.ref fa) ⟨[.ref a],[]⟩) (λr s'=>r= .ok (.ret (.bool qz))/\OldK s₁.heap s'.heap/\s'.os=s₁.os/\AllBare s'.gens) s₁:=by
 have q:=qO hi;have h:=hi.length;rcases hk:K.lookup a with _|o;have i: ∀{b:Addr} {o:Obj},s₁.heap.get? b=pi o->o.data≠ .seq vs.toArray->b≠a:=λ{b o} e z y=>by
  rw[y,ha]at e;cases e;exact z rfl
 let H:Hp:=λb=>if b=a then pi (.frz {cls:=.type "list",data:=.seq vs.toArray} (.lst (ns.map V.int)))else qw
 have c: ∀{b:Addr},b≠a->H b=qw:=λz=>if_neg z;have t:Nz H:=λb=>by
  by_cases hb:b=a;exact .inr ⟨_,_,if_pos hb⟩;exact .inl (if_neg hb)
 have p:HOk P w H s₁.heap:=λb u z=>by
  by_cases hb:b=a;have f:=(if_pos hb).symm.trans z;cases f;subst hb;exact⟨ha,by rw[aq];exact hl,vs,_,q,ha⟩;have f:=(if_neg hb).symm.trans z;cases f
 obtain⟨G,l,j⟩:=hrep H t (.inl (.inr ⟨{cls:=.type "list",data:=.seq vs.toArray},if_pos rfl⟩));refine sI (H:=H) KX hns hb hbb hlim hg lk hcd S hbind hr hC hΔ hΔ' t p (λb o E J e z=>c (i e (by rw[z];exact λy=>nomatch y))) (λb o e=>c λy=>by rw[y,hk]at e;cases e) (λz v=>⟨?_,c (i (hC z v).2.2.1 λy=>nomatch y)⟩) (λM o e z=>c (i e (by rw[z];exact λy=>nomatch y))) (λbase=>LX base _) hread l j hN hm;obtain⟨o,I,_,_,_,_,_,_,_,B,_,A,_⟩:=(hC z v).1;exact c (i B (by rw[A];exact λy=>nomatch y));have e:=KX a o hk;rw[ha]at e;cases e;obtain⟨G,l,j⟩:=hrep (λ_=>qw) (λ_=>.inl rfl) (.inr ⟨_,vs.toArray,_,hk,rfl,rfl,rfl,by rw[ax,h];exact hl,by simpa using q⟩);exact sI (H:=λ_=>qw) KX hns hb hbb hlim hg lk hcd S hbind hr hC hΔ hΔ' (λ_=>.inl rfl) (λb u z=>by have f:(qw:L7 HO)=pi u:=z;cases f) (λ_ _ _ _ _ _=>rfl) (λ_ _ _=>rfl) (λ_ _=>⟨rfl,rfl⟩) (λ_ _ _ _=>rfl) (λbase=>LX base _) hread l j hN hm
end
structure LawGT(P:Program)(w:World)(K:Frag)(mg:Str->Option Value)(fa:Addr)(name did:Str)(ad:Ad)(C:SK.Ctx)(Δ:Pl->Prop)(rd:Expr->Option MRd)(g:FS)(k n m:Nat)(cL P1 c P0:Addr)(params:Arguments)(body:List Stmt)(scope:Scope):Prop where
 lk: ∃oc od dV kV doc pm an ct osl,K.lookup fa=pi ⟨oc,od,.func (oy name name params body scope dV kV doc pm an (.ref cL) ct),osl⟩/\∀(s:Shared) (u:Value),BindsTo s (oy name name params body scope dV kV doc pm an (.ref cL) ct) ⟨[u],[]⟩ [("_law_script",u)]
 cd:mi K (.ref cL) name=qz
 sc:bP (aA scope) ["_law_script"] scope=qz
 room:Room (k+3) callerA
 tab1:tabIn K name=pi (cL,P1)
 tab:tabIn K did=pi (c,P0)
 out:K.lookup P0=qw/\K.lookup P1=qw
 tb0:Δ (tbs [P1,P0])
 tb1: ∀L,Δ L->∀P∈[P1,P0], ∃ps,(P,mq ps)∈L
 lx: ∀(s₁:Shared) (base:Heap) (H:Hp),K.In base->base.Ns mainGlobals mg->(∀z∈[(cL,P1),(c,P0)],mr base z.1 z.2/\base.BuiltinsAt mg z.2/\base.get? z.2=qw)->LawG (cxP [P1,P0] (jU (CXe P w) P w K mg base (aA scope) name scope fa (.ref cL) callerA [] s₁ H λ_ _ _=>False)) ad C Δ rd
 read:gSs n rd C body=pi g
 len:(aA scope).length=m+1
 tru: ∀ns:List Int,g ([D.lst (ns.map D.int)].map SK.Slot.sh++ao m .no)= .rt (.ok (.bl qz))
def walkG{l:PySem.W.OpenLaw}{XP}{K:Params->oe}(hn:l.most=pi 63)(hdf:d.params.defaults=[])(hY: ∀w h,YP w h->(K w.params).In h)(hrec: ∃e,(recsOf q).find? (λe=>e.name==did)=pi e)(hrec1: ∃e,(recsOf q).find? (λe=>e.name==d.name)=pi e)(F: ∀w mg fa h,(K w.params).In h->h.Ns mainGlobals mg->mg d.name=pi (.ref fa)->∃ad C Δ rd g k n m cL P1 c P0 params body scope,LawGT l.prog w (K w.params) mg fa d.name did ad C Δ rd g k n m cL P1 c P0 params body scope):
  PySem.W.WalkO q loose XP YP l.row.toRowW d [] (λf vs=>PySem.call f vs):=by
 refine Att.attach_call hn hdf λw E t mg mb fa o pm cd X a vs B G Y ho hd Z A r i j U=>?_;have u:=hY w _ Y;obtain⟨ad,C,Δ,rd,g,k,n,m,cL,P1,c,P0,params,body,scope,L⟩:=F w mg fa _ u G.T.g A;obtain⟨e,S⟩:=hrec;obtain⟨hC,I⟩:=tab_of G.T u S L.tab;obtain⟨e1,x⟩:=hrec1;obtain⟨y,s⟩:=tab_of G.T u x L.tab1;obtain⟨oc,od,dV,kV,J,Q,an,ct,N,lk,M⟩:=L.lk;refine Bi (d:=.lst (B.map D.int)) u G.T.g G.T.b G.T.builtins G.T.nolimit U r i (om j (by decide)) lk L.cd (cM L.sc).1 M L.room (CP:=[(cL,P1),(c,P0)]) (λz v=>by
  rcases av.mp v with rfl|v;exact⟨y,Fb G.T s,s,L.out.2⟩;rw[i3.mp v];exact⟨hC,Fb G.T I,I,L.out.1⟩) L.tb0 L.tb1 (λp H=>L.lx t p H) L.read (λH _ O=>⟨H,Same.refl _,aJ.cons (by unfold Rep;exact⟨a,_,rfl,O,aJ.map_int⟩) aJ.nil⟩) L.len (L.tru B)
def LL{q1 q0}(h:P1≠P0):Two (TbL P1 q1) (TbL P0 q0) (tbs [P1,P0]):=
 ⟨[(P1,mq #[])],[(P0,mq #[])],rfl,⟨#[],[],rfl,E4⟩,⟨#[],[],rfl,E4⟩,λp b r a=>by rw[i3.mp b,i3.mp a];exact h.symm⟩
def LM{q1 q0}L(h:Two (TbL P1 q1) (TbL P0 q0) L)P(hP:P∈[P1,P0]): ∃ps,(P,mq ps)∈L:=by obtain⟨d,M2,rfl,⟨ps,c,rfl,_⟩,⟨a,b,rfl,_⟩,_⟩:=h;rcases av.mp hP with rfl|hP;exact⟨ps,.head _⟩;rw[i3.mp hP];exact⟨a,bt _ (.head _)⟩
section
variable{K:Frag}{ad:Ad}{tab:L1 (Str×SK.Gl)}{F:Fn}{ms:GMs}
def Il(B:ExcK K ad)(TB:dX P w K mg base ad k tab)(FB:gI P w K mg base ad k fns)(hs:bP (aA sc) [x] sc=qz)(hr:Room (k+4) callerA)(hms:tab.lookup ("Rack":Str)=pi (SK.Gl.cls A ms))(mk: ∀A ms,tab.lookup ("Rack":Str)=pi (SK.Gl.cls A ms)->∃f r fd ps,r<=k/\Mk K A f/\FnOk P w K mg base (CXe P w) r f fd ps (spI K ad A)/\eA K fd ps [])(hD:HI (cxP [P1,P0] (jU (CXe P w) P w K mg base (aA sc) qual sc fa (.ref cL) callerA [] s₁ H λ_ _ _=>False)) ad A nd P0 q (k+3) fa1 fd1 prs1 Md)(nx: ∀r ds c,Md r ds≠ .pure (.ex c))(hm1:mg dn=pi (.ref fa1))(hdb1:(dn==gV)=q7)(hk1:mh K (.ref fa1)=qz)(hb1: ∀s us,K.In s.heap->us.length=nd+1->BindsTo s fd1 ⟨us,[]⟩ (prs1.zip us))(hA:FnOk P w K mg base (CXe P w) r2 fa2 fd2 prs2 (spM K ad A na Ma))(h2:r2<=k+3)(hb2:eA K fd2 prs2 [])(hm2:mg an=pi (.ref fa2))(hdb2:(an==gV)=q7)(hk2:mh K (.ref fa2)=qz)(told: ∃ft fd dn,mg tn=pi (.ref ft)/\mh K (.ref ft)=qz/\mM P w K mg base ad (k+1) ft fd dn F/\∀s u,K.In s.heap->BindsTo s fd ⟨[u],[]⟩ [(dn,u)])(tdb:(tn==gV)=q7)(hC:mr base cL P1)(hB:base.BuiltinsAt mg P1):
  LawG (cxP [P1,P0] (jU (CXe P w) P w K mg base (aA sc) qual sc fa (.ref cL) callerA [] s₁ H λ_ _ _=>False)) ad ⟨tab,fns,sc,aA sc,bs⟩ (Two (TbL P1 ((envOfC qual sc s₁.z fa (.ref cL)).qual++"<lambda>")) (TbL P0 q)) (HY [(dn,nd,Md),(an,na,Ma)] tn F A ms ⟨tab,fns,sc,aA sc,bs⟩):=by
 have a:Room (k+3) (callerA.deeper (envOfC qual sc s₁.z fa (.ref cL))):=hr.deeper _;have O:StOk (cxP [P1,P0] (jU (CXe P w) P w K mg base (aA sc) qual sc fa (.ref cL) callerA [] s₁ H λ_ _ _=>False)) ad ⟨tab,fns,sc,aA sc,bs⟩:=(pF B TB FB hs (a.mono (by lia))).P;have G:=(TB _ _ hms).2;refine⟨O,ju (Q₁:=λe p=>CXe P w [] H s₁ (λ_ _ _=>False) e p),λA ms e=>let ⟨f,r,fd,ps,y,h2,m,t⟩:=mk A ms e;⟨f,r,fd,ps,h2,m,a.mono (by lia),t⟩,λe r j=>?_⟩;unfold HY at j;split at j;rename_i L v;cases j;unfold rdG at v;have d:=zBd v;clear v;obtain⟨c,y,h⟩:=d;rw[HX y];have d:=zBd h;clear h;obtain⟨⟨n,M⟩,b,h⟩:=d;simp only at h;split at h;rename_i l;have d:=zBd h;clear h;obtain⟨i,m,h⟩:=d;have d:=zBd h;clear h;obtain⟨fs,t,h⟩:=d;split at h;rename_i I;cases h;obtain⟨C,z⟩:=nB (cU (ad:=ad) 50).1 O.cx t;have E:=O.cx.vis _ i m;have gl:=O.cx.gk _ l;rw[ke]at b;rcases e:c.g==dn with _|_;rw[e,ke]at b;rcases o:c.g==an with _|_;rw[o]at b;cases b;rw[o]at b;cases b;rw[eq_of_beq o]at gl ⊢;exact ER (Ik hA (a.mono h2) hb2 gl hm2 hdb2 hk2 E C I rfl (gH z));rw[e]at b;cases b;rw[eq_of_beq e]at gl ⊢;exact(HJ hD a nx gl hm1 hdb1 hk1 hb1 (.tail _ (.head _)) ⟨rfl,rfl⟩ E C I rfl (gH z)).snd;cases h;cases h;split at j;rename_i i M J;cases j;exact(Ly ⟨O,B,TB,FB,G.2.1,G.2.2,told,tdb,a.mono (by lia),.head _,rfl,rfl,hC,hB⟩ J).fst;exact ER (DG O j)
end
def aG(h:a ρ= .nx ρ'):aY a b ρ=b ρ':=by simp[aY,h]
def dA(h:a ρ= .rt r):aY a b ρ= .rt r:=by simp[aY,h]
def dR(h:e ρ= .ok d):gL i e ρ= .nx (ρ.set i (.sh d)):=by simp[gL,h,fN]
def Bj(h:e ρ= .ow d):gL i e ρ= .nx (ρ.set i (.sh (.lst d))):=by simp[gL,h,fN]
def pI(h:e ρ= .ow d):xP i e ρ= .nx (ρ.set i (.ow d)):=by simp[xP,h]
def f9(h:e ρ= .ok (.tup ds))(l:ds.length=is.length):eU is e ρ= .nx (setN is ds ρ):=by simp[eU,h,fN,l]
def dZ(h:e ρ= .ok d):iT e ρ= .nx ρ:=by simp[iT,h,fN]
def pJ(h:e ρ= .ex c):iT e ρ= .ex c ρ:=by simp[iT,h,fN]
def aQ(h:e ρ= .ok d):eB e ρ= .rt (.ok d):=by simp[eB,h]
def fA(h:c ρ= .ok (.bl qz)):sIf c a b ρ=a ρ:=by simp[sIf,h]
def dB(h:c ρ= .ok (.bl q7)):sIf c a b ρ=b ρ:=by simp[sIf,h]
def aR(h:b (ds.map Slot.sh++ao (n-ds.length) .no)= .rt (.ok d)):fnOf n b ds= .ok d:=by simp[fnOf,h]
def iY(h:b (ds.map Slot.sh++ao (n-ds.length) .no)= .ex c ρ):fnOf n b ds= .ex c:=by simp[fnOf,h]
def uP(h:b (ds.map Slot.sh++ao (n-ds.length) .no)= .nx ρ):fnOf n b ds= .ok .non:=by simp[fnOf,h]
def sJ:iR (xs.map D.int)=pi xs:=by
 induction xs with
 |nil=>rfl
 |cons x r a=>simp[iR,a]
def yD:fX (xs.map D.bl)=pi xs:=by
 induction xs with
 |nil=>rfl
 |cons x r a=>simp[fX,a]
def bM(h:a ρ= .ok x)(k:b ρ= .ok y):aT op a b ρ=kR op x y:=by simp[aT,h,k,R.bind]
def aU(h:a ρ= .ok x)(k:b ρ= .ok y):bF op a b ρ=eS op x y:=by simp[bF,h,k,R.bind]
def dC(h:a ρ= .ok x)(k:b ρ= .ok y):rIx a b ρ=dIx x y:=by simp[rIx,h,k,R.bind]
def wU(h:a ρ= .ow x)(k:b ρ= .ok y):rIx a b ρ=dIx (.lst x) y:=by simp[rIx,h,k,R.bind]
def mP(h:a ρ= .ok (.bl b)):m7 a ρ= .ok (.bl (!b)):=by simp[m7,h,R.bind]
def n6(h:a ρ= .ok (.bl qz)):kC a b ρ=b ρ:=by simp[kC,h,R.bind]
def Bk(h:a ρ= .ok (.bl q7)):kC a b ρ= .ok (.bl q7):=by simp[kC,h,R.bind]
def Im(h:a ρ= .ok (.bl qz)):rOr a b ρ= .ok (.bl qz):=by simp[rOr,h,R.bind]
def uQ(h:a ρ= .ok (.bl q7)):rOr a b ρ=b ρ:=by simp[rOr,h,R.bind]
def LN(h:a ρ= .ok x)(k:p x=pi b):rIs p a ρ= .ok (.bl b):=by simp[rIs,h,k,R.bind]
def bK(h:a ρ= .ok x):aE f [a] ρ=f [x]:=by simp[aE,lP,args,h,RA.cons,RA.then]
def d6(h:a ρ= .ow x):aE f [a] ρ=f [.lst x]:=by simp[aE,lP,args,h,RA.cons,RA.then]
def dH(h:a ρ= .ok x)(k:b ρ= .ok y):aE f [a,b] ρ=f [x,y]:=by simp[aE,lP,args,h,k,RA.cons,RA.then]
def d7(h:a ρ= .ok x)(k:b ρ= .ok y)(l:c ρ= .ok z):aE f [a,b,c] ρ=f [x,y,z]:=by simp[aE,lP,args,h,k,l,RA.cons,RA.then]
def fH(h:a ρ= .ok x)(k:b ρ= .ok y):eQ [a,b] ρ= .ok (.tup [x,y]):=by simp[eQ,lP,args,h,k,RA.cons,RA.then]
def Bl(h:a ρ= .ok (.int i))(h':b ρ= .ok (.int j))(h'':c ρ= .ok (.int k)):kF .LtE .Lt a b c ρ= .ok (.bl (decide (i<=j)&&decide (j<k))):=by by_cases e:i<=j<;>simp[kF,h,h',h'',R.bind,eS,e]
def LO{ds:L1 D}:Ja [.lst (ds.map λd=>.bl (p d))]= .ok (.bl (ds.all p)):=by
 have e:(ds.map λd=>D.bl (p d))=(ds.map p).map D.bl:=by simp
 have k:(items (D.lst (ds.map λd=>D.bl (p d)))).bind fX=pi (ds.map p):=by
  show fX _=_;rw[e];exact yD
 simp only[Ja,k];simp
theorem n9{f}{g}: ∀{ds},(∀d∈ds,f d=pi (pi (g d)))->bC f ds=pi (ds.map g)
 |[],_=>rfl
 |d::r,h=>by simp[bC,h d (.head _),n9 (ds:=r) λx m=>h x (.tail _ m)]
theorem oA{f}{P:D->Prop}: ∀{ds},(∀d∈ds, ∃x,f d=pi (pi x)/\P x)->∃xs,bC f ds=pi xs/\xs.length=ds.length/\∀x∈xs,P x
 |[],_=>⟨[],rfl,rfl,nofun⟩
 |d::r,h=>by
  obtain⟨x,e,p⟩:=h d (.head _);obtain⟨xs,a,l,q⟩:=oA (ds:=r) λx m=>h x (.tail _ m);refine⟨x::xs,by simp[bC,e,a],by simp[l],?_⟩;intro y m;cases m with
  |head=>exact p
  |tail _ m=>exact q y m
def jN(hi:it ρ= .ok (.lst ds)\/it ρ= .ok (.tup ds)\/it ρ= .ow ds)(h: ∀d∈ds,e (.sh d::kG cs ρ)= .ok (g d)):a8 0 cs it qw e ρ= .ow (ds.map g):=by
 have k:bC (dQ 0 (kG cs ρ) qw e) ds=pi (ds.map g):=n9 λd m=>by simp[dQ,tgt,h d m]
 rcases hi with hi|hi|hi<;>simp[a8,hi,R.bind,items,iK,k]
def gA{P:D->Prop}(hi:it ρ= .ok (.lst ds)\/it ρ= .ok (.tup ds)\/it ρ= .ow ds)(h: ∀d∈ds, ∃ts x,tgt n d=pi ts/\e (ts++kG cs ρ)= .ok x/\P x):
  ∃xs,a8 n cs it qw e ρ= .ow xs/\xs.length=ds.length/\∀x∈xs,P x:=by
 obtain⟨xs,k,l,q⟩:=oA (f:=dQ n (kG cs ρ) qw e) (P:=P) (ds:=ds) λd m=>by
  obtain⟨ts,x,a,b,c⟩:=h d m;exact⟨x,by simp[dQ,a,b],c⟩
 refine⟨xs,?_,l,q⟩;rcases hi with hi|hi|hi<;>simp[a8,hi,R.bind,items,iK,k]
def fI(h:a ρ= .ok (.int n))(l:n<=100000):cW a ρ= .ok (.lst (qR n)):=by
 have:(-100000:Int)<=(n:Int)/\(n:Int)<=100000:=by lia
 simp[cW,h,R.bind,Ck,this]
def jO(h:d∈qR n): ∃k,k<n/\d= .int k:=by simp only[qR,au,List.mem_range]at h;obtain⟨k,a,b⟩:=h;exact⟨k,a,b.symm⟩
def fJ:(qR n).length=n:=by simp[qR]
def g6{n:Nat}(h:xs[n]? =pi x):dIx (.lst xs) (.int n)= .ok x:=by obtain⟨l,e⟩:=ay.1 h;simp[dIx,items,ixD,l,e]
def mQ{n:Nat}(h:xs[n]? =pi x):dIx (.tup xs) (.int n)= .ok x:=by obtain⟨l,e⟩:=ay.1 h;simp[dIx,items,ixD,l,e]
def Fc(h:sml j=qz):kR .Mult (.int i) (.int j)= .ok (.int (i*j)):=by simp[kR,fP,h]
def LP(h:sml i=qz):kR .Mult (.int i) (.int j)= .ok (.int (i*j)):=by simp[kR,fP,h]
def pK(h:0<j):kR .Mod (.int i) (.int j)= .ok (.int (i % j)):=by simp[kR,fP,h]
def Bm(h:0<j)(l:j<1073741824):kR .FloorDiv (.int i) (.int j)= .ok (.int (i/j)):=by simp[kR,fP,h,l]
def LQ(a: -18446744073709551616<i)(b:i<18446744073709551616):sml i=qz:=by simp[sml,a,b]
def pL(hi:it ρ= .ok (.lst ds)\/it ρ= .ow ds):tU is o it b ρ=fU (q8 is o) b ds ρ:=by rcases hi with hi|hi<;>simp[tU,hi,fN,kH,items]
def iD:cI xs=qz↔ ∀x∈xs,plain x=qz:=by
 induction xs with
 |nil=>simp[cI]
 |cons x r a=>simp[cI,a]
def iZ(a:plain x=qz)(b:plain y=qz)(c:dep y<=60):i8 x y=qz:=by have:min (dep x) (dep y)<=60:=om (Nat.min_le_right ..) c;simp[i8,a,b,this]
def i4(h:i8 x y=qz):eS .Eq x y= .ok (.bl (deq x y)):=by simp[eS,h]
def pM(h:i8 x y=qz):eS .NotEq x y= .ok (.bl (!deq x y)):=by simp[eS,h]
mutual
theorem lB: ∀d:D,plain d=qz->deq d d=qz
 |.non,_=>rfl
 |.bl b,_=>by simp[deq]
 |.int i,_=>by simp[deq]
 |.str x,_=>by simp[deq]
 |.tup xs,h=>by simp only[deq];exact mR xs h
 |.lst xs,h=>by simp only[deq];exact mR xs h
 |.exc _,h=>by simp[plain]at h
 |.fn _,h=>by simp[plain]at h
theorem mR: ∀xs:L1 D,cI xs=qz->yL xs xs=qz
 |[],_=>rfl
 |x::r,h=>by
  simp only[cI,aw]at h;simp[yL,lB x h.1,mR r h.2]
end
def Bn(h: ∀x∈xs,dep x=0):zA xs=0:=by
 induction xs with
 |nil=>rfl
 |cons x r a=>simp[zA,h x (.head _),a λy m=>h y (.tail _ m)]
end SK
namespace SK.k75
open SK
def aM:Fn:=λds=>Lh (fnOf 3 (aY (gL 1 (jV [rIs (m9 9) (aB 0),rIs (m9 8) (aB 0),rIs (m9 3) (aB 0),rIs (m9 2) (aB 0)]))
 (aY (gL 1 (aT .Add (aB 1) (jV [rIs (m9 5) (aB 0),rIs (m9 1) (aB 0),rIs (m9 7) (aB 0)])))
 (aY (gL 1 (aT .Add (aB 1) (jV [rIs (m9 6) (aB 0),rIs (m9 4) (aB 0)])))
 (aY (sIf (rOr (bF .NotEq (oN qY (aD 1) (rK (.bl qz))) (rK (.int 1))) (m7 (rIs (m9 100) (aB 0))))
 (aY (eB (rK (.str "wrong")))
  (aX))
 (aX))
 (aY (gL 2 (jV [rK (.str "no back"),rK (.str "no label"),rK (.str "no move"),rK (.str "no name"),rK (.str "no sums"),rK (.str "no switch"),rK (.str "no term"),rK (.str "no text"),rK (.str "unlike")]))
 (aY (eB (rIx (aD 2) (oN qZ (aD 1) (rK (.bl qz)))))
 (aX))))))) ds)
def iE:Fn:=fnOf 1 (eB (kC (rIs (Kb) (aB 0)) (m7 (rIs (F3) (aB 0)))))
def bN:Fn:=fnOf 2 (eB (kC (aE iE [aB 0]) (kF .LtE .Lt (rK (.int 0)) (aB 0) (aB 1))))
def cG:Fn:=fnOf 2 (eB (aE Ja [a8 0 [1] (aD 0) qw (aE bN [aB 0,aB 1])]))
def gB:Fn:=fnOf 1 (eB (aE bN [aB 0,aT .Add (rK (.int 4)) (rK (.int 1))]))
def jP:Fn:=fnOf 3 (eB (kC (rIs (oQ) (aB 0)) (kC (bF .Eq (aE tP [aD 0]) (aB 1)) (aE cG [aB 0,aB 2]))))
def bS:Fn:=fnOf 1 (eB (aT .LShift (rK (.int 1)) (aB 0)))
def dS:Fn:=fnOf 1 (aY (sIf (rOr (m7 (rIs (oQ) (aB 0))) (rOr (bF .NotEq (aE tP [aD 0]) (rK (.int 2))) (m7 (aE gB [rIx (aD 0) (rK (.int 0))]))))
 (eB (rK (.bl q7)))
 (aX))
 (eB (aE jP [rIx (aD 0) (rK (.int 1)),aE bS [rIx (aD 0) (rK (.int 0))],rK (.int 2)])))
def a9:Fn:=fnOf 1 (sIf (m7 (aE dS [aB 0]))
 (gX 1)
 (aX))
def bR:Fn:=fnOf 2 (aY (iT (aE a9 [aB 0]))
 (aY (iT (aE a9 [aB 1]))
 (sIf (bF .NotEq (rIx (aD 0) (rK (.int 0))) (rIx (aD 1) (rK (.int 0))))
 (gX 4)
 (aX))))
def jQ:Fn:=fnOf 1 (aY (iT (aE a9 [aB 0]))
 (eB (eQ [rIx (aD 0) (rK (.int 0)),aE fW [a8 0 [] (rIx (aD 0) (rK (.int 1))) qw (aT .Sub (rK (.int 1)) (aB 0))]])))
def oB:Fn:=fnOf 2 (aY (iT (aE bR [aB 0,aB 1]))
 (eB (eQ [rIx (aD 0) (rK (.int 0)),aE fW [a8 2 [] (qU (rIx (aD 0) (rK (.int 1))) (rIx (aD 1) (rK (.int 1)))) qw (aT .BitAnd (aB 0) (aB 1))]])))
def iF:Fn:=fnOf 2 (aY (iT (aE bR [aB 0,aB 1]))
 (eB (eQ [rIx (aD 0) (rK (.int 0)),aE fW [a8 2 [] (qU (rIx (aD 0) (rK (.int 1))) (rIx (aD 1) (rK (.int 1)))) qw (aT .BitOr (aB 0) (aB 1))]])))
def iG:Fn:=fnOf 2 (aY (iT (aE bR [aB 0,aB 1]))
 (eB (eQ [rIx (aD 0) (rK (.int 0)),aE fW [a8 2 [] (qU (rIx (aD 0) (rK (.int 1))) (rIx (aD 1) (rK (.int 1)))) qw (aT .BitXor (aB 0) (aB 1))]])))
def dW:Fn:=fnOf 1 (sIf (m7 (rIs (Ej) (aB 0)))
 (gX 6)
 (aX))
def cN:Fn:=fnOf 1 (aY (iT (aE a9 [aB 0]))
 (eB (aT .Add (aT .Add (aE tQ [rIx (aD 0) (rK (.int 0))]) (rK (.str ":"))) (oP "" (a8 0 [] (rIx (aD 0) (rK (.int 1))) qw (aE tQ [aD 0]))))))
def cO:Fn:=fnOf 2 (aY (iT (aE dW [aB 0]))
 (aY (gL 1 (eQ [FT [("0",.int 0),("1",.int 1),("2",.int 2),("3",.int 3),("4",.int 4)] (lQ (aD 0) qw (pi (rK (.int 1)))),aE fW [a8 0 [] (lQ (aD 0) (pi (rK (.int 2))) qw) qw (FT [("0",.int 0),("1",.int 1),("2",.int 2),("3",.int 3),("4",.int 4)] (aB 0))]]))
 (aY (sIf (rOr (bF .NotEq (lQ (aD 0) (pi (rK (.int 1))) (pi (rK (.int 2)))) (rK (.str ":"))) (m7 (aE dS [aB 1])))
 (gX 6)
 (aX))
 (eB (aB 1)))))
def eI:Fn:=fnOf 1 (aY (sIf (rOr (m7 (rIs (Ej) (aB 0))) (m7 (kF .LtE .LtE (rK (.int 1)) (aE tP [aD 0]) (rK (.int 4)))))
 (eB (rK (.bl q7)))
 (aX))
 (eB (aE Ja [a8 0 [] (aD 0) qw (kF .LtE .LtE (rK (.str "a")) (aB 0) (rK (.str "z")))])))
def cQ:Fn:=fnOf 1 (sIf (m7 (aE eI [aB 0]))
 (gX 8)
 (aX))
def eO:Fn:=fnOf 3 (aY (sIf (bF .Eq (aB 0) (rK (.str "both")))
 (eB (aE oB [aB 1,aB 2]))
 (aX))
 (aY (sIf (bF .Eq (aB 0) (rK (.str "either")))
 (eB (aE iF [aB 1,aB 2]))
 (aX))
 (aY (sIf (bF .Eq (aB 0) (rK (.str "unlike")))
 (eB (aE iG [aB 1,aB 2]))
 (aX))
 (gX 8))))
def fE:Fn:=fnOf 2 (aY (sIf (bF .Lt (aB 1) (aE tP [aD 0]))
 (eB (rIx (aD 0) (aB 1)))
 (aX))
 (aY (sIf (bF .Eq (aB 0) (jV []))
 (eB (rK (.int 0)))
 (aX))
 (eB (aT .Add (aT .Mult (rIx (aD 0) (aT .Mod (aB 1) (aE tP [aD 0]))) (rK (.int 31))) (aB 1)))))
def aI:Fn:=fnOf 4 (aY (gL 3 (aT .Mod (aT .Mult (aT .Add (aE fE [aB 0,aB 1]) (aT .Mult (rK (.int 6151)) (aT .Add (aB 1) (rK (.int 1))))) (rK (.int 40692))) (rK (.int 2147483399))))
 (eB (aT .Mod (aT .Mod (aT .Add (aT .Mult (aB 3) (aB 3)) (aT .FloorDiv (aB 3) (rK (.int 31)))) (rK (.int 2147483629))) (aB 2))))
def aS:Fn:=fnOf 2 (eB (aE fW [a8 0 [1] (cW (aB 0)) qw (aT .Mod (aT .FloorDiv (aB 1) (rIx (jV [rK (.int 1),rK (.int 2),rK (.int 4),rK (.int 8)]) (aB 0))) (rK (.int 2)))]))
def fK:Fn:=fnOf 2 (eB (aT .Mod (aE B5 [a8 2 [] (qU (aE aS [rK (.int 4),aB 0]) (aE aS [rK (.int 4),aB 1])) qw (aT .Mult (aB 0) (aB 1))]) (rK (.int 2))))
def dD:Fn:=fnOf 9 (aY (gL 3 (rIx (jV [rK (.int 1),rK (.int 2),rK (.int 4),rK (.int 8),rK (.int 16)]) (aB 2)))
 (aY (gL 4 (aE aI [aB 0,aB 1,rK (.int 6)]))
 (aY (xP 5 (a8 0 [1,0] (cW (aB 3)) qw (aE aI [aB 2,aT .Add (aT .Add (aB 1) (rK (.int 1))) (aB 0),rK (.int 2)])))
 (aY (sIf (kC (bF .Eq (aB 4) (rK (.int 0))) (bF .Gt (aB 2) (rK (.int 0))))
 (aY (gL 6 (aE aI [aB 0,aT .Add (aB 1) (rK (.int 20)),aB 3]))
  (xP 5 (a8 0 [6] (cW (aB 3)) qw (aE fK [aB 1,aB 0]))))
 (sIf (bF .Eq (aB 4) (rK (.int 1)))
  (xP 5 (a8 0 [1,2,0] (cW (aB 3)) qw (aE B4 [bF .GtE (aE B5 [aE aS [aB 2,aB 0]]) (aT .Add (rK (.int 1)) (aE aI [aB 3,aT .Add (aB 1) (rK (.int 21)),rK (.int 3)]))])))
  (sIf (kC (bF .Eq (aB 4) (rK (.int 2))) (bF .Gt (aB 2) (rK (.int 0))))
   (aY (gL 7 (aE aI [aB 0,aT .Add (aB 1) (rK (.int 22)),aB 2]))
    (xP 5 (a8 0 [7,5] (cW (aB 3)) qw (rIx (aD 2) (aT .Sub (aB 0) (aT .Mult (aT .Mod (aT .FloorDiv (aB 0) (rIx (jV [rK (.int 1),rK (.int 2),rK (.int 4),rK (.int 8)]) (aB 1))) (rK (.int 2))) (rIx (jV [rK (.int 1),rK (.int 2),rK (.int 4),rK (.int 8)]) (aB 1))))))))
   (aX))))
 (aY (sIf (kC (bF .Lt (aB 4) (rK (.int 3))) (bF .Eq (aE aI [aB 0,aT .Add (aB 1) (rK (.int 23)),rK (.int 3)]) (rK (.int 0))))
 (aY (gL 8 (aE aI [aB 0,aT .Add (aB 1) (rK (.int 24)),aB 3]))
  (yM 5 (aB 8) (aT .Sub (rK (.int 1)) (rIx (aD 5) (aB 8)))))
 (aX))
 (eB (eQ [aB 2,aE fW [aD 5]])))))))
def cS:Fn:=fnOf 8 (aY (gL 3 (jV [rK (.str "a"),rK (.str "b"),rK (.str "gm"),rK (.str "xjqp")]))
 (aY (eU [4,5] (eQ [rIx (aD 3) (aE aI [aB 0,aB 1,rK (.int 4)]),aE aI [aB 0,aT .Add (aB 1) (rK (.int 1)),rK (.int 8)]]))
 (aY (sIf (rOr (bF .Lt (aB 5) (rK (.int 3))) (bF .Eq (aB 2) (lS)))
 (aY (gL 6 (rIx (jV [rK (.int 2),rK (.int 2),rK (.int 2),rK (.int 1),rK (.int 3),rK (.int 4),rK (.int 0)]) (aE aI [aB 0,aT .Add (aB 1) (rK (.int 2)),rK (.int 7)])))
  (eB (eQ [rK (.str "put"),aB 4,aE dD [aB 0,aT .Add (aB 1) (rK (.int 10)),aB 6]])))
 (aX))
 (aY (sIf (bF .Eq (aB 5) (rK (.int 3)))
 (eB (eQ [rK (.str "take"),aB 4]))
 (aX))
 (aY (sIf (bF .Eq (aB 5) (rK (.int 4)))
 (eB (eQ [rK (.str "turn"),aB 4]))
 (aX))
 (aY (gL 7 (rIx (jV [rK (.str "both"),rK (.str "either"),rK (.str "unlike")]) (aE aI [aB 0,aT .Add (aB 1) (rK (.int 3)),rK (.int 3)])))
 (eB (eQ [rK (.str "join"),aB 4,aB 7,rIx (aD 3) (aE aI [aB 0,aT .Add (aB 1) (rK (.int 4)),rK (.int 4)]),rIx (aD 3) (aE aI [aB 0,aT .Add (aB 1) (rK (.int 5)),rK (.int 4)])]))))))))
def aN:Fn:=fnOf 7 (aY (nG 2 (aB 0))
 (aY (sIf (bF .Eq (rIx (aD 1) (rK (.int 0))) (rK (.str "put")))
 (aY (yM 2 (rIx (aD 1) (rK (.int 1))) (rIx (aD 1) (rK (.int 2))))
  (MQ [2] (eB (eQ [aB 2,bF .In (rIx (aD 1) (rK (.int 1))) (aB 0)]))))
 (aX))
 (aY (sIf (bF .Eq (rIx (aD 1) (rK (.int 0))) (rK (.str "join")))
 (aY (sIf (rOr (bF .NotIn (rIx (aD 1) (rK (.int 3))) (aB 0)) (bF .NotIn (rIx (aD 1) (rK (.int 4))) (aB 0)))
  (eB (eQ [aB 0,rK (.str "no label")]))
  (aX))
  (aY (eU [3,4] (eQ [rIx (aD 0) (rIx (aD 1) (rK (.int 3))),rIx (aD 0) (rIx (aD 1) (rK (.int 4)))]))
  (aY (sIf (bF .NotEq (rIx (aD 3) (rK (.int 0))) (rIx (aD 4) (rK (.int 0))))
  (eB (eQ [aB 0,rK (.str "unlike")]))
  (aX))
  (aY (gL 5 (aE xO [qU (rIx (aD 3) (rK (.int 1))) (rIx (aD 4) (rK (.int 1)))]))
  (aY (gL 6 (vC "both" "either" (a8 2 [] (aD 5) qw (aT .Mult (aB 0) (aB 1))) (a8 2 [] (aD 5) qw (aE B4 [bF .Gt (aT .Add (aB 0) (aB 1)) (rK (.int 0))]))))
  (aY (yM 2 (rIx (aD 1) (rK (.int 1))) (eQ [rIx (aD 3) (rK (.int 0)),aE fW [rB (aB 6) (rIx (aD 1) (rK (.int 2))) (a8 2 [] (aD 5) qw (aE B4 [bF .Eq (aT .Add (aB 0) (aB 1)) (rK (.int 1))]))]]))
  (MQ [2] (eB (eQ [aB 2,rIx (aD 2) (rIx (aD 1) (rK (.int 1)))])))))))))
 (aX))
 (aY (sIf (bF .NotIn (rIx (aD 1) (rK (.int 1))) (aB 0))
 (eB (eQ [aB 0,rK (.str "no label")]))
 (aX))
 (aY (sIf (bF .Eq (rIx (aD 1) (rK (.int 0))) (rK (.str "turn")))
 (aY (yM 2 (rIx (aD 1) (rK (.int 1))) (eQ [rIx (rIx (aD 0) (rIx (aD 1) (rK (.int 1)))) (rK (.int 0)),aE fW [a8 0 [] (rIx (rIx (aD 0) (rIx (aD 1) (rK (.int 1)))) (rK (.int 1))) qw (aT .Sub (rK (.int 1)) (aB 0))]]))
  (MQ [2] (eB (eQ [aB 2,rIx (aD 2) (rIx (aD 1) (rK (.int 1)))]))))
 (aX))
 (eB (eQ [nI (a8 0 [1,0] (aD 0) (pi (bF .NotEq (aB 0) (rIx (aD 1) (rK (.int 1))))) (eQ [aB 0,rIx (aD 2) (aB 0)])),rIx (aD 0) (rIx (aD 1) (rK (.int 1)))])))))))
def aW:Fn:=fnOf 5 (aY (gL 1 (rK (.str "")))
 (aY (tU [2] qz (aE jB [aD 0])
 (aY (eU [3,4] (rIx (aD 0) (aB 2)))
  (gL 1 (aT .Add (aT .Add (aT .Add (aT .Add (aT .Add (aT .Add (aB 1) (aB 2)) (rK (.str " = "))) (aE tQ [aD 3])) (rK (.str ":"))) (oP "" (a8 0 [] (aD 4) qw (aE tQ [aD 0])))) (rK (.str "\n"))))))
 (eB (aB 1))))
def aZ:FM:=iX 368 3 (dY (mIf (bF .Is (aB 2) (rK .non))
 (dY (Ht 368 (aB 1))
  (fO))
 (dY (Hr 368 (aB 1) (aB 2))
  (fO)))
 (fO))
def kP:FM:=iX 368 4 (dY (M6 368 qz (eQ [aB 1,aB 2,Cn 368 0 (aB 2),aB 3]))
 (dY (wL 368)
 (dY (nC 368 aZ [aB 2,aB 3])
 (fO))))
def gK:FM:=iX 368 4 (dY (sB (aE a9 [aB 2]))
 (dY (sB (aE cQ [aB 1]))
 (dY (Dl 2 (Jc q7 368 0 (aB 1)))
 (dY (nC 368 kP [rK (.str "put"),aB 1,aB 2])
 (dY (sC (aB 3))
 (fO))))))
def aF:FM:=iX 368 2 (dY (sB (aE cQ [aB 1]))
 (dY (mIf (Jc qz 368 0 (aB 1))
 (dY (wK 8)
  (fO))
 (fO))
 (dY (sC (Cm 368 0 (aB 1)))
 (fO))))
def d8:FM:=iX 368 3 (dY (Dl 1 (bO 368 0 aF [aB 1]))
 (dY (nC 368 kP [rK (.str "take"),aB 1,rK .non])
 (dY (sC (aB 2))
 (fO))))
def d9:FM:=iX 368 6 (dY (sB (aE cQ [aB 1]))
 (dY (Dl 4 (aE eO [aB 2,bO 368 0 aF [aB 3],bO 368 0 aF [aB 4]]))
 (dY (nC 368 kP [rK (.str "join"),aB 1,aB 5])
 (dY (sC (aB 5))
 (fO)))))
def eR:FM:=iX 368 3 (dY (Dl 1 (aE jQ [bO 368 0 aF [aB 1]]))
 (dY (nC 368 kP [rK (.str "turn"),aB 1,aB 2])
 (dY (sC (aB 2))
 (fO))))
def bL:FM:=iX 368 1 (dY (sC (FZ 368 0))
 (fO))
def fT:FM:=iX 368 2 (dY (mIf (bF .Eq (FX 368 0 qz) (jV []))
 (dY (wK 9)
  (fO))
 (fO))
 (dY (Hq 368 0 qz)
 (dY (M6 368 q7 (aB 1))
 (dY (nC 368 aZ [rIx (aD 1) (rK (.int 1)),rIx (aD 1) (rK (.int 2))])
 (dY (sC (rIx (aD 1) (rK (.int 0))))
 (fO))))))
def bW:FM:=iX 368 1 (dY (sC (eQ [aE tP [FX 368 0 qz],aE tP [FX 368 0 q7]]))
 (fO))
def aP:FM:=iX 368 1 (dY (sC (oP "" (a8 0 [0] (bO 368 0 bL []) qw (aT .Add (aT .Add (aT .Add (aB 0) (rK (.str " = "))) (aE cN [bO 368 1 aF [aB 0]])) (rK (.str "\n"))))))
 (fO))
def eJ:FR:=Ji 368 4 (aY (iT (aE dW [aB 0]))
 (aY (M9 1 368 (λ_=>.rk rk0) [])
 (aY (tU [2] qz (lQ (qV (aB 0) (rK (.str "\n"))) qw (pi (MP (rK (.int 1)))))
 (aY (gL 3 (zB (aB 2) (rK (.str " = "))))
  (aY (sIf (m7 (aE eI [rIx (aD 3) (rK (.int 0))]))
  (gX 6)
  (aX))
  (yC 368 1 (rIx (aD 3) (rK (.int 0))) (aE cO [rIx (aD 3) (rK (.int 2))])))))
 (aY (sIf (bF .NotEq (bO 368 1 aP []) (aB 0))
 (gX 6)
 (aX))
 (aX))))) 1
def mT:FL:=(ifM (bF .Eq (rIx (aD 1) (rK (.int 0))) (rK (.str "put"))) (uN aM [1,0] (E5 368 1 gK [rIx (aD 0) (rK (.int 1)),rIx (aD 0) (rK (.int 2))])) (ifM (bF .Eq (rIx (aD 1) (rK (.int 0))) (rK (.str "join"))) (uN aM [1,0] (E5 368 1 d9 [rIx (aD 0) (rK (.int 1)),rIx (aD 0) (rK (.int 2)),rIx (aD 0) (rK (.int 3)),rIx (aD 0) (rK (.int 4))])) (uN aM [1,0] (ifM (bF .Eq (rIx (aD 0) (rK (.int 0))) (rK (.str "turn"))) (E5 368 1 eR [rIx (aD 0) (rK (.int 1))]) (E5 368 1 d8 [rIx (aD 0) (rK (.int 1))])))))
def aV:FM:=HM 368 2 mT
def dG:FM:=iX 368 1 (dY (sC (nI (a8 0 [0] (bO 368 0 bL []) qw (eQ [aB 0,bO 368 1 aF [aB 0]]))))
 (fO))
def Io:FS:=aY (iP 1 2 368 (λ_=>.rk rk0) [] (lS))
 (aY (tU [3] qz (cW (aE aI [aB 0,rK (.int 0),rK (.int 11)]))
 (aY (gL 4 (aE cS [aB 0,aT .Add (rK (.int 100)) (aT .Mult (rK (.int 60)) (aB 3)),aB 2]))
  (aY (eU [2,5] (aE aN [aB 2,aB 4]))
  (aY (EW 368 1 aV [aB 4])
  (aX)))))
 (aY (eU [6,7] (eQ [aE aW [aB 2],bO 368 1 bW []]))
 (aY (B8 (pH (bF .NotEq (bO 368 1 aP []) (aB 6)))
 (aY (eB (rK (.bl q7)))
  (aX))
 (aX))
 (aY (iP 9 8 368 eJ [aB 6] (aB 2))
 (aY (B8 (cOr (uK 368 9 dG [] .NotEq (aB 2)) (cOr (uK 368 9 bW [] .NotEq (eQ [rK (.int 0),rK (.int 0)])) (uK 368 9 (λr _=>dM aM (E5 368 0 fT [] [.rk 368 r])) [] .NotEq (rK (.str "no back")))))
 (aY (eB (rK (.bl q7)))
  (aX))
 (aX))
 (aY (tU [3] qz (cW (rK (.int 3)))
 (aY (gL 4 (aE cS [aB 0,aT .Add (rK (.int 2000)) (aT .Mult (rK (.int 60)) (aB 3)),aB 8]))
  (aY (eU [8,5] (aE aN [aB 8,aB 4]))
  (aY (B8 (cOr (uK 368 9 aV [aB 4] .NotEq (aB 5)) (pH (bF .NotEq (bO 368 9 aP []) (aE aW [aB 8]))))
  (aY (eB (rK (.bl q7)))
   (aX))
  (aX))
  (aX)))))
 (aY (eB (kC (bF .Eq (bO 368 1 aP []) (aB 6)) (bF .Eq (bO 368 1 bW []) (aB 7))))
 (aX))))))))
open PySem
abbrev Sc(ns:L1 Int):D:=.lst (ns.map D.int)
def DI ns:plain (Sc ns)=qz:=by show cI (ns.map D.int)=qz;rw[iD];intro x m;obtain⟨i,_,rfl⟩:=au.1 m;rfl
noncomputable def yE(ns:L1 Int)(k:Nat):Int:=if k<ns.length then ns.getD k 0 else if ns=[]then 0 else ns.getD (k % ns.length) 0*31+k
def Ip ns(k:Nat):fE [Sc ns,.int k]= .ok (.int (yE ns k)):=by
 have b:tP [Sc ns]= .ok (.int ns.length):=by simp[tP,items]
 by_cases h:k<ns.length;have e:(ns.map D.int)[k]? =pi (D.int (yE ns k)):=by simp[yE,h]
 refine aR (dA ((fA ?_).trans (aQ ((dC rfl rfl).trans (g6 e)))));refine(aU rfl ((bK rfl).trans b)).trans ?_;simp[eS,h];refine aR ((aG ((dB ((aU rfl ((bK rfl).trans b)).trans ?_)).trans rfl)).trans ?_);simp[eS];lia;have c:bF .Eq (aB 0) (jV []) [.sh (Sc ns),.sh (.int k)]= .ok (.bl (decide (ns=[]))):=by
  show eS .Eq (Sc ns) (.lst [])=_;rw[i4 (iZ (DI ns) rfl (by decide))];cases ns<;>simp[deq,yL]
 by_cases a:ns=[];subst a;exact dA ((fA (c.trans rfl)).trans rfl);refine(aG ((dB (c.trans (by simp[a]))).trans rfl)).trans (aQ ?_);have l:0<ns.length:=List.length_pos_iff.2 a;have e:(ns.map D.int)[k % ns.length]? =pi (D.int (ns.getD (k % ns.length) 0)):=by simp[Nat.mod_lt _ l]
 have d:kR .Mod (.int k) (.int ns.length)= .ok (.int ((k % ns.length:Nat):Int)):=by
  have:(0:Int)<ns.length:=by lia
  simp[kR,fP,this];lia
 refine(bM ((bM ((dC rfl ((bM rfl ((bK rfl).trans b)).trans d)).trans (g6 e)) rfl).trans (Fc rfl)) rfl).trans ?_;simp[kR,fP,yE,h,a]
def iQ(ns:L1 Int)(k:Nat):Int:=(yE ns k+6151*(k+1))*40692 % 2147483399
def Bo(ns:L1 Int)(k:Nat)(m:Int):Int:=(iQ ns k*iQ ns k+iQ ns k/31) % 2147483629 % m
def Iq ns(k:Nat)(hm:0<m):aI [Sc ns,.int k,.int m]= .ok (.int (Bo ns k m)):=by
 have a:aT .Mod (aT .Mult (aT .Add (aE fE [aB 0,aB 1]) (aT .Mult (rK (.int 6151)) (aT .Add (aB 1) (rK (.int 1))))) (rK (.int 40692))) (rK (.int 2147483399)) [.sh (Sc ns),.sh (.int k),.sh (.int m),.no]= .ok (.int (iQ ns k)):=by
  refine(bM ((bM ((bM ((dH rfl rfl).trans (Ip ns k)) (y:=.int (6151*(k+1))) ?_).trans rfl) rfl).trans (?_:_=R.ok (.int ((yE ns k+6151*(k+1))*40692)))) rfl).trans ?_;refine(bM rfl rfl).trans ?_;simp[kR,fP,sml];simp[kR,fP,sml];simp[kR,fP,iQ]
 refine aR ((aG (dR a)).trans (aQ ?_));unfold Bo;have b:sml (iQ ns k)=qz:=by
  have:0<=iQ ns k/\iQ ns k<2147483399:=by unfold iQ;lia
  simp[sml];lia
 generalize iQ ns k=x at *;have d:aT .FloorDiv (aB 3) (rK (.int 31)) [.sh (Sc ns),.sh (.int k),.sh (.int m),.sh (.int (x))]= .ok (.int (x/31)):=by
  refine(bM rfl rfl).trans ?_;simp[kR,fP]
 have c:aT .Mult (aB 3) (aB 3) [.sh (Sc ns),.sh (.int k),.sh (.int m),.sh (.int x)]= .ok (.int (x*x)):=by
  refine(bM rfl rfl).trans ?_;simp[kR,fP,b]
 refine(bM ((bM ((bM c d).trans rfl) rfl).trans (?_:_=R.ok (.int ((x*x+x/31) % 2147483629)))) rfl).trans ?_;simp[kR,fP];exact pK hm
def uR ns k(hm:0<m):0<=Bo ns k m/\Bo ns k m<m:=⟨Int.emod_nonneg _ (by lia),Int.emod_lt_of_pos _ hm⟩
def bit(d:D):Prop:=d= .int 0\/d= .int 1
def Bp i:bit (.int (i % 2)):=by unfold bit;rcases(show i % 2=0\/i % 2=1 by lia)with h|h<;>simp[h]
def ix4{j:Nat}(h:a ρ= .ok (.int j))(l:j<4):rIx (jV [rK (.int 1),rK (.int 2),rK (.int 4),rK (.int 8)]) a ρ= .ok (.int ((2^j:Nat):Int)):=by refine(wU rfl h).trans (g6 ?_);rcases(show j=0\/j=1\/j=2\/j=3 by lia)with rfl|rfl|rfl|rfl<;>rfl
def ix5{j:Nat}(h:a ρ= .ok (.int j))(l:j<=4):rIx (jV [rK (.int 1),rK (.int 2),rK (.int 4),rK (.int 8),rK (.int 16)]) a ρ= .ok (.int ((2^j:Nat):Int)):=by refine(wU rfl h).trans (g6 ?_);rcases(show j=0\/j=1\/j=2\/j=3\/j=4 by lia)with rfl|rfl|rfl|rfl|rfl<;>rfl
def oC(h:m<=4):1<=2^m/\2^m<=16:=by rcases(show m=0\/m=1\/m=2\/m=3\/m=4 by lia)with rfl|rfl|rfl|rfl|rfl<;>decide
def j7{m:Nat}(hm:m<=4)k: ∃xs,aS [.int m,.int k]= .ok (.tup xs)/\xs.length=m/\∀x∈xs,bit x:=by
 obtain⟨xs,e,l,b⟩:=gA (n:=0) (cs:=[1]) (it:=cW (aB 0)) (e:=aT .Mod (aT .FloorDiv (aB 1) (rIx (jV [rK (.int 1),rK (.int 2),rK (.int 4),rK (.int 8)]) (aB 0))) (rK (.int 2))) (ρ:=[.sh (.int m),.sh (.int k)]) (ds:=qR m) (P:=bit)
  (.inl (fI rfl (by lia))) λd h=>by
   obtain⟨j,f,rfl⟩:=jO h;have c:=oC (m:=j) (by lia);refine⟨[.sh (.int j)],_,rfl,(bM ((bM rfl (ix4 (a:=aB 0) (j:=j) rfl (by lia))).trans (Bm ?_ ?_)) rfl).trans (pK (by decide)),Bp _⟩<;>lia
 exact⟨xs,aR (aQ ((d6 e).trans rfl)),l.trans fJ,b⟩
theorem Bq: ∀{xs},(∀x∈xs, ∃i,x=D.int i)->∃is:L1 Int,xs=is.map D.int
 |[],_=>⟨[],rfl⟩
 |x::r,h=>by
  obtain⟨i,rfl⟩:=h x (.head _);obtain⟨is,rfl⟩:=Bq (xs:=r) λy m=>h y (.tail _ m);exact⟨i::is,rfl⟩
def Ir(h:bit d): ∃i,d= .int i:=by rcases h with rfl|rfl<;>exact⟨_,rfl⟩
def DJ(is:L1 Int):B5 [.lst (is.map D.int)]= .ok (.int is.sum):=by simp[B5,items,sJ]
def Iu(is:L1 Int):B5 [.tup (is.map D.int)]= .ok (.int is.sum):=by simp[B5,items,sJ]
def LR a b: ∃r,fK [.int a,.int b]= .ok r/\bit r:=by
 obtain⟨c,u,G,o⟩:=j7 (m:=4) (by decide) a;obtain⟨f,B,H,j⟩:=j7 (m:=4) (by decide) b;have A:qU (aE aS [rK (.int 4),aB 0]) (aE aS [rK (.int 4),aB 1]) [.sh (.int a),.sh (.int b)]= .ok (.lst ((c.zip f).map λp=>D.tup [p.1,p.2])):=by
  have g:aE aS [rK (.int 4),aB 0] [.sh (.int a),.sh (.int b)]= .ok (.tup c):=(dH rfl rfl).trans u;have w:aE aS [rK (.int 4),aB 1] [.sh (.int a),.sh (.int b)]= .ok (.tup f):=(dH rfl rfl).trans B;simp[qU,g,w,R.bind]
 obtain⟨I,e,l,q⟩:=gA (n:=2) (cs:=[]) (e:=aT .Mult (aB 0) (aB 1)) (P:=λx=>∃i,x=D.int i) (.inl A) λd h=>by
  obtain⟨⟨x,y⟩,z,rfl⟩:=au.1 h;obtain⟨E,C⟩:=lf z;have s:=o x E;have t:=j y C;refine⟨[.sh x,.sh y],?_⟩;rcases s with rfl|rfl<;>rcases t with rfl|rfl<;>exact⟨_,rfl,rfl,_,rfl⟩
 obtain⟨v,rfl⟩:=Bq q;exact⟨_,aR (aQ ((bM ((d6 e).trans (DJ v)) rfl).trans (pK (by decide)))),Bp _⟩
def cV ns(k:Nat){m:Nat}(hm:0<m): ∃p:Nat,aI [Sc ns,.int k,.int m]= .ok (.int p)/\p<m:=by
 have h:(0:Int)<m:=by lia
 have r:=uR ns k h;refine⟨(Bo ns k m).toNat,(Iq ns k h).trans ?_,by lia⟩;rw[Int.toNat_of_nonneg r.1]
def LS{p:Nat}(h:p<2):bit (.int p):=by rcases(show p=0\/p=1 by lia)with rfl|rfl;exact .inl rfl;exact .inr rfl
def Fd{ws}(h: ∀w∈ws,bit w){p:Nat}(hp:p<ws.length): ∃w,dIx (.lst ws) (.int p)= .ok w/\bit w:=
 ⟨ws[p],g6 (bd hp),h _ (kr hp)⟩
def Br ns(at':Nat){m:Nat}(hm:m<=4): ∃ws,dD [Sc ns,.int at',.int m]= .ok (.tup [.int m,.tup ws])/\ws.length=2^m/\∀w∈ws,bit w:=by
 have W:=oC hm;obtain⟨f,B,lw⟩:=cV ns at' (m:=6) (by decide)
 obtain⟨s,e0,S,U⟩:=gA (n:=0) (cs:=[1,0]) (it:=cW (aB 3)) (e:=aE aI [aB 2,aT .Add (aT .Add (aB 1) (rK (.int 1))) (aB 0),rK (.int 2)]) (P:=bit) (ds:=qR (2^m))
  (ρ:=[.sh (Sc ns),.sh (.int at'),.sh (.int m),.sh (.int (2^m:Nat)),.sh (.int f),.no,.no,.no,.no]) (.inl (fI rfl (by lia))) λd h=>by
   obtain⟨j,M,rfl⟩:=jO h;obtain⟨p,W,lp⟩:=cV ns (at'+1+j) (m:=2) (by decide)
   exact⟨[.sh (.int j)],_,rfl,(d7 (x:=Sc ns) (y:=.int ((at'+1+j:Nat):Int)) (z:=.int 2) rfl rfl rfl).trans W,LS lp⟩
 rw[fJ]at S
 have h4: ∃ws a b,(sIf (kC (bF .Eq (aB 4) (rK (.int 0))) (bF .Gt (aB 2) (rK (.int 0))))
   (aY (gL 6 (aE aI [aB 0,aT .Add (aB 1) (rK (.int 20)),aB 3]))
    (xP 5 (a8 0 [6] (cW (aB 3)) qw (aE fK [aB 1,aB 0]))))
   (sIf (bF .Eq (aB 4) (rK (.int 1)))
    (xP 5 (a8 0 [1,2,0] (cW (aB 3)) qw (aE B4 [bF .GtE (aE B5 [aE aS [aB 2,aB 0]]) (aT .Add (rK (.int 1)) (aE aI [aB 3,aT .Add (aB 1) (rK (.int 21)),rK (.int 3)]))])))
    (sIf (kC (bF .Eq (aB 4) (rK (.int 2))) (bF .Gt (aB 2) (rK (.int 0))))
     (aY (gL 7 (aE aI [aB 0,aT .Add (aB 1) (rK (.int 22)),aB 2]))
      (xP 5 (a8 0 [7,5] (cW (aB 3)) qw (rIx (aD 2) (aT .Sub (aB 0) (aT .Mult (aT .Mod (aT .FloorDiv (aB 0) (rIx (jV [rK (.int 1),rK (.int 2),rK (.int 4),rK (.int 8)]) (aB 1))) (rK (.int 2))) (rIx (jV [rK (.int 1),rK (.int 2),rK (.int 4),rK (.int 8)]) (aB 1))))))))
     (aX)))) [.sh (Sc ns),.sh (.int at'),.sh (.int m),.sh (.int (2^m:Nat)),.sh (.int f),.ow s,.no,.no,.no]
   = .nx [.sh (Sc ns),.sh (.int at'),.sh (.int m),.sh (.int (2^m:Nat)),.sh (.int f),.ow ws,a,b,.no]/\ws.length=2^m/\∀w∈ws,bit w:=by
  have G: ∀ρ:Rho,ρ[2]? =pi (.sh (.int m))->bF .Gt (aB 2) (rK (.int 0)) ρ= .ok (.bl (decide (0<m))):=λρ h=>by
   refine(aU (x:=.int m) (by simp[aB,h]) rfl).trans ?_
   simp[eS]
  have i: ∀(c:Nat) (ρ:Rho),ρ[4]? =pi (.sh (.int f))->bF .Eq (aB 4) (rK (.int c)) ρ= .ok (.bl (decide (f=c))):=λc ρ h=>by
   refine(aU (x:=.int f) (by simp[aB,h]) rfl).trans ?_
   rw[i4 rfl];show R.ok (.bl ((f:Int)==(c:Int)))=_
   congr 2;rw[Bool.eq_iff_iff];simp;lia
  have g: ∀c:Nat,kC (bF .Eq (aB 4) (rK (.int c))) (bF .Gt (aB 2) (rK (.int 0))) [.sh (Sc ns),.sh (.int at'),.sh (.int m),.sh (.int (2^m:Nat)),.sh (.int f),.ow s,.no,.no,.no]= .ok (.bl (decide (f=c/\0<m))):=λc=>by
   by_cases h:f=c
   .refine(n6 ((i c _ rfl).trans (by simp[h]))).trans ((G _ rfl).trans (by simp[h]))
   .refine(Bk ((i c _ rfl).trans (by simp[h]))).trans (by simp[h])
  by_cases C:f=0/\0<m
  .obtain⟨u,hk,lk⟩:=cV ns (at'+20) (m:=2^m) (by lia)
   obtain⟨ws,e,l,b⟩:=gA (n:=0) (cs:=[6]) (it:=cW (aB 3)) (e:=aE fK [aB 1,aB 0]) (P:=bit) (ds:=qR (2^m))
    (ρ:=[.sh (Sc ns),.sh (.int at'),.sh (.int m),.sh (.int (2^m:Nat)),.sh (.int f),.ow s,.sh (.int u),.no,.no]) (.inl (fI rfl (by lia))) λd h=>by
     obtain⟨j,M,rfl⟩:=jO h;obtain⟨r,hr,br⟩:=LR u j;exact⟨[.sh (.int j)],_,rfl,(dH rfl rfl).trans hr,br⟩
   refine⟨ws,.sh (.int u),.no,(fA ((g 0).trans (by simp[C]))).trans ((aG (dR ((d7 rfl rfl rfl).trans hk))).trans (pI e)),l.trans fJ,b⟩
  by_cases H:f=1
  .obtain⟨q,I,lq⟩:=cV ns (at'+21) (m:=3) (by lia)
   obtain⟨ws,e,l,b⟩:=gA (n:=0) (cs:=[1,2,0]) (it:=cW (aB 3)) (e:=aE B4 [bF .GtE (aE B5 [aE aS [aB 2,aB 0]]) (aT .Add (rK (.int 1)) (aE aI [aB 3,aT .Add (aB 1) (rK (.int 21)),rK (.int 3)]))]) (P:=bit) (ds:=qR (2^m))
    (ρ:=[.sh (Sc ns),.sh (.int at'),.sh (.int m),.sh (.int (2^m:Nat)),.sh (.int f),.ow s,.no,.no,.no]) (.inl (fI rfl (by lia))) λd h=>by
     obtain⟨j,M,rfl⟩:=jO h;obtain⟨xs,hs,ls,bs⟩:=j7 hm j;obtain⟨is,rfl⟩:=Bq λx m=>Ir (bs x m)
     refine⟨[.sh (.int j)],_,rfl,(bK ((aU ((bK ((dH rfl rfl).trans hs)).trans (Iu is)) ((bM rfl ((d7 rfl rfl rfl).trans I)).trans rfl)).trans rfl)).trans rfl,?_⟩;unfold b2i;split
     .exact .inr rfl
     .exact .inl rfl
   refine⟨ws,.no,.no,(dB ((g 0).trans (by simp[C]))).trans ((fA ((i 1 _ rfl).trans (by simp[H]))).trans (pI e)),l.trans fJ,b⟩
  by_cases X:f=2/\0<m
  .obtain⟨nm,hk,lk⟩:=cV ns (at'+22) (m:=m) (by lia)
   obtain⟨ws,e,l,b⟩:=gA (n:=0) (cs:=[7,5]) (it:=cW (aB 3)) (e:=rIx (aD 2) (aT .Sub (aB 0) (aT .Mult (aT .Mod (aT .FloorDiv (aB 0) (rIx (jV [rK (.int 1),rK (.int 2),rK (.int 4),rK (.int 8)]) (aB 1))) (rK (.int 2))) (rIx (jV [rK (.int 1),rK (.int 2),rK (.int 4),rK (.int 8)]) (aB 1))))) (P:=bit) (ds:=qR (2^m))
    (ρ:=[.sh (Sc ns),.sh (.int at'),.sh (.int m),.sh (.int (2^m:Nat)),.sh (.int f),.ow s,.no,.sh (.int nm),.no]) (.inl (fI rfl (by lia))) λd h=>by
     obtain⟨j,M,rfl⟩:=jO h;have ab:=oC (m:=nm) (by lia)
     have L:j/2^nm % 2*2^nm<=j:=om (Nat.mul_le_mul_right _ (Nat.mod_le _ _)) (Nat.div_mul_le_self ..)
     obtain⟨w,B,E⟩:=Fd U (p:=j-j/2^nm % 2*2^nm) (by lia)
     refine⟨[.sh (.int j)],w,rfl,(dC (x:=.lst s) (y:=.int (j-j/2^nm % 2*2^nm:Nat)) rfl ?_).trans B,E⟩;refine(bM rfl ((bM ((bM ((bM rfl (ix4 (a:=aB 1) (j:=nm) rfl (by lia))).trans (Bm (by lia) (by lia))) rfl).trans (pK (by decide))) (ix4 (a:=aB 1) (j:=nm) rfl (by lia))).trans (Fc (LQ (by lia) (by lia))))).trans ?_
     show R.ok (D.int ((j:Int)-(j:Int)/((2^nm:Nat):Int) % 2*((2^nm:Nat):Int)))=_;rw[Int.ofNat_sub L,Int.natCast_mul,Int.natCast_emod,Int.natCast_ediv];rfl
   refine⟨ws,.no,.sh (.int nm),(dB ((g 0).trans (by simp[C]))).trans ((dB ((i 1 _ rfl).trans (by simp[H]))).trans ((fA ((g 2).trans (by simp[X]))).trans ((aG (dR ((d7 rfl rfl rfl).trans hk))).trans (pI e)))),l.trans fJ,b⟩
  .exact⟨s,.no,.no,(dB ((g 0).trans (by simp[C]))).trans ((dB ((i 1 _ rfl).trans (by simp[H]))).trans ((dB ((g 2).trans (by simp[X]))).trans rfl)),S,U⟩
 obtain⟨o,a,b,e1,O,K⟩:=h4
 have h5: ∃ws c,(sIf (kC (bF .Lt (aB 4) (rK (.int 3))) (bF .Eq (aE aI [aB 0,aT .Add (aB 1) (rK (.int 23)),rK (.int 3)]) (rK (.int 0))))
   (aY (gL 8 (aE aI [aB 0,aT .Add (aB 1) (rK (.int 24)),aB 3]))
    (yM 5 (aB 8) (aT .Sub (rK (.int 1)) (rIx (aD 5) (aB 8)))))
   (aX)) [.sh (Sc ns),.sh (.int at'),.sh (.int m),.sh (.int (2^m:Nat)),.sh (.int f),.ow o,a,b,.no]
   = .nx [.sh (Sc ns),.sh (.int at'),.sh (.int m),.sh (.int (2^m:Nat)),.sh (.int f),.ow ws,a,b,c]/\ws.length=2^m/\∀w∈ws,bit w:=by
  obtain⟨q,I,lq⟩:=cV ns (at'+23) (m:=3) (by lia)
  have hc: ∃t,kC (bF .Lt (aB 4) (rK (.int 3))) (bF .Eq (aE aI [aB 0,aT .Add (aB 1) (rK (.int 23)),rK (.int 3)]) (rK (.int 0))) [.sh (Sc ns),.sh (.int at'),.sh (.int m),.sh (.int (2^m:Nat)),.sh (.int f),.ow o,a,b,.no]= .ok (.bl t):=by
   have N:bF .Lt (aB 4) (rK (.int 3)) [.sh (Sc ns),.sh (.int at'),.sh (.int m),.sh (.int (2^m:Nat)),.sh (.int f),.ow o,a,b,.no]= .ok (.bl (decide ((f:Int)<3))):=rfl
   by_cases T:(f:Int)<3
   .exact⟨_,(n6 (N.trans (by simp[T]))).trans ((aU ((d7 rfl rfl rfl).trans I) rfl).trans (i4 rfl))⟩
   .exact⟨_,Bk (N.trans (by simp[T]))⟩
  obtain⟨t,Q⟩:=hc
  cases t with
  |false=>exact⟨o,.no,(dB Q).trans rfl,O,K⟩
  |true=>
   obtain⟨A,hl,ll⟩:=cV ns (at'+24) (m:=2^m) (by lia)
   obtain⟨w,B,E⟩:=Fd K (p:=A) (by lia)
   have Z: ∃v,kR .Sub (.int 1) w= .ok v/\bit v:=by
    rcases E with rfl|rfl
    .exact⟨_,rfl,.inr rfl⟩
    .exact⟨_,rfl,.inl rfl⟩
   obtain⟨v,hv,bv⟩:=Z;refine⟨o.set A v,.sh (.int A),(fA Q).trans ((aG (dR ((d7 rfl rfl rfl).trans hl))).trans ?_),by simp[O],λx mx=>?_⟩
   .have hx:(aT .Sub (rK (.int 1)) (rIx (aD 5) (aB 8))) [.sh (Sc ns),.sh (.int at'),.sh (.int m),.sh (.int (2^m:Nat)),.sh (.int f),.ow o,a,b,.sh (.int A)]= .ok v:=(bM rfl ((dC rfl rfl).trans B)).trans hv
    have hi:ixD o.length (A:Int)=pi A:=by simp[ixD];lia
    show yM 5 (aB 8) (aT .Sub (rK (.int 1)) (rIx (aD 5) (aB 8))) [.sh (Sc ns),.sh (.int at'),.sh (.int m),.sh (.int (2^m:Nat)),.sh (.int f),.ow o,a,b,.sh (.int A)]=_;unfold yM;rw[hx];simp[fN,aB,hi]
   .rcases List.mem_or_eq_of_mem_set mx with h|rfl
    .exact K x h
    .exact bv
 obtain⟨J,c,e2,l2,Y⟩:=h5;refine⟨J,aR ((aG (dR (ix5 (a:=aB 2) (j:=m) rfl hm))).trans ((aG (dR ((d7 rfl rfl rfl).trans B))).trans ((aG (pI e0)).trans ((aG e1).trans ((aG e2).trans (aQ (fH rfl ((bK rfl).trans rfl)))))))),l2,Y⟩
noncomputable def wb(b:Int):D->Bool
 |.int i=>decide (0<=i)&&decide (i<b)
 |_=>q7
def mU b(h:plain x=qz):bN [x,.int b]= .ok (.bl (wb b x)):=by
 cases x with
 |int i=>
  exact aR (aQ ((n6 rfl).trans (Bl (i:=0) (j:=i) (k:=b) rfl rfl rfl)))
 |exc c=>exact absurd h (by simp[plain])
 |fn c=>exact absurd h (by simp[plain])
 |dct d a=>exact absurd h (by simp[plain])
 |_=>rfl
def Bs b(hx:x= .tup ds\/x= .lst ds)(h:cI ds=qz):cG [x,.int b]= .ok (.bl (ds.all (wb b))):=by
 have e:a8 0 [1] (aD 0) qw (aE bN [aB 0,aB 1]) [.sh x,.sh (.int b)]= .ow (ds.map λd=>.bl (wb b d)):=
  jN (by rcases hx with rfl|rfl;exact .inr (.inl rfl);exact .inl rfl) λd m=>(dH rfl rfl).trans (mU b (iD.1 h d m))
 exact aR (aQ ((d6 e).trans LO))
def Nd(n b:Int):D->Bool
 |.tup ws=>decide ((ws.length:Int)=n)&&ws.all (wb b)
 |_=>q7
def Iw i j:eS .Eq (.int i) (.int j)= .ok (.bl (decide (i=j))):=by rw[i4 (x:=.int i) (y:=.int j) rfl];show R.ok (.bl (i==j))=_;congr 2
def Bt i j:eS .NotEq (.int i) (.int j)= .ok (.bl (!decide (i=j))):=by rw[pM (x:=.int i) (y:=.int j) rfl];show R.ok (.bl (!(i==j)))=_;congr 2
def oE n b(h:plain x=qz):jP [x,.int n,.int b]= .ok (.bl (Nd n b x)):=by
 cases x with
 |tup d=>
  refine aR (aQ ((n6 rfl).trans ?_));have e:bF .Eq (aE tP [aD 0]) (aB 1) [.sh (.tup d),.sh (.int n),.sh (.int b)]= .ok (.bl (decide ((d.length:Int)=n))):=(aU rfl rfl).trans (Iw _ _);by_cases a:(d.length:Int)=n;exact(n6 (e.trans (by simp[a]))).trans ((dH rfl rfl).trans ((Bs b (.inl rfl) h).trans (by simp[Nd,a])));exact(Bk (e.trans (by simp[a]))).trans (by simp[Nd,a])
 |exc c=>exact absurd h (by simp[plain])
 |fn c=>exact absurd h (by simp[plain])
 |dct g f=>exact absurd h (by simp[plain])
 |_=>rfl
def DK{m:Nat}(h:m<=4):bS [.int m]= .ok (.int (2^m:Nat)):=by rcases(show m=0\/m=1\/m=2\/m=3\/m=4 by lia)with rfl|rfl|rfl|rfl|rfl<;>rfl
def Ix:D->Bool
 |.tup [a,b]=>wb 5 a&&(match a with|.int m=>Nd (2^m.toNat:Nat) 2 b|_=>q7)
 |_=>q7
def LU(h:wb b x=qz): ∃m:Nat,x= .int m/\(m:Int)<b:=by
 cases x with
 |int i=>
  simp[wb]at h;exact⟨i.toNat,by rw[Int.toNat_of_nonneg h.1],by lia⟩
 |_=>simp[wb]at h
def fL(h:plain d=qz):dS [d]= .ok (.bl (Ix d)):=by
 cases d with
 |tup e=>
  have g:bF .NotEq (aE tP [aD 0]) (rK (.int 2)) [.sh (.tup e)]= .ok (.bl (!decide ((e.length:Int)=2))):=(aU rfl rfl).trans (Bt _ _);by_cases l:e.length=2;obtain⟨a,b,rfl⟩: ∃a b,e=[a,b]:=by
   match e,l with
   |[a,b],_=>exact⟨a,b,rfl⟩
  have j:plain a=qz/\plain b=qz:=by simpa[plain,cI]using h
  have n:aE gB [rIx (aD 0) (rK (.int 0))] [.sh (.tup [a,b])]= .ok (.bl (wb 5 a)):=(bK rfl).trans (aR (aQ ((dH rfl rfl).trans (mU 5 j.1))));have i:rOr (m7 (rIs (oQ) (aB 0))) (rOr (bF .NotEq (aE tP [aD 0]) (rK (.int 2))) (m7 (aE gB [rIx (aD 0) (rK (.int 0))]))) [.sh (.tup [a,b])]= .ok (.bl (!wb 5 a)):=
   (uQ rfl).trans ((uQ (g.trans rfl)).trans (mP n))
  cases f:wb 5 a with
  |false=>exact aR (dA ((fA (i.trans (by rw[f];rfl))).trans (aQ (by simp[Ix,f,rK])))) 
  |true=>
   obtain⟨m,rfl,p⟩:=LU f;refine aR ((aG ((dB (i.trans (by rw[f];rfl))).trans rfl)).trans (aQ ((d7 rfl ((bK rfl).trans (DK (by lia))) rfl).trans ((oE _ _ j.2).trans ?_))));simp[Ix,f]
  refine aR (dA ((fA ((uQ rfl).trans (Im (g.trans ?_)))).trans (aQ ?_)));have: ¬(e.length:Int)=2:=by lia
  simp[this];match e,l with
  |[],_=>rfl
  |[_],_=>rfl
  |_::_::_::_,_=>rfl
  |[_,_],h=>exact absurd rfl h
 |exc c=>exact absurd h (by simp[plain])
 |fn c=>exact absurd h (by simp[plain])
 |dct o q=>exact absurd h (by simp[plain])
 |_=>rfl
def i5(h:plain d=qz)(s:Ix d=qz):a9 [d]= .ok .non:=
 uP (ρ:=[.sh d]) ((dB ((mP ((bK rfl).trans (fL h))).trans (by rw[s];rfl))).trans rfl)
noncomputable def tn:D->D
 |.int i=>.int (1-i)
 |d=>d
def oF(h:bit d):plain d=qz/\dep d=0:=by rcases h with rfl|rfl<;>exact⟨rfl,rfl⟩
def yF(h: ∀w∈ws,bit w):cI ws=qz:=iD.2 λx m=>(oF (h x m)).1
def Iy{m:Nat}(hm:m<=4)(l:ws.length=2^m)(h: ∀w∈ws,bit w):Ix (.tup [.int m,.tup ws])=qz:=by
 have a:wb 5 (.int m)=qz:=by simp[wb];lia
 have d:ws.all (wb 2)=qz:=by
  rw[jw];intro w b;rcases h w b with rfl|rfl<;>rfl
 have c:Ix (.tup [.int m,.tup ws])=(wb 5 (.int m)&&(decide ((ws.length:Int)=(2^m:Nat))&&ws.all (wb 2))):=rfl;rw[c,a,d,decide_eq_true (by rw[l])];rfl
def DL{m:Nat}(h: ∀w∈ws,bit w):plain (.tup [.int m,.tup ws])=qz:=by simp[plain,cI,yF h]
end SK.k75
namespace SK
open PySem
def wV(hi:it ρ= .ok (.lst ds)\/it ρ= .ok (.tup ds)\/it ρ= .ow ds)(h:bC (dQ n (kG cs ρ) c e) ds=pi xs):a8 n cs it c e ρ= .ow xs:=by rcases hi with hi|hi|hi<;>simp[a8,hi,R.bind,iK,items,h]
def Bu(h:a ρ= .ok (.tup xs))(k:b ρ= .ok (.tup ys)):qU a b ρ= .ok (.lst ((xs.zip ys).map λp=>D.tup [p.1,p.2])):=by simp[qU,h,k,R.bind]
def bD(b:Bool):D:=.int (b2i b)
end SK
namespace SK.k75
open SK PySem
def sw(m:Nat)(bs:L1 Bool):D:=.tup [.int m,.tup (bs.map bD)]
def gQ(m:Nat)(bs:L1 Bool):Prop:=m<=4/\bs.length=2^m
def LV b:bit (bD b):=by cases b;exact .inl rfl;exact .inr rfl
theorem Bv: ∀{ws},(∀w∈ws,bit w)->∃bs:L1 Bool,ws=bs.map bD
 |[],_=>⟨[],rfl⟩
 |w::r,h=>by
  obtain⟨bs,rfl⟩:=Bv (ws:=r) λx m=>h x (.tail _ m);rcases h w (.head _)with rfl|rfl;exact⟨q7::bs,rfl⟩;exact⟨qz::bs,rfl⟩
def Bw(bs:L1 Bool): ∀w∈bs.map bD,bit w:=λw m=>by obtain⟨b,_,rfl⟩:=au.1 m;exact LV b
def g9(g:gQ m bs):Ix (sw m bs)=qz:=Iy g.1 (by simpa using g.2) (Bw bs)
def kS m bs:plain (sw m bs)=qz:=DL (Bw bs)
def Fe m bs:dep (sw m bs)<=60:=by have:=Bn λx a=>(oF (Bw bs x a)).2;simp[sw,dep,zA,this]
def DM ns(at':Nat)(hm:m<=4): ∃bs,gQ m bs/\dD [Sc ns,.int at',.int m]= .ok (sw m bs):=by obtain⟨a,e,l,b⟩:=Br ns at' hm;obtain⟨bs,rfl⟩:=Bv b;exact⟨bs,⟨hm,by simpa using l⟩,e⟩
def gQ.zip f(g:gQ m a)(h:gQ m b):gQ m (pd f a b):=⟨g.1,by simp[g.2,h.2]⟩
def gQ.not(g:gQ m a):gQ m (a.map (! ·)):=⟨g.1,by simp[g.2]⟩
def pN(g:gQ m a)(h:gQ m b):bR [sw m a,sw m b]= .ok .non:=by
 refine uP (ρ:=[.sh (sw m a),.sh (sw m b)]) ((aG (dZ ((bK rfl).trans (i5 (kS m a) (g9 g))))).trans ((aG (dZ ((bK rfl).trans (i5 (kS m b) (g9 h))))).trans ((dB ((aU (x:=.int m) (y:=.int m) rfl rfl).trans ?_)).trans rfl)));rw[Bt];simp
def pO(hop: ∀x y,kR op (bD x) (bD y)= .ok (bD (f x y))):
  a8 2 [] (qU (rIx (aD 0) (rK (.int 1))) (rIx (aD 1) (rK (.int 1)))) qw (aT op (aB 0) (aB 1)) [.sh (sw m a),.sh (sw m b)]= .ow ((pd f a b).map bD):=by
 refine wV (.inl (Bu rfl rfl)) ?_;have: ∀(a b:L1 Bool),bC (dQ 2 (kG [] [.sh (sw m a),.sh (sw m b)]) qw (aT op (aB 0) (aB 1))) (((a.map bD).zip (b.map bD)).map λp=>D.tup [p.1,p.2])=pi ((pd f a b).map bD):=by
  intro a;induction a with
  |nil=>intro b;rfl
  |cons x a d=>
   intro b;rcases b with _|⟨y,b⟩;rfl;have:=d b;simp only[kG,oz]at this ⊢;simp only[ni,List.zip_cons_cons,List.zipWith_cons_cons,bC];rw[show dQ 2 [] qw (aT op (aB 0) (aB 1)) (D.tup [bD x,bD y])=pi (pi (bD (f x y))) from by
    have c:aT op (aB 0) (aB 1) [.sh (bD x),.sh (bD y)]= .ok (bD (f x y)):=(bM rfl rfl).trans (hop x y);simp[dQ,tgt,c]]
   simp[this]
 exact this a b
def Iz(g:gQ m a)(h:gQ m b):oB [sw m a,sw m b]= .ok (sw m (pd (· && ·) a b)):=
 aR ((aG (dZ ((dH rfl rfl).trans (pN g h)))).trans (aQ (fH rfl ((d6 (pO λx y=>by cases x<;>cases y<;>rfl)).trans rfl))))
def Bx(g:gQ m a)(h:gQ m b):iF [sw m a,sw m b]= .ok (sw m (pd (· || ·) a b)):=
 aR ((aG (dZ ((dH rfl rfl).trans (pN g h)))).trans (aQ (fH rfl ((d6 (pO λx y=>by cases x<;>cases y<;>rfl)).trans rfl))))
def By(g:gQ m a)(h:gQ m b):iG [sw m a,sw m b]= .ok (sw m (pd (· ^^ ·) a b)):=
 aR ((aG (dZ ((dH rfl rfl).trans (pN g h)))).trans (aQ (fH rfl ((d6 (pO λx y=>by cases x<;>cases y<;>rfl)).trans rfl))))
def Bz(g:gQ m a):jQ [sw m a]= .ok (sw m (a.map (! ·))):=by
 have e:a8 0 [] (rIx (aD 0) (rK (.int 1))) qw (aT .Sub (rK (.int 1)) (aB 0)) [.sh (sw m a)]= .ow ((a.map (! ·)).map bD):=by
  have:=jN (cs:=[]) (it:=rIx (aD 0) (rK (.int 1))) (e:=aT .Sub (rK (.int 1)) (aB 0)) (ρ:=[.sh (sw m a)]) (ds:=a.map bD) (g:=tn) (.inr (.inl rfl)) λd c=>by
   obtain⟨b,_,rfl⟩:=au.1 c;cases b<;>rfl
  rw[this,pe,pe];congr 1;refine ij λb _=>?_;cases b<;>rfl
 exact aR ((aG (dZ ((bK rfl).trans (i5 (kS m a) (g9 g))))).trans (aQ ((fH (x:=.int (m:Nat)) rfl ((d6 e).trans rfl)).trans rfl)))
def j8(h:a ρ= .ex c ρ'):aY a b ρ= .ex c ρ':=by simp[aY,h]
def DN(g:gQ m a)(h:gQ m2 b)(n:m≠m2):bR [sw m a,sw m2 b]= .ex 4:=by
 refine iY (ρ:=[.sh (sw m a),.sh (sw m2 b)]) ((aG (dZ ((bK rfl).trans (i5 (kS m a) (g9 g))))).trans ((aG (dZ ((bK rfl).trans (i5 (kS m2 b) (g9 h))))).trans ((fA ((aU (x:=.int m) (y:=.int m2) rfl rfl).trans ?_)).trans rfl)));rw[Bt,decide_eq_false (by lia)];rfl
noncomputable def Cr x y(h:bR [x,y]= .ex c):oB [x,y]= .ex c/\iF [x,y]= .ex c/\iG [x,y]= .ex c:=
 ⟨iY (ρ:=[.sh x,.sh y]) (j8 (pJ ((dH rfl rfl).trans h))),iY (ρ:=[.sh x,.sh y]) (j8 (pJ ((dH rfl rfl).trans h))),iY (ρ:=[.sh x,.sh y]) (j8 (pJ ((dH rfl rfl).trans h)))⟩
section
variable{h:L1 (Str×D)}
def bH:bI (p::h) y=if p.1=y then pi p.2 else bI h y:=by by_cases e:p.1=y<;>simp[bI,e]
def jR(n:y∉h.map (·.1)):bI h y=qw:=by
 induction h with
 |nil=>rfl
 |cons p r a=>
  rw[bH,if_neg (λe=>n (by simp[e])),a λm=>n (by simp[m])]
def jS(nd:(h.map (·.1)).Nodup)(m:p∈h):bI h p.1=pi p.2:=by
 induction h with
 |nil=>cases m
 |cons q r b=>
  rw[ni,la]at nd;rw[bH];rcases av.1 m with rfl|m;simp;have a: ¬q.1=p.1:=λe=>nd.1 (by rw[e];exact au.2 ⟨p,m,rfl⟩);rw[if_neg a,b nd.2 m]
def BA(e:bI h y=pi v):(y,v)∈h:=by
 induction h with
 |nil=>cases e
 |cons q r a=>
  rw[bH]at e;split at e;rename_i z;cases e;subst z;exact .head _;exact .tail _ (a e)
def fM:(bI h y).isSome=(h.map (·.1)).contains y:=by
 induction h with
 |nil=>rfl
 |cons q r a=>
  rw[bH,ni,List.contains_cons];by_cases e:q.1=y;simp[e];rw[if_neg e,a,show(y==q.1)=q7 from by simpa using λz=>e z.symm];simp
def BB:(h.any λp=>decide (p.1=x))=(bI h x).isSome:=by
 induction h with
 |nil=>rfl
 |cons q r a=>
  rw[nq,bH,a];by_cases e:q.1=x<;>simp[e]
def j9(n:(bI h x).isSome=q7):fY h x d=h++[(x,d)]:=by unfold fY;rw[BB,n];rfl
def pQ(n:(bI h x).isSome=qz):fY h x d=h.map λp=>if p.1=x then(p.1,d)else p:=by unfold fY;rw[BB,n];rfl
def DO:(h.map λp=>if p.1=x then(p.1,d)else p).map (·.1)=h.map (·.1):=by rw[pe];refine ij λp _=>?_;by_cases e:p.1=x<;>simp[e]
def wW(hn:(h.map (·.1)).Nodup):((fY h x d).map (·.1)).Nodup:=by rcases n:(bI h x).isSome with _|_;rw[j9 n,li];refine jv.2 ⟨hn,by simp,λa c b f=>?_⟩;rw[fM]at n;simp at f;subst f;intro e;subst e;simp at n c;obtain⟨v,g⟩:=c;exact n v g;rw[pQ n,DO];exact hn
def IA(m:p∈fY h x d):p=(x,d)\/p∈h:=by rcases n:(bI h x).isSome with _|_;rw[j9 n]at m;rcases k6.1 m with m|m;exact .inr m;left;simpa using m;rw[pQ n]at m;obtain⟨q,a,rfl⟩:=au.1 m;by_cases e:q.1=x;left;simp[e];right;simpa[e]using a
def uS(hn:(h.map (·.1)).Nodup):bI (fY h x d) x=pi d:=by refine jS (wW hn) (p:=(x,d)) ?_;rcases n:(bI h x).isSome with _|_;rw[j9 n];simp;rw[pQ n];obtain⟨v,e⟩:=eh.1 n;exact au.2 ⟨(x,v),BA e,by simp⟩
def sK(hn:(h.map (·.1)).Nodup):((gO h x).map (·.1)).Nodup:=hn.sublist (List.Sublist.map _ List.filter_sublist)
def DP:(h.map (·.1)).zip (h.map (·.2))=h:=by
 induction h with
 |nil=>rfl
 |cons q r a=>simp[a]
theorem LW: ∀(ps acc:L1 (Str×D)),((acc++ps).map (·.1)).Nodup->ps.foldl (λacc p=>fY acc p.1 p.2) acc=acc++ps
 |[],acc,_=>by simp
 |p::r,acc,hn=>by
  have n:(bI acc p.1).isSome=q7:=by
   rw[jR];rfl;rw[li,jv]at hn;intro m;exact hn.2.2 p.1 m p.1 (by simp) rfl
  rw[List.foldl_cons,j9 n,LW r _ (by simpa using hn)];simp
def IB(hn:(h.map (·.1)).Nodup):tV h=h:=by have:=LW h [] (by simpa using hn);exact this
def yG:kJ (h.map λp=>D.tup [.str p.1,p.2])=pi h:=by
 induction h with
 |nil=>rfl
 |cons q r a=>simp[kJ,a]
def BC(hn:(h.map (·.1)).Nodup)(hl:h.length<=1000):nH (.lst (h.map λp=>D.tup [.str p.1,p.2]))= .ok (.dct (h.map (·.1)) (h.map (·.2))):=by simp[nH,yG,hl,IB hn]
end
def dN l:(eY l).Perm l:=eE l
def b9(e:g ρ b= .nx ρ' b'):dY g h ρ b=h ρ' b':=by simp[dY,e]
def mV(e:g ρ b= .rt x ρ' b'):dY g h ρ b= .rt x ρ' b':=by simp[dY,e]
def mW(e:g ρ b= .ex c b'):dY g h ρ b= .ex c b':=by simp[dY,e]
def jT(e:f ρ= .ok d):sB f ρ b= .nx ρ b:=by simp[sB,e,wJ]
def pR(e:f ρ= .ok d):Dl i f ρ b= .nx (ρ.set (i+1) (.sh d)) b:=by simp[Dl,e,wJ]
def uT(e:f ρ= .ex c):Dl i f ρ b= .ex c b:=by simp[Dl,e,wJ]
def IC(e:f ρ= .ok (.bl qz)):mIf f g h ρ b=g ρ b:=by simp[mIf,e]
def LY(e:f ρ= .ok (.bl q7)):mIf f g h ρ b=h ρ b:=by simp[mIf,e]
def pS(e:f ρ= .ok d):sC f ρ b= .rt (.ok d) ρ b:=by simp[sC,e]
def ID(e:f ρ= .ow xs):sC f ρ b= .rt (.ow xs) ρ b:=by simp[sC,e]
def uU(h:e ρ= .ex c):eB e ρ= .ex c ρ:=by simp[eB,h]
noncomputable def NM:L1 Str:=["a","b","gm","xjqp"]
noncomputable def WD:L1 Str:=["both","either","unlike"]
def Sw(d:D):Prop:= ∃m a,gQ m a/\d=sw m a
def lC(hx:x∈NM):cQ [.str x]= .ok .non:=by
 simp only[NM,av,kh,or_false]at hx;rcases hx with rfl|rfl|rfl|rfl<;>kernel_rfl
def LZ(h:Sw d):a9 [d]= .ok .non:=by obtain⟨m,a,g,rfl⟩:=h;exact i5 (kS m a) (g9 g)
def yH(r:Rk)(x:Str):R:=match bI r.held x with|some d=>.ok d|none=>.ex 8
def sL r(hx:x∈NM):aF r [.str x]= .pure (yH r x):=by unfold aF iX yH;show gP 368 (dY _ _ [.rk 368 r,.sh (.str x)] q7)=_;rw[b9 (jT ((bK (x:=.str x) rfl).trans (lC hx)))];rcases e:bI r.held x with _|d;rw[mW (c:=8) (b':=q7)];rfl;rw[IC];rfl;show R.ok (.bl (qz != (bI r.held x).isSome))=_;rw[e];rfl;rw[b9 (ρ':=[.rk 368 r,.sh (.str x)]) (b':=q7)];rw[mV (pS (d:=d) ?_)];rfl;show(match bI r.held x with|some d=>R.ok d|none=>R.bad)=_;rw[e];rw[LY];rfl;show R.ok (.bl (qz != (bI r.held x).isSome))=_;rw[e];rfl
def IE r(hv:qP v=q7)(hl:r.held.length<LIM):aZ r [.str x,v]= .chg .non {r with held:=fY r.held x v}:=by unfold aZ iX;show gP 368 (dY _ _ [.rk 368 r,.sh (.str x),.sh v] q7)=_;rw[b9 (ρ':=[.rk 368 {r with held:=fY r.held x v},.sh (.str x),.sh v]) (b':=qz)];rfl;rw[LY];rw[b9 (ρ':=[.rk 368 {r with held:=fY r.held x v},.sh (.str x),.sh v]) (b':=qz)];rfl;show(if r.held.length<LIM then Do 368 [.rk 368 r,.sh (.str x),.sh v] {r with held:=fY r.held x v} else OutM.bad)=_;rw[if_pos hl];rfl;show R.ok (.bl (qP v))=_;rw[hv]
def DQ r(hh:(bI r.held x).isSome=qz):aZ r [.str x,.non]= .chg .non {r with held:=gO r.held x}:=by unfold aZ iX;show gP 368 (dY _ _ [.rk 368 r,.sh (.str x),.sh .non] q7)=_;rw[b9 (ρ':=[.rk 368 {r with held:=gO r.held x},.sh (.str x),.sh .non]) (b':=qz)];rfl;rw[IC];rw[b9 (ρ':=[.rk 368 {r with held:=gO r.held x},.sh (.str x),.sh .non]) (b':=qz)];rfl;show(if(bI r.held x).isSome then Do 368 [.rk 368 r,.sh (.str x),.sh .non] {r with held:=gO r.held x} else OutM.bad)=_;rw[if_pos hh];rfl;rfl
def i6(r:Rk)(w x:Str)(v:D):D:=.tup [.str w,.str x,(bI r.held x).getD .non,v]
def L4 r(hl:r.done.length<LIM)(hs:aZ ⟨r.held,r.done++[i6 r w x v],[]⟩ [.str x,v]= .chg .non ⟨k,r.done++[i6 r w x v],[]⟩):
  kP r [.str w,.str x,v]= .chg .non ⟨k,r.done++[i6 r w x v],[]⟩:=by
 unfold kP iX;show gP 368 (dY _ _ [.rk 368 r,.sh (.str w),.sh (.str x),.sh v] q7)=_;rw[b9 (ρ':=[.rk 368 {r with done:=r.done++[i6 r w x v]},.sh (.str w),.sh (.str x),.sh v]) (b':=qz)];rw[b9 (g:=wL 368) (ρ':=[.rk 368 ⟨r.held,r.done++[i6 r w x v],[]⟩,.sh (.str w),.sh (.str x),.sh v]) (b':=qz) (by rfl)];rw[b9 (ρ':=[.rk 368 ⟨k,r.done++[i6 r w x v],[]⟩,.sh (.str w),.sh (.str x),.sh v]) (b':=qz)];rfl;show(match aZ ⟨r.held,r.done++[i6 r w x v],[]⟩ [.str x,v]with
  |.pure a=>wJ qz a λ_=>.nx [.rk 368 ⟨r.held,r.done++[i6 r w x v],[]⟩,.sh (.str w),.sh (.str x),.sh v] qz
  |.chg _ b=>OutM.nx [.rk 368 b,.sh (.str w),.sh (.str x),.sh v] qz)=_
 rw[hs];show(if r.done.length<LIM then Do 368 [.rk 368 r,.sh (.str w),.sh (.str x),.sh v] {r with done:=r.done++[i6 r w x v]} else OutM.bad)=_;rw[if_pos hl];rfl
def BD r(hv:qP v=q7)(hl:r.done.length<LIM)(hk:r.held.length<LIM):kP r [.str w,.str x,v]= .chg .non ⟨fY r.held x v,r.done++[i6 r w x v],[]⟩:=L4 r hl (IE ⟨r.held,_,[]⟩ hv hk)
def IF r(hl:r.done.length<LIM)(hh:(bI r.held x).isSome=qz):kP r [.str w,.str x,.non]= .chg .non ⟨gO r.held x,r.done++[i6 r w x .non],[]⟩:=L4 r hl (DQ ⟨r.held,_,[]⟩ hh)
def Sw.nn(h:Sw d):qP d=q7:=by obtain⟨m,a,_,rfl⟩:=h;rfl
def pT{ρ ρ':Rho}(e0:ρ[0]? =pi (.rk 368 r))(ea:args fs ρ= .ok ds)(ed:kP r ds= .chg .non r')(eρ:ρ.set 0 (.rk 368 r')=ρ'):nC 368 kP fs ρ b= .nx ρ' qz:=by simp[nC,mUp,e0,Oh,ea,ed,eρ]
section
variable (r:Rk) {x y z w:Str} {v v':D}
def L5(hx:x∈NM)(hv:Sw v)(hl:r.done.length<LIM)(hk:r.held.length<LIM):gK r [.str x,v]= .chg (.bl (bI r.held x).isSome) ⟨fY r.held x v,r.done++[i6 r "put" x v],[]⟩:=by unfold gK iX;show gP 368 (dY _ _ [.rk 368 r,.sh (.str x),.sh v,.no] q7)=_;rw[b9 (jT ((bK (x:=v) rfl).trans (LZ hv))),b9 (jT ((bK (x:=.str x) rfl).trans (lC hx)))];rw[b9 (ρ':=[.rk 368 r,.sh (.str x),.sh v,.sh (.bl (bI r.held x).isSome)]) (b':=q7)];rw[b9 (pT rfl (ds:=[.str "put",.str x,v]) rfl (BD r hv.nn hl hk) rfl)];rfl;refine(pR (d:=.bl (bI r.held x).isSome) ?_).trans rfl;show R.ok (.bl (q7 != (bI r.held x).isSome))=_;simp
def IG(hx:x∈NM)(hl:r.done.length<LIM)(e:bI r.held x=pi v):d8 r [.str x]= .chg v ⟨gO r.held x,r.done++[i6 r "take" x .non],[]⟩:=by unfold d8 iX;show gP 368 (dY _ _ [.rk 368 r,.sh (.str x),.no] q7)=_;rw[b9 (ρ':=[.rk 368 r,.sh (.str x),.sh v]) (b':=q7)];rw[b9 (pT rfl (ds:=[.str "take",.str x,.non]) rfl (IF r hl (by rw[e];rfl)) rfl)];rfl;refine(pR (d:=v) ?_).trans rfl;show(aF r [.str x]).told=_;rw[sL r hx];unfold yH;rw[e];rfl
def IH(hx:x∈NM)(e:bI r.held x=qw):d8 r [.str x]= .pure (.ex 8):=by unfold d8 iX;show gP 368 (dY _ _ [.rk 368 r,.sh (.str x),.no] q7)=_;rw[mW (uT (c:=8) ?_)];rfl;show(aF r [.str x]).told=_;rw[sL r hx];unfold yH;rw[e];rfl
def II{m}{a}(g:gQ m a)(hx:x∈NM)(hl:r.done.length<LIM)(hk:r.held.length<LIM)(e:bI r.held x=pi (sw m a)):eR r [.str x]= .chg (sw m (a.map (! ·))) ⟨fY r.held x (sw m (a.map (! ·))),r.done++[i6 r "turn" x (sw m (a.map (! ·)))],[]⟩:=by unfold eR iX;show gP 368 (dY _ _ [.rk 368 r,.sh (.str x),.no] q7)=_;rw[b9 (ρ':=[.rk 368 r,.sh (.str x),.sh (sw m (a.map (! ·)))]) (b':=q7)];rw[b9 (pT rfl (ds:=[.str "turn",.str x,sw m (a.map (! ·))]) rfl (BD r rfl hl hk) rfl)];rfl;refine(pR (d:=sw m (a.map (! ·))) ((bK (x:=sw m a) ?_).trans (Bz g))).trans rfl;show(aF r [.str x]).told=_;rw[sL r hx];unfold yH;rw[e];rfl
def IJ(hx:x∈NM)(e:bI r.held x=qw):eR r [.str x]= .pure (.ex 8):=by
 unfold eR iX;show gP 368 (dY _ _ [.rk 368 r,.sh (.str x),.no] q7)=_;have h:bO 368 0 aF [aB 1] [.rk 368 r,.sh (.str x),.no]= .ex 8:=by
  show(aF r [.str x]).told=_;rw[sL r hx];unfold yH;rw[e];rfl
 rw[mW (uT (c:=8) ?_)];rfl;simp[aE,lP,args,h,RA.then]
def IL(hx:x∈NM)(hl:r.done.length<LIM)(hk:r.held.length<LIM)(hv:qP v=q7)(e:aE eO [aB 2,bO 368 0 aF [aB 3],bO 368 0 aF [aB 4]] [.rk 368 r,.sh (.str x),.sh (.str w),.sh (.str y),.sh (.str z),.no]= .ok v):
  d9 r [.str x,.str w,.str y,.str z]= .chg v ⟨fY r.held x v,r.done++[i6 r "join" x v],[]⟩:=by
 unfold d9 iX;show gP 368 (dY _ _ [.rk 368 r,.sh (.str x),.sh (.str w),.sh (.str y),.sh (.str z),.no] q7)=_;rw[b9 (jT ((bK (x:=.str x) rfl).trans (lC hx)))];rw[b9 (ρ':=[.rk 368 r,.sh (.str x),.sh (.str w),.sh (.str y),.sh (.str z),.sh v]) (b':=q7) ((pR e).trans rfl)];rw[b9 (pT rfl (ds:=[.str "join",.str x,v]) rfl (BD r hv hl hk) rfl)];rfl
def BE{c}(hx:x∈NM)(e:aE eO [aB 2,bO 368 0 aF [aB 3],bO 368 0 aF [aB 4]] [.rk 368 r,.sh (.str x),.sh (.str w),.sh (.str y),.sh (.str z),.no]= .ex c):
  d9 r [.str x,.str w,.str y,.str z]= .pure (.ex c):=by
 unfold d9 iX;show gP 368 (dY _ _ [.rk 368 r,.sh (.str x),.sh (.str w),.sh (.str y),.sh (.str z),.no] q7)=_;rw[b9 (jT ((bK (x:=.str x) rfl).trans (lC hx))),mW (uT e)];rfl
def Ff{s}{x' w'}(hy:y∈NM)(hz:z∈NM):(bO 368 0 aF [aB 3] [.rk 368 r,x',w',.sh (.str y),.sh (.str z),s]=yH r y)/\(bO 368 0 aF [aB 4] [.rk 368 r,x',w',.sh (.str y),.sh (.str z),s]=yH r z):=by constructor;show(aF r [.str y]).told=_;rw[sL r hy];rfl;show(aF r [.str z]).told=_;rw[sL r hz];rfl
def BF(hx:x∈NM)(hy:y∈NM)(hz:z∈NM)(e:bI r.held y=qw\/bI r.held z=qw):d9 r [.str x,.str w,.str y,.str z]= .pure (.ex 8):=by refine BE r hx ?_;obtain⟨a,b⟩:=Ff r (s:=.no) (x':=.sh (.str x)) (w':=.sh (.str w)) hy hz;simp only[aE,lP,args,a,b,RA.then,aB,List.getElem?_cons_zero,List.getElem?_cons_succ];unfold yH;rcases e with e|e;simp[e,RA.cons];cases c:bI r.held y<;>simp[e,RA.cons]
noncomputable def opB(w:Str):Bool->Bool->Bool:=if w="both" then(· && ·)else if w="either" then(· || ·)else(· ^^ ·)
def BG{m}{a b}(g:gQ m a)(h:gQ m b)(hw:w∈WD):eO [.str w,sw m a,sw m b]= .ok (sw m (pd (opB w) a b)):=by simp only[WD,av,kh,or_false]at hw;rcases hw with rfl|rfl|rfl;exact aR (dA ((fA (by kernel_rfl)).trans (aQ ((dH (x:=sw m a) (y:=sw m b) rfl rfl).trans (Iz g h)))));exact aR ((aG ((dB (by kernel_rfl)).trans rfl)).trans (dA ((fA (by kernel_rfl)).trans (aQ ((dH (x:=sw m a) (y:=sw m b) rfl rfl).trans (Bx g h))))));exact aR ((aG ((dB (by kernel_rfl)).trans rfl)).trans ((aG ((dB (by kernel_rfl)).trans rfl)).trans (dA ((fA (by kernel_rfl)).trans (aQ ((dH (x:=sw m a) (y:=sw m b) rfl rfl).trans (By g h)))))))
def BH{m m2}{a b}(g:gQ m a)(h:gQ m2 b)(n:m≠m2)(hw:w∈WD):eO [.str w,sw m a,sw m2 b]= .ex 4:=by obtain⟨e,c,d⟩:=Cr _ _ (DN g h n);simp only[WD,av,kh,or_false]at hw;rcases hw with rfl|rfl|rfl;exact iY (j8 ((fA (by kernel_rfl)).trans (uU ((dH (x:=sw m a) (y:=sw m2 b) rfl rfl).trans e))));exact iY ((aG ((dB (by kernel_rfl)).trans rfl)).trans (j8 ((fA (by kernel_rfl)).trans (uU ((dH (x:=sw m a) (y:=sw m2 b) rfl rfl).trans c)))));exact iY ((aG ((dB (by kernel_rfl)).trans rfl)).trans ((aG ((dB (by kernel_rfl)).trans rfl)).trans (j8 ((fA (by kernel_rfl)).trans (uU ((dH (x:=sw m a) (y:=sw m2 b) rfl rfl).trans d))))))
def sM(hy:y∈NM)(hz:z∈NM){s x'}(e1:bI r.held y=pi v)(e2:bI r.held z=pi v'):aE eO [aB 2,bO 368 0 aF [aB 3],bO 368 0 aF [aB 4]] [.rk 368 r,x',.sh (.str w),.sh (.str y),.sh (.str z),s]=eO [.str w,v,v']:=by obtain⟨a,b⟩:=Ff r (s:=s) (x':=x') (w':=.sh (.str w)) hy hz;refine d7 rfl (a.trans ?_) (b.trans ?_);unfold yH;rw[e1];unfold yH;rw[e2]
end
def Qa:aM [.exc 8]= .ok (.str "no label"):=by kernel_rfl
def Qb:aM [.exc 4]= .ok (.str "unlike"):=by kernel_rfl
def IM(e:f ρ= .ok (.bl qz)):ifM f g h ρ=g ρ:=by simp[ifM,e]
def yI(e:f ρ= .ok (.bl q7)):ifM f g h ρ=h ρ:=by simp[ifM,e]
section
variable (r:Rk) {x y z w:Str} {v:D} {ds:L1 D}
def IN{s}{u u'}{b}(h:eS .Eq (.str u) (.str u')= .ok (.bl b)):bF .Eq (rIx (aD 1) (rK (.int 0))) (rK (.str u')) [s,.sh (.tup (.str u::ds))]= .ok (.bl b):=(aU (x:=.str u) (y:=.str u') ((dC (x:=.tup (.str u::ds)) (y:=.int ((0:Nat):Int)) rfl rfl).trans (mQ rfl)) rfl).trans h
def L6{s}{u u'}{b}(h:eS .Eq (.str u) (.str u')= .ok (.bl b)):bF .Eq (rIx (aD 0) (rK (.int 0))) (rK (.str u')) [.sh (.tup (.str u::ds)),s]= .ok (.bl b):=(aU (x:=.str u) (y:=.str u') ((dC (x:=.tup (.str u::ds)) (y:=.int ((0:Nat):Int)) rfl rfl).trans (mQ rfl)) rfl).trans h
def IO:aV r [.tup [.str "put",.str x,v]]=dM aM (gK r [.str x,v]):=by unfold aV HM mT;exact(IM (ρ:=[.rk 368 r,.sh (.tup [.str "put",.str x,v])]) (IN (by kernel_rfl))).trans rfl
def lD:aV r [.tup [.str "join",.str x,.str w,.str y,.str z]]=dM aM (d9 r [.str x,.str w,.str y,.str z]):=by unfold aV HM mT;exact(yI (ρ:=[.rk 368 r,.sh (.tup [.str "join",.str x,.str w,.str y,.str z])]) (IN (by kernel_rfl))).trans ((IM (IN (by kernel_rfl))).trans rfl)
def wX:aV r [.tup [.str "turn",.str x]]=dM aM (eR r [.str x]):=by unfold aV HM mT;refine(yI (ρ:=[.rk 368 r,.sh (.tup [.str "turn",.str x])]) (IN (by kernel_rfl))).trans ((yI (IN (by kernel_rfl))).trans ?_);show dM aM (ifM _ _ _ [.sh (.tup [.str "turn",.str x]),.rk 368 r])=_;rw[IM (L6 (by kernel_rfl))];rfl
def wY:aV r [.tup [.str "take",.str x]]=dM aM (d8 r [.str x]):=by unfold aV HM mT;refine(yI (ρ:=[.rk 368 r,.sh (.tup [.str "take",.str x])]) (IN (by kernel_rfl))).trans ((yI (IN (by kernel_rfl))).trans ?_);show dM aM (ifM _ _ _ [.sh (.tup [.str "take",.str x]),.rk 368 r])=_;rw[yI (L6 (by kernel_rfl))];rfl
end
def Fg:bF .Eq (rIx (aD i) (rK (.int 0))) (rK (.str u)) ρ≠ .ex c:=by
 have d: ∀x y c,dIx x y≠ .ex c:=λx y c=>by
  unfold dIx ixS
  repeat' split
  all_goals exact λz=>nomatch z
 have b: ∀x y c,eS .Eq x y≠ .ex c:=λx y c=>by
  unfold eS oM
  dsimp only
  repeat' split
  all_goals exact λz=>nomatch z
 have f: ∀c,aD i ρ≠ .ex c:=λc=>by
  unfold aD
  repeat' split
  all_goals exact λz=>nomatch z
 intro z;unfold bF rIx at z
 cases e:aD i ρ with
 |ok x=>
  rw[e]at z
  cases a:dIx x (.int 0)with
  |ok y=>simp only[R.bind,rK,a]at z;exact b _ _ _ z
  |ow y=>simp only[R.bind,rK,a]at z;exact b _ _ _ z
  |ex y=>exact d _ _ _ a
  |bad=>simp only[R.bind,rK,a]at z;cases z
 |ow x=>
  rw[e]at z
  cases a:dIx (.lst x) (.int 0)with
  |ok y=>simp only[R.bind,rK,a]at z;exact b _ _ _ z
  |ow y=>simp only[R.bind,rK,a]at z;exact b _ _ _ z
  |ex y=>exact d _ _ _ a
  |bad=>simp only[R.bind,rK,a]at z;cases z
 |ex c=>exact f _ e
 |bad=>rw[e]at z;cases z
def Fh(hf: ∀c,f ρ≠ .ex c)(hg: ∀c,g ρ≠ .pure (.ex c))(hh: ∀c,h ρ≠ .pure (.ex c))c:ifM f g h ρ≠ .pure (.ex c):=by intro z;unfold ifM at z;split at z;split at z;exact hg c z;exact hh c z;rename_i e;exact hf _ e;cases z
def pU{F}c:uN F cap g ρ≠ .pure (.ex c):=by intro z;unfold uN at z;split at z;rename_i a _;rcases e:g a with r|⟨x,r⟩;rw[e]at z;exact wP r c (RM.pure.inj z);rw[e]at z;cases z;cases z
def L8 r ds c:aV r ds≠ .pure (.ex c):=by unfold aV HM mT;exact Fh (λ_=>Fg) pU (Fh (λ_=>Fg) pU pU) c
def Fj(d:D):Prop:=(∃x∈NM, ∃v,Sw v/\d= .tup [.str "put",.str x,v])\/(∃x∈NM,d= .tup [.str "take",.str x])\/(∃x∈NM,d= .tup [.str "turn",.str x])\/
 (∃x∈NM, ∃w∈WD, ∃y∈NM, ∃z∈NM,d= .tup [.str "join",.str x,.str w,.str y,.str z])
def IP(h:p<4): ∃x∈NM,dIx (.lst (NM.map D.str)) (.int (p:Nat))= .ok (.str x):=
 ⟨NM[p]'h,kr _,g6 (by rw[ji,bd (show p<NM.length from h)];rfl)⟩
def Ov(h:p<3): ∃x∈WD,dIx (.lst (WD.map D.str)) (.int (p:Nat))= .ok (.str x):=
 ⟨WD[p]'h,kr _,g6 (by rw[ji,bd (show p<WD.length from h)];rfl)⟩
noncomputable def MN:L1 Nat:=[2,2,2,1,3,4,0]
def Ow(h:p<7): ∃m,m<=4/\dIx (.lst (MN.map λ(i:Nat)=>D.int (i:Int))) (.int (p:Nat))= .ok (.int (m:Nat)):=by
 refine⟨MN[p]'h,?_,g6 (by rw[ji,bd (show p<MN.length from h)];rfl)⟩;have: ∀m∈MN,m<=4:=by decide
 exact this _ (kr _)
def Ox(h1:a ρ= .ok x)(h2:b ρ= .ok y)(h3:c ρ= .ok z)(h4:d ρ= .ok u)(h5:e ρ= .ok v):eQ [a,b,c,d,e] ρ= .ok (.tup [x,y,z,u,v]):=by simp[eQ,lP,args,h1,h2,h3,h4,h5,RA.cons,RA.then]
def Oy i j:eS .Lt (.int i) (.int j)= .ok (.bl (decide (i<j))):=rfl
def L9 ks vs: ∃b,eS .Eq (.dct ks vs) (.dct [] [])= .ok (.bl b):=by
 have:(vs.all λd=>([]:L1 D).all λe=>i8 d e)=qz:=by simp
 refine⟨q7 != Eg (ks.zip vs) [],?_⟩;simp only[eS,show i8 (.dct ks vs) (.dct [] [])=q7 from by simp[i8,plain],az,if_false,oM,this,if_true,List.zip_nil_left]
set_option maxHeartbeats 4000000 in
def BI ns n ks vs: ∃d,cS [Sc ns,.int (n:Nat),.dct ks vs]= .ok d/\Fj d:=by
 obtain⟨p,X,lp⟩:=cV ns n (m:=4) (by decide);obtain⟨q,N,lq⟩:=cV ns (n+1) (m:=8) (by decide);obtain⟨x,r,ex⟩:=IP lp;obtain⟨W,E⟩:=L9 ks vs;let j:Rho:=[.sh (Sc ns),.sh (.int (n:Nat)),.sh (.dct ks vs),.sh (.lst (NM.map D.str)),.no,.no,.no,.no];let e:Rho:=[.sh (Sc ns),.sh (.int (n:Nat)),.sh (.dct ks vs),.sh (.lst (NM.map D.str)),.sh (.str x),.sh (.int (q:Nat)),.no,.no];have S:gL 3 (jV [rK (.str "a"),rK (.str "b"),rK (.str "gm"),rK (.str "xjqp")]) [.sh (Sc ns),.sh (.int (n:Nat)),.sh (.dct ks vs),.no,.no,.no,.no,.no]= .nx j:=Bj rfl;have s2:eU [4,5] (eQ [rIx (aD 3) (aE aI [aB 0,aB 1,rK (.int 4)]),aE aI [aB 0,aT .Add (aB 1) (rK (.int 1)),rK (.int 8)]]) j= .nx e:=
  f9 (fH ((dC (x:=.lst (NM.map D.str)) rfl ((d7 (x:=Sc ns) (y:=.int (n:Nat)) (z:=.int ((4:Nat):Int)) rfl rfl rfl).trans X)).trans ex) ((d7 (x:=Sc ns) (y:=.int ((n+1:Nat):Int)) (z:=.int ((8:Nat):Int)) rfl rfl rfl).trans N)) rfl
 have hc: ∃b,rOr (bF .Lt (aB 5) (rK (.int 3))) (bF .Eq (aB 2) (lS)) e= .ok (.bl b):=by
  have G:bF .Lt (aB 5) (rK (.int 3)) e= .ok (.bl (decide ((q:Int)<3))):=(aU (x:=.int (q:Nat)) (y:=.int 3) rfl rfl).trans (Oy _ _);cases K:decide ((q:Int)<3)with
  |true=>exact⟨qz,Im (G.trans (by rw[K]))⟩
  |false=>exact⟨W,(uQ (G.trans (by rw[K]))).trans ((aU (x:=.dct ks vs) (y:=.dct [] []) rfl rfl).trans E)⟩
 obtain⟨b,H⟩:=hc;have o: ∀{d:D} {dO:FS},dO e= .rt (.ok d)->aY (gL 3 (jV [rK (.str "a"),rK (.str "b"),rK (.str "gm"),rK (.str "xjqp")])) (aY (eU [4,5] (eQ [rIx (aD 3) (aE aI [aB 0,aB 1,rK (.int 4)]),aE aI [aB 0,aT .Add (aB 1) (rK (.int 1)),rK (.int 8)]])) dO) [.sh (Sc ns),.sh (.int (n:Nat)),.sh (.dct ks vs),.no,.no,.no,.no,.no]= .rt (.ok d):=λh=>(aG S).trans ((aG s2).trans h);rcases b with _|_;have g: ∀{dO:FS} {a:FS} {d:D},dO e= .rt (.ok d)->aY (sIf (rOr (bF .Lt (aB 5) (rK (.int 3))) (bF .Eq (aB 2) (lS))) a aX) dO e= .rt (.ok d):=λh=>(aG ((dB H).trans rfl)).trans h;have I:bF .Eq (aB 5) (rK (.int 3)) e= .ok (.bl (decide ((q:Int)=3))):=(aU (x:=.int (q:Nat)) (y:=.int 3) rfl rfl).trans (Iw _ _);have J:bF .Eq (aB 5) (rK (.int 4)) e= .ok (.bl (decide ((q:Int)=4))):=(aU (x:=.int (q:Nat)) (y:=.int 4) rfl rfl).trans (Iw _ _);by_cases l:(q:Int)=3;exact⟨.tup [.str "take",.str x],aR (o (g (dA ((fA (I.trans (by simp[l]))).trans (aQ (fH rfl rfl)))))),.inr (.inl ⟨x,r,rfl⟩)⟩;have L:=I.trans (show _=R.ok (.bl q7) from by simp[l]);by_cases s:(q:Int)=4;exact⟨.tup [.str "turn",.str x],aR (o (g ((aG ((dB L).trans rfl)).trans (dA ((fA (J.trans (by simp[s]))).trans (aQ (fH rfl rfl))))))),.inr (.inr (.inl ⟨x,r,rfl⟩))⟩;have k4:=J.trans (show _=R.ok (.bl q7) from by simp[s]);obtain⟨t,C,lt⟩:=cV ns (n+3) (m:=3) (by decide);obtain⟨w,M,ew⟩:=Ov lt;obtain⟨t1,A,B⟩:=cV ns (n+4) (m:=4) (by decide);obtain⟨y,my,ey⟩:=IP B;obtain⟨t2,u,v⟩:=cV ns (n+5) (m:=4) (by decide);obtain⟨z,mz,Q⟩:=IP v;refine⟨.tup [.str "join",.str x,.str w,.str y,.str z],aR (o (g ((aG ((dB L).trans rfl)).trans ((aG ((dB k4).trans rfl)).trans ((aG (dR (d:=.str w) ?_)).trans (aQ ?_)))))),.inr (.inr (.inr ⟨x,r,w,M,y,my,z,mz,rfl⟩))⟩;exact(wU (x:=WD.map D.str) rfl ((d7 (x:=Sc ns) (y:=.int ((n+3:Nat):Int)) (z:=.int ((3:Nat):Int)) rfl rfl rfl).trans C)).trans ew;have T:=(dC (a:=aD 3) (b:=aE aI [aB 0,aT .Add (aB 1) (rK (.int 4)),rK (.int 4)]) (ρ:=e.set 7 (.sh (.str w))) (x:=.lst (NM.map D.str)) rfl ((d7 (x:=Sc ns) (y:=.int ((n+4:Nat):Int)) (z:=.int ((4:Nat):Int)) rfl rfl rfl).trans A)).trans ey;have O:=(dC (a:=aD 3) (b:=aE aI [aB 0,aT .Add (aB 1) (rK (.int 5)),rK (.int 4)]) (ρ:=e.set 7 (.sh (.str w))) (x:=.lst (NM.map D.str)) rfl ((d7 (x:=Sc ns) (y:=.int ((n+5:Nat):Int)) (z:=.int ((4:Nat):Int)) rfl rfl rfl).trans u)).trans Q;have s:aB 4 (e.set 7 (.sh (.str w)))= .ok (.str x):=rfl;have h7:aB 7 (e.set 7 (.sh (.str w)))= .ok (.str w):=rfl;exact Ox rfl s h7 T O;obtain⟨t,C,lt⟩:=cV ns (n+2) (m:=7) (by decide);obtain⟨m,U,em⟩:=Ow lt;obtain⟨bs,gb,Z⟩:=DM ns (n+10) U;refine⟨.tup [.str "put",.str x,sw m bs],aR (o (dA ((fA H).trans ?_))),.inl ⟨x,r,_,⟨m,bs,gb,rfl⟩,rfl⟩⟩;have Y:gL 6 (rIx (jV [rK (.int 2),rK (.int 2),rK (.int 2),rK (.int 1),rK (.int 3),rK (.int 4),rK (.int 0)]) (aE aI [aB 0,aT .Add (aB 1) (rK (.int 2)),rK (.int 7)])) e= .nx [.sh (Sc ns),.sh (.int (n:Nat)),.sh (.dct ks vs),.sh (.lst (NM.map D.str)),.sh (.str x),.sh (.int (q:Nat)),.sh (.int (m:Nat)),.no]:=
  dR ((wU (x:=MN.map λ(i:Nat)=>D.int (i:Int)) rfl ((d7 (x:=Sc ns) (y:=.int ((n+2:Nat):Int)) (z:=.int ((7:Nat):Int)) rfl rfl rfl).trans C)).trans em)
 refine(aG Y).trans (aQ ?_);have l:=(d7 (f:=dD) (a:=aB 0) (b:=aT .Add (aB 1) (rK (.int 10))) (c:=aB 6) (ρ:=[.sh (Sc ns),.sh (.int (n:Nat)),.sh (.dct ks vs),.sh (.lst (NM.map D.str)),.sh (.str x),.sh (.int (q:Nat)),.sh (.int (m:Nat)),.no]) (x:=Sc ns) (y:=.int ((n+10:Nat):Int)) (z:=.int (m:Nat)) rfl rfl rfl).trans Z;simp[eQ,lP,args,l,RA.cons,RA.then,rK,aB]
noncomputable abbrev bX(h:L1 (Str×D)):D:=.dct (h.map (·.1)) (h.map (·.2))
def OkH(h:L1 (Str×D)):Prop:=(h.map (·.1)).Nodup/\∀p∈h,p.1∈NM/\Sw p.2
def wZ(h:x∈NM):plain (.str x)=qz:=by simp only[NM,av,kh,or_false]at h;rcases h with rfl|rfl|rfl|rfl<;>kernel_rfl
def Oz(hx:x∈NM)(hy:y∈NM):i8 (.str x) (.str y)=qz:=iZ (wZ hx) (wZ hy) (by simp[dep])
def Mb(hx:x∈NM)(hy:y∈NM):eS .NotEq (.str x) (.str y)= .ok (.bl (decide (x≠y))):=by rw[pM (Oz hx hy)];by_cases e:x=y<;>simp[deq,e]
def Mc h x:eS .In (.str x) (bX h)= .ok (.bl (bI h x).isSome):=by rw[fM];show R.ok (.bl (q7 != (h.map (·.1)).contains x))=_;simp
def kA h x:eS .NotIn (.str x) (bX h)= .ok (.bl (!(bI h x).isSome)):=by rw[fM];show R.ok (.bl (qz != (h.map (·.1)).contains x))=_;simp
def gW(e:bI h x=pi v):dIx (bX h) (.str x)= .ok v:=by show(match bI ((h.map (·.1)).zip (h.map (·.2))) x with|some d=>R.ok d|none=>.bad)=_;rw[DP,e]
theorem w4{f}{c:Str×D->Bool}{e}: ∀{h:L1 (Str×D)},(∀p∈h,f (.str p.1)=pi (if c p then pi (e p)else qw))->bC f (h.map λp=>D.str p.1)=pi ((h.filter c).map e)
 |[],_=>rfl
 |p::r,H=>by
  have a:=w4 (h:=r) λq m=>H q (.tail _ m);rw[ni];unfold bC;rw[H p (.head _),kc];cases c p<;>simp[a]
section
variable{h:L1 (Str×D)}{d:D}
abbrev st0(h:L1 (Str×D))(d:D):Rho:=[.sh (bX h),.sh d,.no,.no,.no,.no,.no]
abbrev st1(h:L1 (Str×D))(d:D)(k:L1 (Str×D)):Rho:=[.sh (bX h),.sh d,.dc k,.no,.no,.no,.no]
def pV:nG 2 (aB 0) (st0 h d)= .nx (st1 h d h):=by show Out.nx [.sh (bX h),.sh d,.dc ((h.map (·.1)).zip (h.map (·.2))),.no,.no,.no,.no]=_;rw[DP]
def isw(h1:aD 1 ρ= .ok (.tup (.str u::ds)))(h:eS .Eq (.str u) (.str u')= .ok (.bl b)):bF .Eq (rIx (aD 1) (rK (.int 0))) (rK (.str u')) ρ= .ok (.bl b):=
 (aU (x:=.str u) (y:=.str u') ((dC (x:=.tup (.str u::ds)) (y:=.int ((0:Nat):Int)) h1 rfl).trans (mQ rfl)) rfl).trans h
def BJ(he:e ρ= .ok v)(hk:k ρ= .ok (.str x))(h2:ρ[2]? =pi (.dc kvs))(hl:kvs.length<LIM):yM 2 k e ρ= .nx (ρ.set 2 (.dc (fY kvs x v))):=by simp[yM,he,hk,h2,fN,hl]
def OA(hl:h.length<LIM):aN [bX h,.tup [.str "put",.str x,v]]= .ok (.tup [bX (fY h x v),.bl (bI h x).isSome]):=
 aR ((aG pV).trans (dA ((fA (isw rfl (by kernel_rfl))).trans ((aG (BJ rfl rfl rfl hl)).trans (aQ (ρ:=[.sh (bX h),.sh (.tup [.str "put",.str x,v]),.sh (bX (fY h x v)),.no,.no,.no,.no]) (fH rfl ((aU (x:=.str x) (y:=bX h) rfl rfl).trans (Mc h x))))))))
def Pk(h1:eS .Eq (.str u) (.str "put")= .ok (.bl q7))(h2:eS .Eq (.str u) (.str "join")= .ok (.bl q7))(e:bI h x=qw):aN [bX h,.tup [.str u,.str x]]= .ok (.tup [bX h,.str "no label"]):=
 aR ((aG pV).trans ((aG ((dB (isw rfl h1)).trans rfl)).trans ((aG ((dB (isw rfl h2)).trans rfl)).trans (dA ((fA ((aU (x:=.str x) (y:=bX h) rfl rfl).trans ((kA h x).trans (by rw[e];rfl)))).trans (aQ (fH rfl rfl)))))))
def Me(h1:eS .Eq (.str u) (.str "put")= .ok (.bl q7))(h2:eS .Eq (.str u) (.str "join")= .ok (.bl q7))(e:bI h x=pi v)(hr:dO (st1 h (.tup [.str u,.str x]) h)=r):
  aY (nG 2 (aB 0)) (aY (sIf (bF .Eq (rIx (aD 1) (rK (.int 0))) (rK (.str "put"))) a aX) (aY (sIf (bF .Eq (rIx (aD 1) (rK (.int 0))) (rK (.str "join"))) b aX) (aY (sIf (bF .NotIn (rIx (aD 1) (rK (.int 1))) (aB 0)) c aX) dO))) (st0 h (.tup [.str u,.str x]))=r:=
 ((aG pV).trans ((aG ((dB (isw rfl h1)).trans rfl)).trans ((aG ((dB (isw rfl h2)).trans rfl)).trans ((aG ((dB ((aU (x:=.str x) (y:=bX h) rfl rfl).trans ((kA h x).trans (by rw[e];rfl)))).trans rfl)).trans hr))))
def Mf(hn:(h.map (·.1)).Nodup)(hl:h.length<LIM)(e:bI h x=pi (sw m a)):aN [bX h,.tup [.str "turn",.str x]]= .ok (.tup [bX (fY h x (sw m (a.map (! ·)))),sw m (a.map (! ·))]):=by
 refine aR (Me (by kernel_rfl) (by kernel_rfl) e (dA ((fA (isw rfl (by kernel_rfl))).trans ((aG (BJ (v:=sw m (a.map (! ·))) (fH (x:=.int (m:Nat)) ?_ ?_) rfl rfl hl)).trans ?_))));exact(dC (x:=sw m a) (y:=.int 0) ((dC (x:=bX h) (y:=.str x) rfl rfl).trans (gW e)) rfl).trans rfl;refine(d6 (x:=(a.map (! ·)).map bD) ?_).trans rfl;have:=jN (cs:=[]) (it:=rIx (rIx (aD 0) (rIx (aD 1) (rK (.int 1)))) (rK (.int 1))) (e:=aT .Sub (rK (.int 1)) (aB 0)) (ρ:=st1 h (.tup [.str "turn",.str x]) h) (ds:=a.map bD) (g:=tn) (.inr (.inl ((dC (x:=sw m a) (y:=.int 1) ((dC (x:=bX h) (y:=.str x) rfl rfl).trans (gW e)) rfl).trans rfl))) λd c=>by
  obtain⟨b,_,rfl⟩:=au.1 c;cases b<;>rfl
 rw[this,pe,pe];congr 1;refine ij λb _=>?_;cases b<;>rfl;exact aQ (ρ:=[.sh (bX h),.sh (.tup [.str "turn",.str x]),.sh (bX (fY h x (sw m (a.map (! ·))))),.no,.no,.no,.no]) (fH rfl ((dC (x:=bX (fY h x (sw m (a.map (! ·))))) (y:=.str x) rfl rfl).trans (gW (uS hn))))
def Mg(hh:OkH h)(hl:h.length<=1000)(hx:x∈NM)(e:bI h x=pi v):aN [bX h,.tup [.str "take",.str x]]= .ok (.tup [bX (gO h x),v]):=by
 refine aR (Me (by kernel_rfl) (by kernel_rfl) e ((aG ((dB (isw rfl (by kernel_rfl))).trans rfl)).trans (aQ (fH ?_ ((dC (x:=bX h) (y:=.str x) rfl rfl).trans (gW e))))));have b:a8 0 [1,0] (aD 0) (pi (bF .NotEq (aB 0) (rIx (aD 1) (rK (.int 1))))) (eQ [aB 0,rIx (aD 2) (aB 0)]) (st1 h (.tup [.str "take",.str x]) h)= .ow ((gO h x).map λp=>D.tup [.str p.1,p.2]):=by
  show(match(if(h.map (·.1)).length<=1000 then pi ((h.map (·.1)).map D.str)else qw)with
   |some g=>(match bC (dQ 0 (kG [1,0] (st1 h (.tup [.str "take",.str x]) h)) (pi (bF .NotEq (aB 0) (rIx (aD 1) (rK (.int 1))))) (eQ [aB 0,rIx (aD 2) (aB 0)])) g with|some xs=>R.ow xs|none=>.bad)
   |none=>.bad)=_
  rw[if_pos (by simpa using hl),pe];have:=w4 (h:=h) (f:=dQ 0 (kG [1,0] (st1 h (.tup [.str "take",.str x]) h)) (pi (bF .NotEq (aB 0) (rIx (aD 1) (rK (.int 1))))) (eQ [aB 0,rIx (aD 2) (aB 0)])) (c:=λp=>decide (p.1≠x)) (e:=λp=>D.tup [.str p.1,p.2]) λp a=>by
   have d:bF .NotEq (aB 0) (rIx (aD 1) (rK (.int 1))) [.sh (.str p.1),.sh (.tup [.str "take",.str x]),.sh (bX h)]= .ok (.bl (decide (p.1≠x))):=(aU (x:=.str p.1) (y:=.str x) rfl rfl).trans (Mb (hh.2 p a).1 hx);have j:eQ [aB 0,rIx (aD 2) (aB 0)] [.sh (.str p.1),.sh (.tup [.str "take",.str x]),.sh (bX h)]= .ok (.tup [.str p.1,p.2]):=fH rfl ((dC (x:=bX h) (y:=.str p.1) rfl rfl).trans (gW (jS hh.1 a)));show(match bF .NotEq (aB 0) (rIx (aD 1) (rK (.int 1))) [.sh (.str p.1),.sh (.tup [.str "take",.str x]),.sh (bX h)]with
    |.ok (.bl qz)=>(match eQ [aB 0,rIx (aD 2) (aB 0)] [.sh (.str p.1),.sh (.tup [.str "take",.str x]),.sh (bX h)]with|.ok x=>pi (pi x)|.ow xs=>pi (pi (.lst xs))|_=>qw)
    |.ok (.bl q7)=>pi qw
    |_=>qw)=_
   rw[d,j];cases decide (p.1≠x)<;>rfl
  have i:(h.map (D.str ∘ λp=>p.1))=h.map λp=>D.str p.1:=rfl;rw[i];dsimp only;rw[this];rfl
 show(a8 0 [1,0] (aD 0) (pi (bF .NotEq (aB 0) (rIx (aD 1) (rK (.int 1))))) (eQ [aB 0,rIx (aD 2) (aB 0)]) (st1 h (.tup [.str "take",.str x]) h)).bind nH=_;rw[b];exact BC (sK hh.1) (om (List.length_filter_le _ _) hl)
end
def prs(a b:L1 Bool):L1 D:=((a.map bD).zip (b.map bD)).map λp=>D.tup [p.1,p.2]
def pW(h5:aD 5 ρ= .ok (.lst (prs a b)))(he: ∀x y,e [.sh (bD x),.sh (bD y)]= .ok (bD (f x y))):
  a8 2 [] (aD 5) qw e ρ= .ow ((pd f a b).map bD):=by
 refine wV (.inl h5) ?_;have: ∀(a b:L1 Bool),bC (dQ 2 [] qw e) (prs a b)=pi ((pd f a b).map bD):=by
  intro a;induction a with
  |nil=>intro b;rfl
  |cons x a d=>
   intro b;rcases b with _|⟨y,b⟩;rfl;have:=d b;show bC (dQ 2 [] qw e) (D.tup [bD x,bD y]::prs a b)=pi (bD (f x y)::(pd f a b).map bD);unfold bC;rw[show dQ 2 [] qw e (D.tup [bD x,bD y])=pi (pi (bD (f x y))) from by
    have c:=he x y;simp[dQ,tgt,c]]
   simp[this]
 exact this a b
section
variable{h:L1 (Str×D)}{x y z w:Str}{v v' d:D}
noncomputable abbrev jD(x w y z:Str):D:=.tup [.str "join",.str x,.str w,.str y,.str z]
def BK{r:Out}(hr:dO (st1 h (jD x w y z) h)= .rt (.ok d)):
  aY (nG 2 (aB 0)) (aY (sIf (bF .Eq (rIx (aD 1) (rK (.int 0))) (rK (.str "put"))) a aX) (aY (sIf (bF .Eq (rIx (aD 1) (rK (.int 0))) (rK (.str "join"))) dO aX) b)) (st0 h (jD x w y z))= .rt (.ok d):=
 (aG pV).trans ((aG ((dB (isw rfl (by kernel_rfl))).trans rfl)).trans (dA ((fA (isw rfl (by kernel_rfl))).trans hr)))
def Mh(e:bI h y=qw\/bI h z=qw):aN [bX h,jD x w y z]= .ok (.tup [bX h,.str "no label"]):=by refine aR (BK (r:=.rt .bad) (dA ((fA ?_).trans (aQ (fH rfl rfl)))));have b:bF .NotIn (rIx (aD 1) (rK (.int 3))) (aB 0) (st1 h (jD x w y z) h)= .ok (.bl (!(bI h y).isSome)):=(aU (x:=.str y) (y:=bX h) rfl rfl).trans (kA h y);have c:bF .NotIn (rIx (aD 1) (rK (.int 4))) (aB 0) (st1 h (jD x w y z) h)= .ok (.bl (!(bI h z).isSome)):=(aU (x:=.str z) (y:=bX h) rfl rfl).trans (kA h z);rcases a:bI h y with _|v;exact Im (b.trans (by rw[a];rfl));rcases e with e|e;rw[a]at e;cases e;exact(uQ (b.trans (by rw[a];rfl))).trans (c.trans (by rw[e];rfl))
abbrev st2(h:L1 (Str×D))(d v v':D):Rho:=[.sh (bX h),.sh d,.dc h,.sh v,.sh v',.no,.no]
def Fk(e1:bI h y=pi v)(e2:bI h z=pi v')(hr:dO (st2 h (jD x w y z) v v')= .rt (.ok d)):
  aY (sIf (rOr (bF .NotIn (rIx (aD 1) (rK (.int 3))) (aB 0)) (bF .NotIn (rIx (aD 1) (rK (.int 4))) (aB 0))) a aX) (aY (eU [3,4] (eQ [rIx (aD 0) (rIx (aD 1) (rK (.int 3))),rIx (aD 0) (rIx (aD 1) (rK (.int 4)))])) dO) (st1 h (jD x w y z) h)= .rt (.ok d):=by
 have b:bF .NotIn (rIx (aD 1) (rK (.int 3))) (aB 0) (st1 h (jD x w y z) h)= .ok (.bl q7):=(aU (x:=.str y) (y:=bX h) rfl rfl).trans ((kA h y).trans (by rw[e1];rfl));have c:bF .NotIn (rIx (aD 1) (rK (.int 4))) (aB 0) (st1 h (jD x w y z) h)= .ok (.bl q7):=(aU (x:=.str z) (y:=bX h) rfl rfl).trans ((kA h z).trans (by rw[e2];rfl));refine(aG ((dB ((uQ b).trans c)).trans rfl)).trans ((aG (f9 (ds:=[v,v']) (fH ?_ ?_) rfl)).trans hr);exact(dC (x:=bX h) (y:=.str y) rfl rfl).trans (gW e1);exact(dC (x:=bX h) (y:=.str z) rfl rfl).trans (gW e2)
def Mi(e1:bI h y=pi (sw m a))(e2:bI h z=pi (sw m2 b))(n:m≠m2):aN [bX h,jD x w y z]= .ok (.tup [bX h,.str "unlike"]):=
 aR (BK (r:=.rt .bad) (Fk e1 e2 (dA ((fA ((aU (x:=.int (m:Nat)) (y:=.int (m2:Nat)) rfl rfl).trans (by rw[Bt,decide_eq_false (by lia)];rfl))).trans (aQ (fH rfl rfl))))))
def OB(hn:(h.map (·.1)).Nodup)(hl:h.length<LIM)(hw:w∈WD)(e1:bI h y=pi (sw m a))(e2:bI h z=pi (sw m b)):
  aN [bX h,jD x w y z]= .ok (.tup [bX (fY h x (sw m (pd (opB w) a b))),sw m (pd (opB w) a b)]):=by
 let e:Rho:=[.sh (bX h),.sh (jD x w y z),.dc h,.sh (sw m a),.sh (sw m b),.sh (.lst (prs a b)),.no];have o:a8 2 [] (aD 5) qw (aT .Mult (aB 0) (aB 1)) e= .ow ((pd (· && ·) a b).map bD):=pW rfl λx y=>by cases x<;>cases y<;>rfl
 have l:a8 2 [] (aD 5) qw (aE B4 [bF .Gt (aT .Add (aB 0) (aB 1)) (rK (.int 0))]) e= .ow ((pd (· || ·) a b).map bD):=pW rfl λx y=>by cases x<;>cases y<;>rfl
 let dd:D:=.dct ["both","either"] [.lst ((pd (· && ·) a b).map bD),.lst ((pd (· || ·) a b).map bD)];let c:Rho:=[.sh (bX h),.sh (jD x w y z),.dc h,.sh (sw m a),.sh (sw m b),.sh (.lst (prs a b)),.sh dd];have i:a8 2 [] (aD 5) qw (aE B4 [bF .Eq (aT .Add (aB 0) (aB 1)) (rK (.int 1))]) c= .ow ((pd (· ^^ ·) a b).map bD):=pW rfl λx y=>by cases x<;>cases y<;>rfl
 refine aR (BK (r:=.rt .bad) (Fk e1 e2 ((aG ((dB ((aU (x:=.int (m:Nat)) (y:=.int (m:Nat)) rfl rfl).trans (by rw[Bt];simp))).trans rfl)).trans ((aG (ρ':=e) ?_).trans ((aG (ρ':=c) ?_).trans ((aG (BJ (x:=x) (v:=sw m (pd (opB w) a b)) (fH (x:=.int (m:Nat)) rfl ?_) rfl rfl hl)).trans ?_))))));exact Bj ((bK (Bu (xs:=a.map bD) (ys:=b.map bD) rfl rfl)).trans rfl);refine dR (d:=dd) ?_;have f: ¬(("both":Str)="either"):=by decide
 simp only[vC,o,l,R.bind,if_neg f];rfl;have n:rB (aB 6) (rIx (aD 1) (rK (.int 2))) (a8 2 [] (aD 5) qw (aE B4 [bF .Eq (aT .Add (aB 0) (aB 1)) (rK (.int 1))])) c= .ok (.lst ((pd (opB w) a b).map bD)):=by
  have j:aB 6 c= .ok dd:=rfl;have g:rIx (aD 1) (rK (.int 2)) c= .ok (.str w):=rfl;simp only[rB,j,g,i,R.bind];show R.ok ((bI [("both",.lst ((pd (· && ·) a b).map bD)),("either",.lst ((pd (· || ·) a b).map bD))] w).getD (.lst ((pd (· ^^ ·) a b).map bD)))=_;simp only[WD,av,kh,or_false]at hw;rcases hw with rfl|rfl|rfl;rw[bH,if_pos rfl];rfl;rw[bH,if_neg (show ¬(("both":Str)="either") by decide),bH,if_pos rfl];rfl;rw[bH,if_neg (show ¬(("both":Str)="unlike") by decide),bH,if_neg (show ¬(("either":Str)="unlike") by decide)];rfl
 exact(bK n).trans rfl;exact aQ (ρ:=[.sh (bX h),.sh (jD x w y z),.sh (bX (fY h x (sw m (pd (opB w) a b)))),.sh (sw m a),.sh (sw m b),.sh (.lst (prs a b)),.sh dd]) (fH rfl ((dC (x:=bX (fY h x (sw m (pd (opB w) a b)))) (y:=.str x) rfl rfl).trans (gW (uS hn))))
end
def OkH.put(o:OkH h)(hx:x∈NM)(hv:Sw v):OkH (fY h x v):=⟨wW o.1,λp m=>by
 rcases IA m with rfl|m;exact⟨hx,hv⟩;exact o.2 p m⟩
def OkH.drop(o:OkH h):OkH (gO h x):=⟨sK o.1,λp m=>o.2 p (kz.1 m).1⟩
def OkH.get(o:OkH h)(e:bI h x=pi v): ∃m a,gQ m a/\v=sw m a:=(o.2 _ (BA e)).2
def Due(d:D):Prop:=plain d=qz/\dep d<=60
def BL m a:Due (sw m a):=⟨kS m a,Fe m a⟩
def BM(h:plain (.str x)=qz):Due (.str x):=⟨h,by simp[dep]⟩
def yJ(h:L1 (Str×D)):L1 D:=(eY (h.map (·.1))).map D.str
def BN{h:L1 (Str×D)}(m:k∈eY (h.map (·.1))):k∈h.map (·.1):=(dN _).mem_iff.1 m
def uV(o:OkH h)(m:k∈h.map (·.1)): ∃v,bI h k=pi v/\k∈NM/\Sw v:=by obtain⟨p,a,rfl⟩:=au.1 m;exact⟨p.2,jS o.1 a,o.2 p a⟩
def BO(h1:plain d=qz)(h2:dep d<=60):eS .NotEq d d= .ok (.bl q7):=by rw[pM (iZ h1 h1 h2),lB _ h1];rfl
def sN(l:r.held.length<64):bL r []= .pure (.ow (yJ r.held)):=by unfold bL iX;show gP 368 (dY _ _ [.rk 368 r] q7)=_;rw[mV (ID (xs:=yJ r.held) ?_)];rfl;show(if r.held.length<64 then R.ow (yJ r.held)else .bad)=_;rw[if_pos l]
def srt(h:L1 (Str×D)):L1 (Str×D):=(eY (h.map (·.1))).map λk=>(k,(bI h k).getD .non)
def DS h:(srt h).map (·.1)=eY (h.map (·.1)):=by unfold srt;rw[pe];exact(ij λ_ _=>rfl).trans (List.map_id _)
def Mj(o:OkH r.held)(l:r.held.length<64):dG r []= .pure (.ok (bX (srt r.held))):=by
 unfold dG iX;show gP 368 (dY _ _ [.rk 368 r] q7)=_;have a:a8 0 [0] (bO 368 0 bL []) qw (eQ [aB 0,bO 368 1 aF [aB 0]]) [.rk 368 r]= .ow ((srt r.held).map λp=>D.tup [.str p.1,p.2]):=by
  have:=jN (cs:=[0]) (it:=bO 368 0 bL []) (e:=eQ [aB 0,bO 368 1 aF [aB 0]]) (ρ:=[.rk 368 r]) (ds:=yJ r.held) (g:=λd=>match d with|.str k=>.tup [.str k,(bI r.held k).getD .non]|d=>d) (.inr (.inr (by
   show(bL r []).told=_;rw[sN l];rfl))) λd m=>by
    obtain⟨k,b,rfl⟩:=au.1 m;obtain⟨v,e,hk,_⟩:=uV o (BN b);refine fH rfl ?_;show(aF r [.str k]).told=_;rw[sL r hk];unfold yH;rw[e];rfl
  rw[this];unfold yJ srt;rw[pe,pe];rfl
 have c:nI (a8 0 [0] (bO 368 0 bL []) qw (eQ [aB 0,bO 368 1 aF [aB 0]])) [.rk 368 r]= .ok (bX (srt r.held)):=by
  unfold nI;rw[a];refine BC ?_ ?_;rw[DS];exact(dN _).nodup_iff.2 o.1;unfold srt;rw[aq,(dN _).length_eq,aq];lia
 rw[mV (pS c)];rfl
abbrev Row:=L1 (Str×D)
def Eqv(a b:Row):Prop:= ∀x,bI a x=bI b x
theorem mX: ∀{l m:L1 Str},l.Nodup->(∀x∈l,x∈m)->l.length<=m.length
 |[],m,_,_=>bu _
 |x::l,m,nd,h=>by
  obtain⟨d,c⟩:=la.1 nd;have a:=h x (.head _);have:=mX (l:=l) (m:=m.erase x) c λy b=>(List.mem_erase_of_ne (λe=>d (by rw[<-e];exact b))).2 (h y (.tail _ b));rw[List.length_erase_of_mem a]at this;have:=List.length_pos_of_mem a;rw[bq];lia
def i7{h:Row}(o:OkH h):h.length<=4:=by
 have:=mX o.1 (m:=NM) λx a=>by obtain⟨p,b,rfl⟩:=au.1 a;exact(o.2 p b).1
 rw[aq]at this;exact this
def IQ{a b:Row}(oa:OkH a)(ob:OkH b)(q:Eqv a b):a.length=b.length:=by
 have c: ∀{a b:Row},OkH a->Eqv a b->a.length<=b.length:=λ{a b} oa q=>by
  have:=mX oa.1 (m:=b.map (·.1)) λx e=>by
   have d:(bI a x).isSome=qz:=by rw[fM];simpa using e
   rw[q x,fM]at d;simpa using d
  simpa using this
 exact Nat.le_antisymm (c oa q) (c ob λx=>(q x).symm)
def Ml{k h:Row}(ok:OkH k)(o:OkH h)(q:Eqv k h):eS .NotEq (bX (srt k)) (bX h)= .ok (.bl q7):=by
 have w:i8 (bX (srt k)) (bX h)=q7:=by simp[i8,plain]
 have j: ∀p∈srt k,bI h p.1=pi p.2/\Sw p.2:=λp m=>by
  obtain⟨r,n,rfl⟩:=au.1 m;obtain⟨v,e,_,s⟩:=uV ok (BN n);simp[<-q r,e,s]
 have c:(((srt k).map (·.2)).all λd=>(h.map (·.2)).all λe=>i8 d e)=qz:=by
  rw[jw];intro d t;rw[jw];intro e u;obtain⟨p,f,rfl⟩:=au.1 t;obtain⟨q,l,rfl⟩:=au.1 u;obtain⟨m,a,_,c⟩:=(j p f).2;obtain⟨i,b,_,g⟩:=(o.2 q l).2;rw[c,g];exact iZ (kS m a) (kS i b) (Fe i b)
 have g:Eg (srt k) h=qz:=by
  unfold Eg;rw[aw];refine⟨?_,?_⟩;unfold srt;rw[aq,(dN _).length_eq,aq,IQ ok o q];simp;rw[jw];intro p f;obtain⟨e,m,a,_,c⟩:=j p f;rw[e];show deq p.2 p.2=qz;rw[c];exact lB _ (kS m a)
 show(if i8 (bX (srt k)) (bX h)then R.ok (.bl (!deq (bX (srt k)) (bX h)))else oM qz (bX (srt k)) (bX h))=_;rw[w,if_neg (by decide)];show(if(((srt k).map (·.2)).all λd=>(h.map (·.2)).all λe=>i8 d e)=qz then R.ok (.bl (qz != Eg (((srt k).map (·.1)).zip ((srt k).map (·.2))) ((h.map (·.1)).zip (h.map (·.2)))))else .bad)=_;rw[if_pos c,DP,DP,g];rfl
def w5{h:Row}(hn:(h.map (·.1)).Nodup):bI (fY h x v) y=if y=x then pi v else bI h y:=by
 by_cases e:y=x;rw[if_pos e,e];exact uS hn;rw[if_neg e];have b: ¬x=y:=λz=>e z.symm;rcases n:(bI h x).isSome with _|_;rw[j9 n];clear n hn;induction h with
 |nil=>rw[lz,bH,if_neg b]
 |cons q r a=>rw[km,bH,bH,a]
 rw[pQ n];clear n hn;induction h with
 |nil=>rfl
 |cons q r a=>
  rw[ni,bH,bH,a];by_cases z:q.1=x;have c: ¬q.1=y:=λd=>b (z.symm.trans d);rw[if_pos z,if_neg c,if_neg c];rw[if_neg z]
def sO{h:Row}:bI (gO h x) y=if y=x then qw else bI h y:=by
 unfold gO;induction h with
 |nil=>simp[bI]
 |cons q r b=>
  rw[kc];by_cases z:q.1=x;rw[if_neg (by simpa using z),b,bH];by_cases e:y=x;rw[if_pos e,if_pos e];rw[if_neg e,if_neg e,if_neg (λa=>e (a.symm.trans z))];rw[if_pos (by simpa using z),bH,bH,b];by_cases e:y=x;rw[if_pos e,if_pos e,if_neg (λa=>z (a.trans e))];rw[if_neg e,if_neg e]
def Mm(h: ∀d∈l,plain d=qz):eS .Eq (.lst l) (.lst [])= .ok (.bl l.isEmpty):=by rw[i4 (iZ (by show cI l=qz;rw[iD];exact h) rfl (by simp[dep,zA]))];cases l<;>simp[deq,yL]
def DT(h:a ρ= .ok x)(k:b ρ= .ow y):bF op a b ρ=eS op x (.lst y):=by simp[bF,h,k,R.bind]
section
variable{k:Row}
def IR:fT ⟨k,[],un⟩ []= .pure (.ex 9):=by unfold fT iX;show gP 368 (dY _ _ [.rk 368 ⟨k,[],un⟩,.no] q7)=_;rw[mW (c:=9) (b':=q7)];rfl;rw[IC];rfl;exact(DT (x:=.lst []) (y:=[]) rfl rfl).trans (Mm λd m=>by cases m)
def sP r:bW r []= .pure (.ok (.tup [.int r.done.length,.int r.undone.length])):=by unfold bW iX;show gP 368 (dY _ _ [.rk 368 r] q7)=_;rw[mV (pS (fH rfl rfl))];rfl
end
def Qc:aM [.exc 9]= .ok (.str "no back"):=by kernel_rfl
def t9:dM aM (.pure (.ex 9))= .pure (.ok (.str "no back")):=by simp[dM,o8,Qc]
def pX(e0:ρ[i]? =pi (.rk A r))(ea:args fs ρ= .ok ds)(em:M r ds= .pure (.ok d))(eg:g ρ= .ok d2)(ec:eS op d d2= .ok (.bl b)):uK A i M fs op g ρ k=k b ρ:=by simp[uK,kO,e0,ea,em,fN,eg,ec,Jg]
def DU(e0:ρ[i]? =pi (.rk A r))(ea:args fs ρ= .ok ds)(em:M r ds= .chg d r')(eg:g (ρ.set i (.rk A r'))= .ok d2)(ec:eS op d d2= .ok (.bl b)):uK A i M fs op g ρ k=k b (ρ.set i (.rk A r')):=by simp[uK,kO,e0,ea,em,fN,eg,ec,Jg]
def w6(e:f ρ= .ok (.bl b)):pH f ρ k=k b ρ:=by simp[pH,e,fN,Jg]
section
variable{a b:Row}
def uW(oa:OkH a)(ob:OkH b)(q:Eqv a b):Eqv (fY a x v) (fY b x v):=λy=>by rw[w5 oa.1,w5 ob.1,q y]
def DV(q:Eqv a b):Eqv (gO a x) (gO b x):=λy=>by rw[sO,sO,q y]
end
def Qd(r:Rk)(h:Row)(d due:D)(h':Row):Prop:=(aV r [d]= .pure (.ok due)/\h'=h)\/∃k s,aV r [d]= .chg due ⟨k,r.done++[s],[]⟩/\OkH k/\Eqv k h'
def Mo r{h:Row}(o:OkH r.held)(oh:OkH h)(q:Eqv r.held h)(ld:r.done.length<1000)(hd:Fj d):
  ∃(h':Row) (due:D),aN [bX h,d]= .ok (.tup [bX h',due])/\Qd r h d due h'/\Due due/\OkH h':=by
 have l:r.done.length<LIM:=by unfold LIM;lia
 have B:r.held.length<LIM:=by have:=i7 o;unfold LIM;lia
 have A:h.length<LIM:=by have:=i7 oh;unfold LIM;lia
 have p:Due (.str "no label"):=BM (by kernel_rfl);have G:Due (.str "unlike"):=BM (by kernel_rfl);have j:dM aM (.pure (.ex 8))= .pure (.ok (.str "no label")):=by simp[dM,o8,Qa]
 have I:dM aM (.pure (.ex 4))= .pure (.ok (.str "unlike")):=by simp[dM,o8,Qb]
 rcases hd with ⟨x,c,v,E,rfl⟩|⟨x,c,rfl⟩|⟨x,c,rfl⟩|⟨x,c,w,C,y,u,z,t,rfl⟩;exact⟨_,_,OA A,.inr ⟨_,_,by rw[IO,L5 r c E l B,q x];rfl,o.put c E,uW o oh q⟩,⟨rfl,by simp[dep]⟩,oh.put c E⟩;rcases e:bI h x with _|v;exact⟨_,_,Pk (by kernel_rfl) (by kernel_rfl) e,.inl ⟨by rw[wY,IH r c ((q x).trans e),j],rfl⟩,p,oh⟩;obtain⟨m,a,g,rfl⟩:=oh.get e;exact⟨_,_,Mg oh (by have:=i7 oh;lia) c e,.inr ⟨_,_,by rw[wY,IG r c l ((q x).trans e)];rfl,o.drop,DV q⟩,BL m a,oh.drop⟩;rcases e:bI h x with _|v;exact⟨_,_,Pk (by kernel_rfl) (by kernel_rfl) e,.inl ⟨by rw[wX,IJ r c ((q x).trans e),j],rfl⟩,p,oh⟩;obtain⟨m,a,g,rfl⟩:=oh.get e;exact⟨_,_,Mf oh.1 A e,.inr ⟨_,_,by rw[wX,II r g c l B ((q x).trans e)];rfl,o.put c ⟨m,_,g.not,rfl⟩,uW o oh q⟩,BL m _,oh.put c ⟨m,_,g.not,rfl⟩⟩;rcases f:bI h y with _|v;exact⟨_,_,Mh (.inl f),.inl ⟨by rw[lD,BF r c u t (.inl ((q y).trans f)),j],rfl⟩,p,oh⟩;rcases i:bI h z with _|J;exact⟨_,_,Mh (.inr i),.inl ⟨by rw[lD,BF r c u t (.inr ((q z).trans i)),j],rfl⟩,p,oh⟩;obtain⟨m,a,g,rfl⟩:=oh.get f;obtain⟨H,b,s,rfl⟩:=oh.get i;by_cases n:m=H;subst n;exact⟨_,_,OB oh.1 A C f i,.inr ⟨_,_,by rw[lD,IL r c l B rfl ((sM r u t ((q y).trans f) ((q z).trans i)).trans (BG g s C))];rfl,o.put c ⟨m,_,g.zip _ s,rfl⟩,uW o oh q⟩,BL m _,oh.put c ⟨m,_,g.zip _ s,rfl⟩⟩;exact⟨_,_,Mi f i n,.inl ⟨by rw[lD,BE r c ((sM r u t ((q y).trans f) ((q z).trans i)).trans (BH g s n C)),I],rfl⟩,G,oh⟩
noncomputable def tx(l:L1 Nat):D:=.str ⟨l.toArray⟩
def Sg(l:L1 Nat):Prop:=l.length<=900/\∀c∈l,c<0x110000
def w8(h:Sg l):plain (tx l)=qz:=by show(l.toArray.all (· <0x110000))=qz;simp only[List.all_toArray,jw,decide_eq_true_eq];exact h.2
def Fl{a b:L1 Nat}:((⟨a.toArray⟩:Str)==⟨b.toArray⟩)=decide (a=b):=by rw[Bool.eq_iff_iff];simp
def Fm a b:deq (tx a) (tx b)=decide (a=b):=Fl
def BP(h:Sg a)(k:Sg b):i8 (tx a) (tx b)=qz:=iZ (w8 h) (w8 k) (by simp[tx,dep])
def DW(h:Sg a)(k:Sg b):eS .NotEq (tx a) (tx b)= .ok (.bl (!decide (a=b))):=by rw[pM (BP h k),Fm]
def OC(h:Sg a)(k:Sg b):eS .Eq (tx a) (tx b)= .ok (.bl (decide (a=b))):=by rw[i4 (BP h k),Fm]
def Mp(h:a.length<=LIM)(k:b.length<=LIM):kR .Add (tx a) (tx b)= .ok (tx (a++b)):=by have c:(⟨a.toArray⟩:Str).length<=LIM:=h;have d:(⟨b.toArray⟩:Str).length<=LIM:=k;show(if(⟨a.toArray⟩:Str).length<=LIM/\(⟨b.toArray⟩:Str).length<=LIM then R.ok (.str (⟨a.toArray⟩++⟨b.toArray⟩))else .bad)=_;rw[if_pos ⟨c,d⟩];show R.ok (.str ⟨a.toArray++b.toArray⟩)=_;rw[iq];rfl
def BQ(h:a.length<=LIM)lo hi:Cj (tx a) lo hi= .ok (tx (qQ a lo hi)):=by show(if(⟨a.toArray⟩:Str).length<=LIM then R.ok (.str ⟨(qQ a lo hi).toArray⟩)else .bad)=_;rw[if_pos (show(⟨a.toArray⟩:Str).length<=LIM from h)];rfl
def Mq a n:qQ a qw (pi (n:Nat))=a.take n:=by simp only[qQ,dI];rw[if_neg (by lia)];simp only[jr,List.drop_zero,Nat.sub_zero];rcases Nat.le_total n a.length with h|h;rw[l0 h];rw[Nat.min_eq_right h,kd,gi h]
def Mr a n:qQ a (pi (n:Nat)) qw=a.drop n:=by simp only[qQ,dI];rw[if_neg (by lia)];simp only[jr];rcases Nat.le_total n a.length with h|h;rw[l0 h];exact gi (by simp);rw[Nat.min_eq_right h];simp;lia
def Sg.app(h:Sg a)(k:Sg b)(l:a.length+b.length<=900):Sg (a++b):=⟨by simpa using l,λc m=>(k6.1 m).elim (h.2 c) (k.2 c)⟩
theorem Sg.take(h:Sg a)n:Sg (a.take n):=⟨by have:=h.1;simp;lia,λc m=>h.2 c (List.mem_of_mem_take m)⟩
theorem Sg.drop(h:Sg a)n:Sg (a.drop n):=⟨by have:=h.1;simp;lia,λc m=>h.2 c (List.mem_of_mem_drop m)⟩
def chs(l:L1 Nat):L1 D:=l.map λc=>tx [c]
def BR(h:Sg a):iK (tx a)=pi (chs a):=by show(if a.toArray.size<=1000 then pi (tN ⟨a.toArray⟩)else qw)=_;rw[if_pos (by have:=h.1;simp;lia)];rfl
def BS(ls:L1 (L1 Nat)):oO (ls.map tx)=pi (ls.map λl=>(⟨l.toArray⟩:Str)):=by
 induction ls with
 |nil=>rfl
 |cons l r a=>show(oO (r.map tx)).map (⟨l.toArray⟩:: ·)=_;rw[a];rfl
noncomputable def jn(sep:L1 Nat):L1 (L1 Nat)->L1 Nat
 |[]=>[]
 |[x]=>x
 |x::r=>x++sep++jn sep r
theorem uX sep: ∀ls,Str.join ⟨sep.toArray⟩ (ls.map λl=>(⟨l.toArray⟩:Str))=⟨(jn sep ls).toArray⟩
 |[]=>rfl
 |[x]=>rfl
 |x::y::r=>by
  show(⟨x.toArray⟩:Str)++⟨sep.toArray⟩++Str.join ⟨sep.toArray⟩ ((y::r).map λl=>(⟨l.toArray⟩:Str))=_;rw[uX sep (y::r)];show(⟨x.toArray++sep.toArray++(jn sep (y::r)).toArray⟩:Str)=_;rw[iq,iq];rfl
def BU sep ls(h:JoinOk ⟨sep.toArray⟩ (ls.map λl=>(⟨l.toArray⟩:Str))=qz):Cl ⟨sep.toArray⟩ (.lst (ls.map tx))= .ok (tx (jn sep ls)):=by show(match oO (ls.map tx)with|some ts=>if JoinOk ⟨sep.toArray⟩ ts then R.ok (.str (qq ⟨sep.toArray⟩ ts))else .bad|none=>.bad)=_;rw[BS];show(if JoinOk ⟨sep.toArray⟩ _ then R.ok (.str (qq ⟨sep.toArray⟩ _))else .bad)=_;rw[if_pos h];rw[show ∀a b,qq a b=Str.join a b from StrLaws.glued_eq_join,uX];rfl
theorem uY: ∀l,jn [] (l.map λc=>[c])=l
 |[]=>rfl
 |[c]=>rfl
 |c::d::r=>by
  show [c]++[]++jn [] ((d::r).map λc=>[c])=_;rw[uY (d::r)];rfl
theorem sQ{α:Type}{f}{h q}: ∀{L:L1 α},(∀x∈L,f (h x)=pi (pi (q x)))->bC f (L.map h)=pi (L.map q)
 |[],_=>rfl
 |x::L,k=>by
  show(match f (h x)with|none=>qw|some qw=>bC f (L.map h)|some (pi y)=>(bC f (L.map h)).map (y:: ·))=_;rw[k x (.head _)];show(bC f (L.map h)).map (q x:: ·)=_;rw[sQ λy m=>k y (.tail _ m)];rfl
def uZ{α:Type}{L:L1 α}{h q}(hi:it ρ= .ok d\/∃ds,it ρ= .ow ds/\d= .lst ds)(hd:iK d=pi (L.map h))(k: ∀x∈L,e (.sh (h x)::kG cs ρ)= .ok (q x)):a8 0 cs it qw e ρ= .ow (L.map q):=by
 have g:bC (dQ 0 (kG cs ρ) qw e) (L.map h)=pi (L.map q):=sQ λx m=>by
  show(match e (.sh (h x)::kG cs ρ)with|.ok x=>pi (pi x)|.ow xs=>pi (pi (.lst xs))|_=>qw)=_;rw[k x m]
 rcases hi with hi|⟨ds,hi,rfl⟩<;>simp only[a8,hi,R.bind,hd,g]
def BV(h:m<10):tQ [.int (m:Nat)]= .ok (tx [48+m]):=by show(if 0<=(m:Int)/\(m:Int)<10 then R.ok (.str ⟨#[48+(m:Int).toNat]⟩)else .bad)=_;rw[if_pos (by lia)];rfl
noncomputable def fb(b:Bool):Nat:=if b then 49 else 48
def Ms b:tQ [bD b]= .ok (tx [fb b]):=by cases b<;>rfl
noncomputable def kvs:L1 (Str×D):=[("0",.int 0),("1",.int 1),("2",.int 2),("3",.int 3),("4",.int 4)]
noncomputable def fg(l:L1 Nat):D:=if l=[48]then .int 0 else if l=[49]then .int 1 else if l=[50]then .int 2 else if l=[51]then .int 3 else if l=[52]then .int 4 else .non
def Mt:kvs=[(⟨[48].toArray⟩,.int 0),(⟨[49].toArray⟩,.int 1),(⟨[50].toArray⟩,.int 2),(⟨[51].toArray⟩,.int 3),(⟨[52].toArray⟩,.int 4)]:=by kernel_rfl
def Fo l:NB kvs (tx l)= .ok (fg l):=by show R.ok ((ph ⟨l.toArray⟩ kvs).getD .non)=_;rw[Mt];simp only[ph,Fl];unfold fg;by_cases d:l=[48];simp[d];by_cases a:l=[49];simp[a];by_cases c:l=[50];simp[c];by_cases b:l=[51];simp[b];by_cases e:l=[52];simp[e];simp[d,a,c,b,e]
def Mu c:fg [c]=if 48<=c/\c<53 then .int ((c-48:Nat):Int)else .non:=by
 unfold fg;by_cases h:48<=c/\c<53
 .rw[if_pos h];obtain rfl|rfl|rfl|rfl|rfl:c=48\/c=49\/c=50\/c=51\/c=52:=by lia
  all_goals rfl
 .rw[if_neg h];simp only[List.cons.injEq,and_true];rw[if_neg (by lia),if_neg (by lia),if_neg (by lia),if_neg (by lia),if_neg (by lia)]
def OD b:fg [fb b]=bD b:=by cases b<;>rfl
def sco:(D.str ":")=tx [58]:=by kernel_rfl
def Sg.lim(h:Sg x):x.length<=LIM:=by have:=h.1;unfold LIM;lia
def IS n(h:Sg x)(e:a ρ= .ok (tx x)):lQ a (pi (rK (.int (n:Nat)))) qw ρ= .ok (tx (x.drop n)):=by
 have:lQ a (pi (rK (.int (n:Nat)))) qw ρ=Cj (tx x) (pi (n:Nat)) qw:=by simp[lQ,e,R.bind,rK,Ck]
 rw[this,BQ h.lim,Mr]
def IT n(h:Sg x)(e:a ρ= .ok (tx x)):lQ a qw (pi (rK (.int (n:Nat)))) ρ= .ok (tx (x.take n)):=by
 have:lQ a qw (pi (rK (.int (n:Nat)))) ρ=Cj (tx x) qw (pi (n:Nat)):=by simp[lQ,e,R.bind,rK,Ck]
 rw[this,BQ h.lim,Mq]
def Mv(h:Sg x)(e:a ρ= .ok (tx x)):lQ a (pi (rK (.int 1))) (pi (rK (.int 2))) ρ= .ok (tx ((x.drop 1).take 1)):=by
 have:lQ a (pi (rK (.int 1))) (pi (rK (.int 2))) ρ=Cj (tx x) (pi 1) (pi 2):=by simp[lQ,e,R.bind,rK,Ck]
 rw[this,BQ h.lim];have:qQ x (pi 1) (pi 2)=(x.drop 1).take 1:=by
  rcases x with _|⟨a,_|⟨b,r⟩⟩;rfl;rfl;simp only[qQ,dI,bq];rw[if_neg (by lia),if_neg (by lia)];rw[show min (Int.toNat 1) (r.length+1+1)=1 from l0 (by simp),show min (Int.toNat 2) (r.length+1+1)=2 from l0 (by show 2<=_;lia)]
 rw[this]
def Jj:Sg [58]:=⟨by decide,λc m=>by rw[i3.1 m];decide⟩
def BW x:dW [tx x]= .ok .non:=by
 refine uP (ρ:=[.sh (tx x)]) ((dB ((mP (b:=qz) ((LN (x:=tx x) rfl) rfl)))).trans rfl)
def IU(h:Sg y)(e:a ρ= .ok (tx y)):aE fW [a8 0 [] a qw (FT kvs (aB 0))] ρ= .ok (.tup (y.map λc=>fg [c])):=
 (d6 (uZ (L:=y) (h:=λc=>tx [c]) (q:=λc=>fg [c]) (.inl e) (BR h) λc _=>Fo [c])).trans rfl
def stx(m:Nat)(bs:L1 Bool):L1 Nat:=(48+m)::58::bs.map fb
def sem:(pc "")=⟨([]:L1 Nat).toArray⟩:=by kernel_rfl
def OE b:fb b<0x110000:=by cases b<;>decide
def w9(g:gQ m bs):Sg (stx m bs):=by have:=oC g.1;refine⟨by simp[stx,g.2];lia,λc k=>?_⟩;simp only[stx,av,au]at k;rcases k with rfl|rfl|⟨b,_,rfl⟩;have:=g.1;lia;decide;exact OE b
def BX(h:a ρ= .ok (tx x))(k:b ρ= .ok (tx y))(hx:Sg x)(hy:Sg y):aT .Add a b ρ= .ok (tx (x++y)):=(bM h k).trans (Mp hx.lim hy.lim)
theorem BY: ∀ls,jn [] ls=ls.flatten
 |[]=>rfl
 |[x]=>by simp[jn]
 |x::y::r=>by
  show x++[]++jn [] (y::r)=_;rw[BY (y::r)];simp
def sR{ls:L1 (L1 Nat)}(h:ls.flatten.length<=900):JoinOk ⟨([]:L1 Nat).toArray⟩ (ls.map λl=>(⟨l.toArray⟩:Str))=qz:=by
 have e: ∀(l:L1 (L1 Nat)) (z:Nat),(l.map λl=>(⟨l.toArray⟩:Str)).foldl (λ(a:Nat) b=>a+b.length+(⟨([]:L1 Nat).toArray⟩:Str).length) z=z+l.flatten.length:=by
  intro l;induction l with
  |nil=>intro z;rfl
  |cons c r d=>intro z;show List.foldl _ (z+c.length+0) _=_;rw[d];simp;lia
 unfold JoinOk;rw[List.foldl_toArray',e];rw[List.length_flatten]at h;simp[Builtin.Str.tooLong,sizeLine];lia;all_goals rfl
def sS(g:gQ m bs)(e:it ρ= .ok (.tup (bs.map bD))):oP "" (a8 0 [] it qw (aE tQ [aD 0])) ρ= .ok (tx (bs.map fb)):=by
 have a:a8 0 [] it qw (aE tQ [aD 0]) ρ= .ow (((bs.map fb).map λc=>[c]).map tx):=by
  rw[pe,pe];exact uZ (L:=bs) (h:=bD) (.inl e) rfl λb _=>(bK (x:=bD b) rfl).trans (Ms b)
 show(a8 0 [] it qw (aE tQ [aD 0]) ρ).bind (Cl "")=_;rw[a,sem];have:=oC g.1;exact(BU [] _ (sR (by rw[<-BY,uY,aq,g.2];lia))).trans (by rw[uY])
def BZ(g:gQ m bs):Sg (bs.map fb):=(w9 g).drop 2
def OF(g:gQ m bs)(hf:f ρ= .ok (.int (m:Nat)))(e:it ρ= .ok (.tup (bs.map bD))):
  aT .Add (aT .Add (aE tQ [f]) (rK (.str ":"))) (oP "" (a8 0 [] it qw (aE tQ [aD 0]))) ρ= .ok (tx (stx m bs)):=by
 have d:=g.1;have a:Sg [48+m]:=⟨by simp,λc k=>by rw[i3.1 k];lia⟩;have b:=BX (ρ:=ρ) ((bK hf).trans (BV (m:=m) (by lia))) (show rK (.str ":") ρ= .ok (tx [58]) from congrArg R.ok sco) a Jj;exact BX b (sS g e) (a.app Jj (by simp)) (BZ g)
def eK(g:gQ m bs):cN [sw m bs]= .ok (tx (stx m bs)):=
 aR ((aG (dZ ((bK (x:=sw m bs) rfl).trans (i5 (kS m bs) (g9 g))))).trans (aQ (OF g rfl rfl)))
def Mw(g:gQ m bs):D.tup [fg [48+m],.tup ((bs.map fb).map λc=>fg [c])]=sw m bs:=by have a:=g.1;rw[Mu,if_pos (by lia),pe,show((λc=>fg [c]) ∘ fb)=bD from funext OD,Nat.add_sub_cancel_left];rfl
def eL(g:gQ m bs):cO [tx (stx m bs)]= .ok (sw m bs):=by
 have h:=w9 g;have c:eQ [FT kvs (lQ (aD 0) qw (pi (rK (.int 1)))),aE fW [a8 0 [] (lQ (aD 0) (pi (rK (.int 2))) qw) qw (FT kvs (aB 0))]] [.sh (tx (stx m bs)),.no]= .ok (sw m bs):=by
  refine(fH (x:=fg [48+m]) ?_ (IU (h.drop 2) (IS 2 h rfl))).trans (congrArg R.ok (Mw g));show(lQ _ _ _ _).bind (NB kvs)=_;rw[show lQ (aD 0) qw (pi (rK (.int 1))) [Slot.sh (tx (stx m bs)),Slot.no]=_ from IT 1 h rfl];exact Fo _
 have a:bF .NotEq (lQ (aD 0) (pi (rK (.int 1))) (pi (rK (.int 2)))) (rK (.str ":")) [.sh (tx (stx m bs)),.sh (sw m bs)]= .ok (.bl q7):=
  (aU (Mv h rfl) (show rK (.str ":") _= .ok (tx [58]) from congrArg R.ok sco)).trans (DW ((h.drop 1).take 1) Jj)
 have b:m7 (aE dS [aB 1]) [.sh (tx (stx m bs)),.sh (sw m bs)]= .ok (.bl q7):=(mP ((bK (x:=sw m bs) rfl).trans (fL (kS m bs)))).trans (by rw[g9 g];rfl);refine aR ((aG (dZ ((bK (x:=tx (stx m bs)) rfl).trans (BW _)))).trans ((aG (dR c)).trans ((aG (ρ':=[.sh (tx (stx m bs)),.sh (sw m bs)]) ((dB ((uQ a).trans b)).trans rfl)).trans rfl)))
theorem Mx{c:Nat}: ∀{p q r s},c∉p->c∉q->p++c::r=q++c::s->p=q/\r=s
 |[],[],r,s,_,_,e=>by simp at e;exact⟨rfl,e⟩
 |[],y::q,r,s,_,hq,e=>by simp at e;exact absurd e.1 (λz=>hq (by simp[z]))
 |x::p,[],r,s,hp,_,e=>by simp at e;exact absurd e.1 (λz=>hp (by simp[z]))
 |x::p,y::q,r,s,hp,hq,e=>by
  simp only[km,List.cons.injEq]at e;obtain⟨a,b⟩:=Mx (λm=>hp (.tail _ m)) (λm=>hq (.tail _ m)) e.2;exact⟨by rw[e.1,a],b⟩
def mY:jn [c] (x::y::r)=x++c::jn [c] (y::r):=by simp[jn]
theorem Fp{c}: ∀{ls ks},ls≠[]->ks≠[]->(∀p∈ls,c∉p)->(∀p∈ks,c∉p)->jn [c] ls=jn [c] ks->ls=ks
 |[],_,h,_,_,_,_=>absurd rfl h
 |_,[],_,h,_,_,_=>absurd rfl h
 |[x],[y],_,_,_,_,e=>by simp only[jn]at e;rw[e]
 |[x],y::z::r,_,_,h,_,e=>by
  rw[mY]at e;have e:x=y++c::jn [c] (z::r):=e;exact absurd (by rw[e];simp) (h x (.head _))
 |x::z::r,[y],_,_,_,h,e=>by
  rw[mY]at e;have e:x++c::jn [c] (z::r)=y:=e;exact absurd (by rw[<-e];simp) (h y (.head _))
 |x::x'::r,y::y'::s,_,_,h,k,e=>by
  rw[mY,mY]at e;obtain⟨a,b⟩:=Mx (h x (.head _)) (k y (.head _)) e;rw[a,Fp (by simp) (by simp) (λp m=>h p (.tail _ m)) (λp m=>k p (.tail _ m)) b]
def DX x y:qj x y≠[]:=by unfold qj;split;simp;split;simp;simp[eo]
def DY(hn:ls≠[])(hf: ∀p∈ls,c∉p)(e:jn [c] ls=x):qj ⟨x.toArray⟩ ⟨#[c]⟩=ls.map λl=>(⟨l.toArray⟩:Str):=by
 have b:=StrLaws.split_free ⟨x.toArray⟩ c;have a:=StrLaws.join_split ⟨x.toArray⟩ ⟨#[c]⟩;have d:=DX ⟨x.toArray⟩ ⟨#[c]⟩;generalize qj ⟨x.toArray⟩ ⟨#[c]⟩=S at b a d;have f:S=(S.map λs=>s.cps.toList).map λl=>(⟨l.toArray⟩:Str):=by
  rw[pe];exact(List.map_id' S).symm.trans (ij λs _=>rfl)
 have h:jn [c] (S.map λs=>s.cps.toList)=x:=by
  rw[f]at a;have:=(uX [c] (S.map λs=>s.cps.toList)).symm.trans a;simpa using congrArg (λs:Str=>s.cps.toList) this
 rw[f,Fp (ls:=S.map λs=>s.cps.toList) (ks:=ls) (by simpa using d) hn (λp m=>by obtain⟨s,g,rfl⟩:=au.1 m;exact b s g) hf (h.trans e.symm)]
theorem xA{c}: ∀ls,jn [c] (ls++[[]])=ls.flatMap λl=>l++[c]
 |[]=>rfl
 |[x]=>by simp[jn]
 |x::y::r=>by
  have:=xA (c:=c) (y::r);show jn [c] (x::(y::r++[[]]))=_;rw[show(y::r++[[]])=y::(r++[[]]) from rfl,mY,show y::(r++[[]])=y::r++[[]] from rfl,this];simp
def DZ xs d:FQ (xs++[d]) qw (pi (-1))=xs:=by
 have h:dI (xs++[d]).length (xs++[d]).length (pi (-1))=xs.length:=by
  simp[dI];lia
 unfold FQ;rw[h];simp[dI]
def Qe:(pc " = ")=⟨[32,61,32].toArray⟩:=by kernel_rfl
def IV(h:32∉lab):qW ⟨(lab++32::61::32::dO).toArray⟩ " = "=[tx lab,.str " = ",tx dO]:=by
 have a: ∀i,StrLaws.At ⟨(lab++32::61::32::dO).toArray⟩ ⟨[32,61,32].toArray⟩ (⟨(lab++32::61::32::dO).toArray⟩:Str).length i↔i+3<=lab.length+(dO.length+3)/\((lab++32::61::32::dO).drop i).take 3=[32,61,32]:=λi=>by
  unfold StrLaws.At;rw[StrLaws.subAt_eq];simp[Str.length]
 have c:=(a lab.length).2 ⟨by lia,by simp⟩;unfold qW;rw[Qe];rcases StrLaws.occ_head ⟨(lab++32::61::32::dO).toArray⟩ ⟨[32,61,32].toArray⟩ 1 (aj _)with ⟨_,b⟩|⟨i,r,e,m,b⟩;exact absurd c (b _);have j:i=lab.length:=by
  rcases Nat.lt_trichotomy i lab.length with z|z|z;have:=((a i).1 m).2;rw[List.drop_append_of_le_length (by lia)]at this;have f:lab.drop i=lab[i]::lab.drop (i+1):=dz z;rw[f]at this;have d:lab[i]=32:=(nr this).1;exact absurd (by rw[<-d];exact kr z) h;exact z;exact absurd c (b _ z)
 rw[e,j];show [D.str (iy _ 0 lab.length),.str _,.str (iy _ (lab.length+3) _)]=_;have g:iy ⟨(lab++32::61::32::dO).toArray⟩ 0 lab.length=⟨lab.toArray⟩:=by
  simp[iy]
 have l:iy ⟨(lab++32::61::32::dO).toArray⟩ (lab.length+3) (⟨(lab++32::61::32::dO).toArray⟩:Str).length=⟨dO.toArray⟩:=by
  simp only[iy,List.extract_toArray,List.extract_eq_drop_take];congr 2;rw[<-List.drop_drop];simp[Str.length];exact gi (by lia)
 rw[g,l];rfl
abbrev En:=L1 Nat×Nat×L1 Bool
def lbl(e:En):Str:=⟨e.1.toArray⟩
def val(e:En):D:=sw e.2.1 e.2.2
def ln(e:En):L1 Nat:=e.1++32::61::32::stx e.2.1 e.2.2
def sY(e:En):Prop:=lbl e∈NM/\gQ e.2.1 e.2.2
def txt(es:L1 En):L1 Nat:=es.flatMap λe=>ln e++[10]
def My:(NM.all λs=> !s.cps.toList.contains 32&&(!s.cps.toList.contains 10&&(decide (s.cps.toList.length<=4)&&s.cps.toList.all λc=>decide (c<128))))=qz:=by kernel_rfl
def sT(h:sY e):32∉e.1/\10∉e.1/\e.1.length<=4/\∀c∈e.1,c<128:=by have:=zAd My _ h.1;simp only[aw,jp,decide_eq_true_eq,jw]at this;obtain⟨a,b,f,d⟩:=this;refine⟨λm=>?_,λm=>?_,f,d⟩;rw[gy.mpr (show 32∈(lbl e).cps.toList from m)]at a;cases a;rw[gy.mpr (show 10∈(lbl e).cps.toList from m)]at b;cases b
def Mz:10∉stx m a:=by intro h;simp only[stx,av,au]at h;rcases h with h|h|⟨b,_,h⟩;lia;lia;unfold fb at h;split at h<;>lia
def B0(g:gQ m a):(stx m a).length<=18:=by have:=oC g.1;have b:=g.2;simp only[stx,bq,aq];lia
def OG(h:sY e):10∉ln e:=by intro k;simp only[ln,k6,av]at k;rcases k with k|k|k|k|k;exact(sT h).2.1 k;lia;lia;lia;exact Mz k
def yK(h:sY e):Sg (ln e)/\(ln e).length<=25:=by
 have b:=(sT h).2.2.1;have d:=B0 h.2;have a:(ln e).length<=25:=by simp only[ln,bo,bq];lia
 refine⟨⟨by lia,λc m=>?_⟩,a⟩;simp only[ln,k6,av]at m;rcases m with k|k|k|k|k;have:=(sT h).2.2.2 c k;lia;lia;lia;lia;exact(w9 h.2).2 c k
def B1(h: ∀e∈es,sY e)(hl:es.length<=30):Sg (txt es):=by
 have a: ∀es:L1 En,(∀e∈es,sY e)->(txt es).length<=es.length*26:=by
  intro es;induction es with
  |nil=>intro _;simp[txt]
  |cons e r b=>
   intro h;have g:=(yK (h e (.head _))).2;have d:=b λe m=>h e (.tail _ m);simp only[txt,List.flatMap_cons,bo,bq,List.length_nil]at d ⊢;lia
 refine⟨by have:=a es h;lia,λc m=>?_⟩;obtain⟨e,f,k⟩:=List.mem_flatMap.1 m;rcases k6.1 k with k|k;exact(yK (h e f)).1.2 c k;rw[i3.1 k];decide
def Pm:(D.str "\n")=tx [10]:=by kernel_rfl
def Pn:(D.str " = ")=tx [32,61,32]:=by kernel_rfl
def IW:Sg [10]:=⟨by decide,λc m=>by rw[i3.1 m];decide⟩
def u3:Sg [32,61,32]:=⟨by decide,λc m=>by simp at m;rcases m with rfl|rfl|rfl<;>decide⟩
def D0(h:ρ[i]? =pi (.rk A r))(k:M r []= .pure x):bO A i M [] ρ=x:=by show xQ A i (λr=>(M r []).told) ρ=x;unfold xQ;rw[h];show(if A=A then(M r []).told else .bad)=x;rw[if_pos rfl,k];rfl
def OH(h:ρ[i]? =pi (.rk A r))(hf:f ρ= .ok d)(k:M r [d]= .pure x):bO A i M [f] ρ=x:=by show xQ A i (λr=>lP [f] ρ λa=>(M r a).told) ρ=x;unfold xQ;rw[h];show(if A=A then lP [f] ρ (λa=>(M r a).told)else .bad)=x;rw[if_pos rfl];simp[lP,args,hf,RA.cons,RA.then,k,RM.told]
def kQ(hs:eY (r.held.map (·.1))=es.map lbl)(hl:r.held.length<64)(he: ∀e∈es,sY e/\bI r.held (lbl e)=pi (val e))(hn:es.length<=30):aP r []= .pure (.ok (tx (txt es))):=by
 have l:a8 0 [0] (bO 368 0 bL []) qw (aT .Add (aT .Add (aT .Add (aB 0) (rK (.str " = "))) (aE cN [bO 368 1 aF [aB 0]])) (rK (.str "\n"))) [.rk 368 r]= .ow (es.map λe=>tx (ln e++[10])):=by
  refine uZ (d:=.lst (es.map λe=>D.str (lbl e))) (L:=es) (h:=λe=>D.str (lbl e)) (.inr ⟨_,(D0 rfl (sN hl)).trans (by unfold yJ;rw[hs,pe];rfl),rfl⟩) rfl λe p=>?_;obtain⟨ok,s⟩:=he e p;have b:bO 368 1 aF [aB 0] (.sh (.str (lbl e))::kG [0] [.rk 368 r])= .ok (val e):=by
   refine OH (r:=r) rfl rfl ((sL r ok.1).trans ?_);unfold yH;rw[s]
  have i:Sg e.1:=⟨by have:=(sT ok).2.2.1;lia,λc m=>by have:=(sT ok).2.2.2 c m;lia⟩;have o:=(sT ok).2.2.1;have q:=BX (ρ:=.sh (.str (lbl e))::kG [0] [.rk 368 r]) (a:=aB 0) (x:=e.1) rfl (show rK (.str " = ") _= .ok (tx [32,61,32]) from congrArg R.ok Pn) i u3;have g:=BX q ((bK b).trans (eK ok.2)) (i.app u3 (by simp;lia)) (w9 ok.2);have f:e.1++[32,61,32]++stx e.2.1 e.2.2=ln e:=by simp[ln]
  rw[f]at g;exact BX g (show rK (.str "\n") _= .ok (tx [10]) from congrArg R.ok Pm) (yK ok).1 IW
 have n:oP "" (a8 0 [0] (bO 368 0 bL []) qw (aT .Add (aT .Add (aT .Add (aB 0) (rK (.str " = "))) (aE cN [bO 368 1 aF [aB 0]])) (rK (.str "\n")))) [.rk 368 r]= .ok (tx (txt es)):=by
  show(a8 _ _ _ _ _ _).bind (Cl "")=_;rw[l,sem];have j:(es.map λe=>ln e++[10]).flatten=txt es:=by simp[txt,List.flatMap]
  have:=BU [] (es.map λe=>ln e++[10]) (sR (by rw[j];exact(B1 (λe m=>(he e m).1) hn).1));rw[BY,j,pe]at this;exact this
 unfold aP iX;show gP 368 (dY _ _ [.rk 368 r] q7)=_;rw[mV (pS n)];rfl
def IX(h:g (ds.map Slot.sh++ao (N-ds.length) .no)= .nx ρ)(hr:ρ[i]? =pi (.rk A r)):Ji A N g i ds= .rk r:=by simp[Ji,h,hr,Nc]
def D1(h:ρ[i]? =pi (.rk A r))(hg:g ρ= .ok y)(hf:f ρ= .ok (.str q))(hl:r.held.length<LIM):yC A i f g ρ= .nx (ρ.set i (.rk A {r with held:=fY r.held q y})):=by simp[yC,hg,hf,fN,h,hl]
def rdB:FS:=(aY (gL 3 (zB (aB 2) (rK (.str " = "))))
  (aY (sIf (m7 (aE eI [rIx (aD 3) (rK (.int 0))]))
  (gX 6)
  (aX))
  (yC 368 1 (rIx (aD 3) (rK (.int 0))) (aE cO [rIx (aD 3) (rK (.int 2))]))))
def iH(hx:x∈NM):eI [.str x]= .ok (.bl qz):=by
 simp only[NM,av,kh,or_false]at hx;rcases hx with rfl|rfl|rfl|rfl<;>kernel_rfl
def pr(e:En):Str×D:=(lbl e,val e)
def MB(ok:sY e)(hh:(bI acc (lbl e)).isSome=q7)(hl:acc.length<LIM):
  rdB [.sh T,.rk 368 ⟨acc,[],[]⟩,.sh (tx (ln e)),s3]= .nx [.sh T,.rk 368 ⟨acc++[pr e],[],[]⟩,.sh (tx (ln e)),.sh (.tup [tx e.1,.str " = ",tx (stx e.2.1 e.2.2)])]:=by
 have d:zB (aB 2) (rK (.str " = ")) [.sh T,.rk 368 ⟨acc,[],[]⟩,.sh (tx (ln e)),s3]= .ok (.tup [tx e.1,.str " = ",tx (stx e.2.1 e.2.2)]):=by
  show(if((pc " = ").length==0)=q7/\(⟨(ln e).toArray⟩:Str).length<=LIM then R.ok (.tup (qW ⟨(ln e).toArray⟩ " = "))else .bad)=_;rw[if_pos ⟨by kernel_rfl,(yK ok).1.lim⟩,show ln e=e.1++32::61::32::stx e.2.1 e.2.2 from rfl,IV (sT ok).1]
 refine(aG (dR d)).trans ?_;have a:rIx (aD 3) (rK (.int 0)) [.sh T,.rk 368 ⟨acc,[],[]⟩,.sh (tx (ln e)),.sh (.tup [tx e.1,.str " = ",tx (stx e.2.1 e.2.2)])]= .ok (.str (lbl e)):=(dC (x:=.tup [tx e.1,.str " = ",tx (stx e.2.1 e.2.2)]) (y:=.int ((0:Nat):Int)) rfl rfl).trans (mQ rfl);have b:rIx (aD 3) (rK (.int 2)) [.sh T,.rk 368 ⟨acc,[],[]⟩,.sh (tx (ln e)),.sh (.tup [tx e.1,.str " = ",tx (stx e.2.1 e.2.2)])]= .ok (tx (stx e.2.1 e.2.2)):=(dC (x:=.tup [tx e.1,.str " = ",tx (stx e.2.1 e.2.2)]) (y:=.int ((2:Nat):Int)) rfl rfl).trans (mQ rfl);have c:aE cO [rIx (aD 3) (rK (.int 2))] [.sh T,.rk 368 ⟨acc,[],[]⟩,.sh (tx (ln e)),.sh (.tup [tx e.1,.str " = ",tx (stx e.2.1 e.2.2)])]= .ok (val e):=by
  exact(bK b).trans (eL ok.2)
 refine(aG ((dB ((mP ((bK a).trans (iH ok.1))).trans rfl)).trans rfl)).trans ?_;refine(D1 (r:=⟨acc,[],[]⟩) rfl c a hl).trans ?_;rw[j9 hh];rfl
def lE(h:t d ρ=pi ρ1)(k:b ρ1= .nx ρ2):fU t b (d::ds) ρ=fU t b ds ρ2:=by simp only[fU,h,k]
theorem Fr{T}: ∀(es:L1 En) acc s2 s3,(∀e∈es,sY e)->((acc++es.map pr).map (·.1)).Nodup->acc.length+es.length<=1000->
  ∃s2' s3',fU (q8 [2] qz) rdB (es.map λe=>tx (ln e)) [.sh T,.rk 368 ⟨acc,[],[]⟩,s2,s3]= .nx [.sh T,.rk 368 ⟨acc++es.map pr,[],[]⟩,s2',s3']
 |[],acc,s2,s3,_,_,_=>⟨s2,s3,by simp[fU]⟩
 |e::es,acc,s2,s3,h,nd,hl=>by
  have a:(bI acc (lbl e)).isSome=q7:=by
   rw[jR];rfl;intro m;rw[li,jv]at nd;exact nd.2.2 _ m _ (by simp[pr]) rfl
  obtain⟨s2',s3',k⟩:=Fr (T:=T) es (acc++[pr e]) (.sh (tx (ln e))) (.sh (.tup [tx e.1,.str " = ",tx (stx e.2.1 e.2.2)])) (λx m=>h x (.tail _ m)) (by simpa using nd) (by simp at hl ⊢;lia);refine⟨s2',s3',(lE (ρ1:=[.sh T,.rk 368 ⟨acc,[],[]⟩,.sh (tx (ln e)),s3]) rfl (MB (h e (.head _)) a (by unfold LIM;simp at hl;lia))).trans ?_⟩;rw[k];simp
def sU(he: ∀e∈es,sY e)(nd:(es.map lbl).Nodup)(hs:eY (es.map lbl)=es.map lbl)(hn:es.length<=30):eJ [tx (txt es)]= .rk ⟨es.map pr,[],[]⟩:=by
 have f:=B1 he hn;have keys:(es.map pr).map (·.1)=es.map lbl:=by rw[pe];rfl
 have q:lQ (qV (aB 0) (rK (.str "\n"))) qw (pi (MP (rK (.int 1)))) [.sh (tx (txt es)),.rk 368 ⟨[],[],[]⟩,.no,.no]= .ow (es.map λe=>tx (ln e)):=by
  have d:qV (aB 0) (rK (.str "\n")) [.sh (tx (txt es)),.rk 368 ⟨[],[],[]⟩,.no,.no]= .ow ((es.map λe=>tx (ln e))++[tx []]):=by
   show(if(pc "\n").length=1/\(⟨(txt es).toArray⟩:Str).length<=LIM then R.ow ((qj ⟨(txt es).toArray⟩ "\n").map D.str)else .bad)=_;have c:(pc "\n")=⟨#[10]⟩:=by kernel_rfl
   have a:qj ⟨(txt es).toArray⟩ ⟨#[10]⟩=(es.map ln++[[]]).map λ(l:L1 Nat)=>(⟨l.toArray⟩:Str):=by
    refine DY (by simp) (λp m=>?_) (by rw[xA];simp[txt,List.flatMap_map]);rcases k6.1 m with m|m
    .obtain⟨e,b,rfl⟩:=au.1 m;exact OG (he e b)
    .rw[i3.1 m];simp
   rw[if_pos ⟨by kernel_rfl,f.lim⟩,c,a];simp[tx,Function.comp_def]
  unfold lQ;rw[d];show R.ow (FQ ((es.map λe=>tx (ln e))++[tx []]) qw (pi (-1)))=_;rw[DZ]
 obtain⟨g,i,o⟩:=Fr (T:=tx (txt es)) es [] .no .no he (by rw[lz,keys];exact nd) (by simp;lia);have n:aP ⟨es.map pr,[],[]⟩ []= .pure (.ok (tx (txt es))):=kQ (by rw[show((⟨es.map pr,[],[]⟩:Rk).held.map (·.1))=es.map lbl from keys];exact hs) (by simp;lia) (λe b=>⟨he e b,jS (h:=es.map pr) (by rw[keys];exact nd) (ip b)⟩) hn;have j:bF .NotEq (bO 368 1 aP []) (aB 0) [.sh (tx (txt es)),.rk 368 ⟨es.map pr,[],[]⟩,g,i]= .ok (.bl q7):=by
  refine(aU (D0 (r:=⟨es.map pr,[],[]⟩) rfl n) (show aB 0 _= .ok (tx (txt es)) from rfl)).trans ((DW f f).trans ?_);simp
 exact IX (ρ:=[.sh (tx (txt es)),.rk 368 ⟨es.map pr,[],[]⟩,g,i]) ((aG (dZ ((bK (x:=tx (txt es)) rfl).trans (BW _)))).trans ((aG (ρ':=[.sh (tx (txt es)),.rk 368 ⟨[],[],[]⟩,.no,.no]) rfl).trans ((aG ((pL (.inr q)).trans o)).trans ((aG ((dB j).trans rfl)).trans rfl)))) rfl
def OI{h:Row}(o:OkH h): ∃es:L1 En,es.map lbl=eY (h.map (·.1))/\∀e∈es,sY e/\bI h (lbl e)=pi (val e):=by
 have b: ∀l:L1 Str,(∀x∈l,x∈h.map (·.1))->∃es:L1 En,es.map lbl=l/\∀e∈es,sY e/\bI h (lbl e)=pi (val e):=by
  intro l;induction l with
  |nil=>exact λ_=>⟨[],rfl,λe m=>by cases m⟩
  |cons x l j=>
   intro d;obtain⟨es,i,n⟩:=j λy m=>d y (.tail _ m);obtain⟨v,ev,f,m,a,g,rfl⟩:=uV o (d x (.head _));refine⟨(x.cps.toList,m,a)::es,by rw[ni,i];rfl,λe c=>?_⟩;rcases av.1 c with rfl|c;exact⟨⟨f,g⟩,ev⟩;exact n e c
 exact b _ λx m=>(dN _).mem_iff.1 m
def D2{a b:Row}(oa:OkH a)(ob:OkH b)(q:Eqv a b):eY (a.map (·.1))=eY (b.map (·.1)):=by
 have p:(a.map (·.1)).Perm (b.map (·.1)):=(List.perm_ext_iff_of_nodup oa.1 ob.1).2 λx=>by
  have c:=fM (h:=a) (y:=x);have d:=fM (h:=b) (y:=x);rw[q x,d]at c;rw[<-gy, <-gy,c]
 exact er (λa b _ _ x y=>mG y x) (eF _) (eF _) ((eE _).trans (p.trans (eE _).symm))
def lrB:FS:=aY (eU [3,4] (rIx (aD 0) (aB 2)))
  (gL 1 (aT .Add (aT .Add (aT .Add (aT .Add (aT .Add (aT .Add (aB 1) (aB 2)) (rK (.str " = "))) (aE tQ [aD 3])) (rK (.str ":"))) (oP "" (a8 0 [] (aD 4) qw (aE tQ [aD 0])))) (rK (.str "\n"))))
def MC{h:Row}(ok:sY e)(hv:bI h (lbl e)=pi (val e))(sz:Sg z)(hl:z.length+30<=900):
  lrB [.sh (bX h),.sh (tx z),.sh (.str (lbl e)),s3,s4]= .nx [.sh (bX h),.sh (tx (z++(ln e++[10]))),.sh (.str (lbl e)),.sh (.int (e.2.1:Nat)),.sh (.tup (e.2.2.map bD))]:=by
 obtain⟨s,_,t,p⟩:=sT ok;have g:=ok.2;have u:=g.1;have j:=B0 g;simp only[stx,bq,aq]at j;have d:Sg e.1:=⟨by lia,λc m=>by have:=p c m;lia⟩;have f:Sg [48+e.2.1]:=⟨by simp,λc k=>by rw[i3.1 k];lia⟩;refine(aG (f9 (ds:=[.int (e.2.1:Nat),.tup (e.2.2.map bD)]) ((dC (x:=bX h) (y:=.str (lbl e)) rfl rfl).trans (gW hv)) rfl)).trans ?_;have o:=BX (ρ:=[.sh (bX h),.sh (tx z),.sh (.str (lbl e)),.sh (.int (e.2.1:Nat)),.sh (.tup (e.2.2.map bD))]) (a:=aB 1) (b:=aB 2) (x:=z) (y:=e.1) rfl rfl sz d;have r:=BX o (show rK (.str " = ") _= .ok (tx [32,61,32]) from congrArg R.ok Pn) (sz.app d (by lia)) u3;have n:=BX r ((bK (a:=aD 3) (x:=.int (e.2.1:Nat)) rfl).trans (BV (m:=e.2.1) (by lia))) ((sz.app d (by lia)).app u3 (by simp;lia)) f;have q:=BX n (show rK (.str ":") _= .ok (tx [58]) from congrArg R.ok sco) (((sz.app d (by lia)).app u3 (by simp;lia)).app f (by simp;lia)) Jj;have l:=BX q (sS (it:=aD 4) g rfl) ((((sz.app d (by lia)).app u3 (by simp;lia)).app f (by simp;lia)).app Jj (by simp;lia)) (BZ g);have i:=BX l (show rK (.str "\n") _= .ok (tx [10]) from congrArg R.ok Pm) (((((sz.app d (by lia)).app u3 (by simp;lia)).app f (by simp;lia)).app Jj (by simp;lia)).app (BZ g) (by simp;lia)) IW;have el:z++e.1++[32,61,32]++[48+e.2.1]++[58]++e.2.2.map fb++[10]=z++(ln e++[10]):=by simp[ln,stx]
 rw[el]at i;exact dR i
theorem Fs{h:Row}: ∀es z s2 s3 s4,(∀e∈es,sY e/\bI h (lbl e)=pi (val e))->Sg z->z.length+es.length*30<=900->
  ∃s2' s3' s4',fU (q8 [2] qz) lrB (es.map λe=>D.str (lbl e)) [.sh (bX h),.sh (tx z),s2,s3,s4]= .nx [.sh (bX h),.sh (tx (z++txt es)),s2',s3',s4']
 |[],z,s2,s3,s4,_,_,_=>⟨s2,s3,s4,by simp[fU,txt]⟩
 |e::es,z,s2,s3,s4,he,sz,hl=>by
  obtain⟨ok,a⟩:=he e (.head _);simp only[bq]at hl;have c:=(yK ok).2;have b:=(yK ok).1.app IW (by simp;lia);obtain⟨s2',s3',s4',k⟩:=Fs es (z++(ln e++[10])) (.sh (.str (lbl e))) (.sh (.int (e.2.1:Nat))) (.sh (.tup (e.2.2.map bD))) (λx m=>he x (.tail _ m)) (sz.app b (by simp;lia)) (by simp;lia);refine⟨s2',s3',s4',(lE (ρ1:=[.sh (bX h),.sh (tx z),.sh (.str (lbl e)),s3,s4]) rfl (MC ok a sz (by lia))).trans ?_⟩;rw[k];simp[txt]
def u4{h:Row}(o:OkH h)(e1:es.map lbl=eY (h.map (·.1)))(he: ∀e∈es,sY e/\bI h (lbl e)=pi (val e)):aW [bX h]= .ok (tx (txt es)):=by
 have d:=i7 o;have g:es.length=h.length:=by have:=congrArg pp e1;simpa[(dN _).length_eq]using this
 have a:jB [bX h]= .ow (es.map λe=>D.str (lbl e)):=by
  show(if(h.map (·.1)).length<64 then R.ow ((eY (h.map (·.1))).map D.str)else .bad)=_;rw[if_pos (by simp;lia), <-e1,pe];rfl
 obtain⟨i,b,f,k⟩:=Fs (h:=h) es [] .no .no .no he ⟨by simp,λc m=>by cases m⟩ (by simp;lia);refine aR ((aG (ρ':=[.sh (bX h),.sh (tx []),.no,.no,.no]) (dR (congrArg R.ok (show D.str ""=tx [] by kernel_rfl)))).trans ((aG ((pL (.inr ((bK (x:=bX h) rfl).trans a))).trans k)).trans (aQ rfl)))
def MD{h:Row}{es:L1 En}(o:OkH h)(e1:es.map lbl=eY (h.map (·.1)))(he: ∀e∈es,sY e/\bI h (lbl e)=pi (val e)):OkH (es.map pr)/\Eqv (es.map pr) h:=by
 have keys:(es.map pr).map (·.1)=es.map lbl:=by rw[pe];rfl
 have d:((es.map pr).map (·.1)).Nodup:=by rw[keys,e1];exact(dN _).nodup_iff.2 o.1
 refine⟨⟨d,λp m=>?_⟩,λx=>?_⟩;obtain⟨e,a,rfl⟩:=au.1 m;exact⟨(he e a).1.1,e.2.1,e.2.2,(he e a).1.2,rfl⟩;by_cases b:x∈es.map lbl;obtain⟨e,a,rfl⟩:=au.1 b;rw[(he e a).2];exact jS d (p:=pr e) (ip a);have c:x∉h.map (·.1):=λm=>b (by rw[e1];exact(dN _).mem_iff.2 m);rw[jR c,jR (by rw[keys];exact b)]
def xB{h:Row}(o:OkH r.held)(oh:OkH h)(q:Eqv r.held h): ∃t,Sg t/\aP r []= .pure (.ok (tx t))/\aW [bX h]= .ok (tx t)/\∃k,eJ [tx t]= .rk ⟨k,[],[]⟩/\OkH k/\Eqv k h:=by
 obtain⟨g,d,f⟩:=OI oh;have l:=i7 oh;have p:=i7 o;have n:g.length=h.length:=by have:=congrArg pp d;simpa[(dN _).length_eq]using this
 have c: ∀e∈g,sY e:=λe m=>(f e m).1;obtain⟨i,j⟩:=MD oh d f;refine⟨txt g,B1 c (by lia),kQ ((D2 o oh q).trans d.symm) (by lia) (λe m=>⟨c e m,(q _).trans (f e m).2⟩) (by lia),u4 oh d f,_,sU c (by rw[d];exact(dN _).nodup_iff.2 oh.1) ?_ (by lia),i,j⟩;rw[d];exact er (λa b _ _ x y=>mG y x) (eF _) (eF _) (eE _)
abbrev stA(ns:L1 Int)(r:Rk)(h:Row)(s3 s4 s5:Slot):Rho:=[.sh (Sc ns),.rk 368 r,.sh (bX h),s3,s4,s5,.no,.no,.no,.no]
abbrev stB(ns:L1 Int)(r:Rk)(d:D)(s3 s4 s5 s6 s7:Slot)(h:Row)(r2:Rk):Rho:=[.sh (Sc ns),.rk 368 r,.sh d,s3,s4,s5,s6,s7,.sh (bX h),.rk 368 r2]
def rT:FS:=aY (eB (rK (.bl q7))) (aX)
def OJ:FS:=aY (gL 4 (aE cS [aB 0,aT .Add (rK (.int 100)) (aT .Mult (rK (.int 60)) (aB 3)),aB 2]))
  (aY (eU [2,5] (aE aN [aB 2,aB 4]))
  (aY (EW 368 1 aV [aB 4])
  (aX)))
def Qf:FC:=cOr (uK 368 9 aV [aB 4] .NotEq (aB 5)) (pH (bF .NotEq (bO 368 9 aP []) (aE aW [aB 8])))
def OL:FS:=aY (gL 4 (aE cS [aB 0,aT .Add (rK (.int 2000)) (aT .Mult (rK (.int 60)) (aB 3)),aB 8]))
  (aY (eU [8,5] (aE aN [aB 8,aB 4]))
  (aY (B8 Qf rT (aX))
  (aX)))
def mBk:FM:=λr _=>dM aM (E5 368 0 fT [] [.rk 368 r])
def Po:FC:=cOr (uK 368 9 dG [] .NotEq (aB 2)) (cOr (uK 368 9 bW [] .NotEq (eQ [rK (.int 0),rK (.int 0)])) (uK 368 9 mBk [] .NotEq (rK (.str "no back"))))
def D3:Io=aY (iP 1 2 368 (λ_=>.rk rk0) [] (lS)) (aY (tU [3] qz (cW (aE aI [aB 0,rK (.int 0),rK (.int 11)])) OJ)
 (aY (eU [6,7] (eQ [aE aW [aB 2],bO 368 1 bW []])) (aY (B8 (pH (bF .NotEq (bO 368 1 aP []) (aB 6))) rT (aX))
 (aY (iP 9 8 368 eJ [aB 6] (aB 2)) (aY (B8 Po rT (aX)) (aY (tU [3] qz (cW (rK (.int 3))) OL)
 (aY (eB (kC (bF .Eq (bO 368 1 aP []) (aB 6)) (bF .Eq (bO 368 1 bW []) (aB 7)))) (aX)))))))):=rfl
def D4(h: ∀k,c ρ k=k q7 ρ'):B8 c a b ρ=b ρ':=by unfold B8;rw[h];rfl
def D5(h: ∀k,c1 ρ k=k q7 ρ'):cOr c1 c2 ρ k=c2 ρ' k:=by unfold cOr;rw[h];rfl
def D6(e0:ρ[i]? =pi (.rk A r))(ea:args fs ρ= .ok ds)(em:M r ds= .chg d r'):EW A i M fs ρ= .nx (ρ.set i (.rk A r')):=by simp[EW,kO,e0,ea,em]
def B2(e0:ρ[i]? =pi (.rk A r))(ea:args fs ρ= .ok ds)(em:M r ds= .pure (.ok d)):EW A i M fs ρ= .nx ρ:=by simp[EW,kO,e0,ea,em,fN]
def xC(ea:args fs ρ= .ok ds)(em:N ds= .rk r)(he:e ρ= .ok d):iP i j A N fs e ρ= .nx ((ρ.set i (.rk A r)).set j (.sh d)):=by simp[iP,ea,em,fN,he]
def MF c k(h:aB 3 ρ= .ok (.int (k:Nat))):aT .Add (rK (.int (c:Nat))) (aT .Mult (rK (.int 60)) (aB 3)) ρ= .ok (.int ((c+60*k:Nat):Int)):=by refine(bM (x:=.int (c:Nat)) (y:=.int (60*(k:Nat))) rfl ((bM (x:=.int 60) (y:=.int (k:Nat)) rfl h).trans (LP rfl))).trans ?_;simp[kR,fP]
section
variable{ns:L1 Int}{r r2:Rk}{h:Row}{d:D}{s3 s4 s5 s6 s7:Slot}
def D7 k(o:OkH r.held)(oh:OkH h)(q:Eqv r.held h)(ld:r.done.length<100): ∃r' h' s4' s5',OJ (stA ns r h (.sh (.int (k:Nat))) s4 s5)= .nx (stA ns r' h' (.sh (.int (k:Nat))) s4' s5')/\OkH r'.held/\OkH h'/\Eqv r'.held h'/\r'.done.length<=r.done.length+1:=by obtain⟨d,m,n⟩:=BI ns (100+60*k) (h.map (·.1)) (h.map (·.2));obtain⟨h',b,p,t,A,w⟩:=Mo r o oh q (by lia) n;have l:=dR (i:=4) ((d7 (f:=cS) (a:=aB 0) (c:=aB 2) (ρ:=stA ns r h (.sh (.int (k:Nat))) s4 s5) (x:=Sc ns) (z:=bX h) rfl (MF 100 k rfl) rfl).trans m);have j:eU [2,5] (aE aN [aB 2,aB 4]) (stA ns r h (.sh (.int (k:Nat))) (.sh d) s5)= .nx (stA ns r h' (.sh (.int (k:Nat))) (.sh d) (.sh b)):=f9 (ds:=[bX h',b]) ((dH (x:=bX h) (y:=d) rfl rfl).trans p) rfl;rcases t with ⟨e,rfl⟩|⟨u,s,e,g,v⟩;exact⟨r,h',_,_,(aG l).trans ((aG j).trans ((aG (B2 (r:=r) (ds:=[d]) rfl rfl e)).trans rfl)),o,oh,q,pj _⟩;exact⟨⟨u,r.done++[s],[]⟩,h',_,_,(aG l).trans ((aG j).trans ((aG (D6 (r:=r) (ds:=[d]) rfl rfl e)).trans rfl)),g,w,v,by simp⟩
theorem xD: ∀(l:L1 Nat) r (h:Row) s3 s4 s5,OkH r.held->OkH h->Eqv r.held h->r.done.length+l.length<100->
  ∃r' h' s3' s4' s5',fU (q8 [3] qz) OJ (l.map λ(i:Nat)=>D.int (i:Int)) (stA ns r h s3 s4 s5)= .nx (stA ns r' h' s3' s4' s5')/\OkH r'.held/\OkH h'/\Eqv r'.held h'
 |[],r,h,s3,s4,s5,o,oh,q,_=>⟨r,h,s3,s4,s5,rfl,o,oh,q⟩
 |k::l,r,h,s3,s4,s5,o,oh,q,hl=>by
  simp only[bq]at hl;obtain⟨d,b,c,j,e,f,a,q1,s⟩:=D7 (ns:=ns) (s4:=s4) (s5:=s5) k o oh q (by lia);obtain⟨r',h',m,n,g,p,z⟩:=xD l d b (.sh (.int (k:Nat))) c j f a q1 (by lia);exact⟨r',h',m,n,g,(lE (ρ1:=stA ns r h (.sh (.int (k:Nat))) s4 s5) rfl e).trans p,z⟩
def pY(e0:ρ[i]? =pi (.rk 368 r))(e:aP r []= .pure (.ok x)):bO 368 i aP [] ρ= .ok x:=D0 e0 e
def D8 k(o:OkH r2.held)(oh:OkH h)(q:Eqv r2.held h)(ld:r2.done.length<100): ∃r' h' s4' s5',OL (stB ns r d (.sh (.int (k:Nat))) s4 s5 s6 s7 h r2)= .nx (stB ns r d (.sh (.int (k:Nat))) s4' s5' s6 s7 h' r')/\OkH r'.held/\OkH h'/\Eqv r'.held h'/\r'.done.length<=r2.done.length+1:=by
 obtain⟨dd,w,E⟩:=BI ns (2000+60*k) (h.map (·.1)) (h.map (·.2));obtain⟨h',b,A,t,l,p⟩:=Mo r2 o oh q (by lia) E;have v:=dR (i:=4) ((d7 (f:=cS) (a:=aB 0) (c:=aB 8) (ρ:=stB ns r d (.sh (.int (k:Nat))) s4 s5 s6 s7 h r2) (x:=Sc ns) (z:=bX h) rfl (MF 2000 k rfl) rfl).trans w);have n:eU [8,5] (aE aN [aB 8,aB 4]) (stB ns r d (.sh (.int (k:Nat))) (.sh dd) s5 s6 s7 h r2)= .nx (stB ns r d (.sh (.int (k:Nat))) (.sh dd) (.sh b) s6 s7 h' r2):=f9 (ds:=[bX h',b]) ((dH (x:=bX h) (y:=dd) rfl rfl).trans A) rfl;have j: ∀{r':Rk},OkH r'.held->Eqv r'.held h'->∀k',pH (bF .NotEq (bO 368 9 aP []) (aE aW [aB 8])) (stB ns r d (.sh (.int (k:Nat))) (.sh dd) (.sh b) s6 s7 h' r') k'=k' q7 (stB ns r d (.sh (.int (k:Nat))) (.sh dd) (.sh b) s6 s7 h' r'):=λ{r'} o1 q1 k'=>by
  obtain⟨t,u,G,C,_⟩:=xB o1 p q1;exact w6 ((aU (pY (r:=r') rfl G) ((bK (x:=bX h') rfl).trans C)).trans ((DW u u).trans (by simp)))
 rcases t with ⟨e,rfl⟩|⟨B,s,e,g,m⟩;exact⟨r2,h',_,_,(aG v).trans ((aG n).trans ((aG ((D4 λk=>(D5 λk=>pX (r:=r2) (ds:=[dd]) rfl rfl e rfl (BO l.1 l.2)).trans (j o q k)).trans rfl)).trans rfl)),o,oh,q,pj _⟩;exact⟨⟨B,r2.done++[s],[]⟩,h',_,_,(aG v).trans ((aG n).trans ((aG ((D4 λk=>(D5 λk=>(DU (r:=r2) (ds:=[dd]) rfl rfl e rfl (BO l.1 l.2)).trans rfl).trans (j g m k)).trans rfl)).trans rfl)),g,p,m,by simp⟩
theorem xE: ∀(l:L1 Nat) r2 (h:Row) s3 s4 s5,OkH r2.held->OkH h->Eqv r2.held h->r2.done.length+l.length<100->
  ∃r' h' s3' s4' s5',fU (q8 [3] qz) OL (l.map λ(i:Nat)=>D.int (i:Int)) (stB ns r d s3 s4 s5 s6 s7 h r2)= .nx (stB ns r d s3' s4' s5' s6 s7 h' r')
 |[],r2,h,s3,s4,s5,o,oh,q,_=>⟨r2,h,s3,s4,s5,rfl⟩
 |k::l,r2,h,s3,s4,s5,o,oh,q,hl=>by
  simp only[bq]at hl;obtain⟨f,b,c,m,e,g,a,q1,t⟩:=D8 (ns:=ns) (r:=r) (d:=d) (s4:=s4) (s5:=s5) (s6:=s6) (s7:=s7) k o oh q (by lia);obtain⟨r',h',n,p,j,s⟩:=xE l f b (.sh (.int (k:Nat))) c m g a q1 (by lia);exact⟨r',h',n,p,j,(lE (ρ1:=stB ns r d (.sh (.int (k:Nat))) s4 s5 s6 s7 h r2) rfl e).trans s⟩
def MG{kk:Row}(o:OkH kk)(oh:OkH h)(q:Eqv kk h)k:Po (stB ns r (bX h) s3 s4 s5 s6 s7 h ⟨kk,[],[]⟩) k=k q7 (stB ns r (bX h) s3 s4 s5 s6 s7 h ⟨kk,[],[]⟩):=by
 have l:=i7 o;have a:mBk ⟨kk,[],[]⟩ []= .pure (.ok (.str "no back")):=by
  show dM aM (fT ⟨kk,[],[]⟩ [])=_;rw[IR,t9]
 exact(D5 λk=>pX (r:=⟨kk,[],[]⟩) rfl rfl (Mj o (by lia)) rfl (Ml o oh q)).trans ((D5 λk=>pX (r:=⟨kk,[],[]⟩) rfl rfl (sP _) rfl (by kernel_rfl)).trans (pX (r:=⟨kk,[],[]⟩) rfl rfl a rfl (by kernel_rfl)))
end
def OM(ns:L1 Int):Io ([D.lst (ns.map D.int)].map SK.Slot.sh++ao 9 .no)= .rt (.ok (.bl qz)):=by rw[D3];show aY _ _ [.sh (Sc ns),.no,.no,.no,.no,.no,.no,.no,.no,.no]=_;refine(aG (ρ':=stA ns ⟨[],[],[]⟩ [] .no .no .no) (xC (ds:=[]) rfl rfl rfl)).trans ?_;have u:OkH []:=⟨List.nodup_nil,λp m=>by cases m⟩;obtain⟨p,A,lp⟩:=cV ns 0 (m:=11) (by decide);obtain⟨r,h,c,i,b,e,o,g,q⟩:=xD (ns:=ns) (pq p) ⟨[],[],[]⟩ [] .no .no .no u u (λ_=>rfl) (by simp;lia);refine(aG ((pL (ds:=qR p) (.inl (fI (n:=p) ((d7 (x:=Sc ns) (y:=.int ((0:Nat):Int)) (z:=.int ((11:Nat):Int)) rfl rfl rfl).trans A) (by lia)))).trans e)).trans ?_;obtain⟨t,a,v,B,j,E,ok,l⟩:=xB o g q;let C:D:=.tup [.int r.done.length,.int r.undone.length];have s: ∀{ρ:Rho},ρ[1]? =pi (.rk 368 r)->bO 368 1 bW [] ρ= .ok C:=λe=>D0 e (sP r);refine(aG (ρ':=[.sh (Sc ns),.rk 368 r,.sh (bX h),c,i,b,.sh (tx t),.sh C,.no,.no]) (f9 (ds:=[tx t,C]) (fH ((bK (x:=bX h) rfl).trans B) (s rfl)) rfl)).trans ?_;refine(aG ((D4 λk=>w6 ((aU (pY (r:=r) rfl v) (show aB 6 _= .ok (tx t) from rfl)).trans ((DW a a).trans (by simp)))).trans rfl)).trans ?_;refine(aG (ρ':=stB ns r (bX h) c i b (.sh (tx t)) (.sh C) h ⟨j,[],[]⟩) ((xC (ds:=[tx t]) rfl E rfl).trans rfl)).trans ?_;refine(aG ((D4 λk=>MG ok g l k).trans rfl)).trans ?_;obtain⟨G,I,H,J,K,w⟩:=xE (ns:=ns) (r:=r) (d:=bX h) (s6:=.sh (tx t)) (s7:=.sh C) (pq 3) ⟨j,[],[]⟩ h c i b ok g l (by simp);refine(aG ((pL (ds:=qR 3) (.inl (fI (n:=3) rfl (by decide)))).trans w)).trans (dA (aQ ?_));refine(n6 ((aU (pY (r:=r) rfl v) (show aB 6 _= .ok (tx t) from rfl)).trans ((OC a a).trans (by simp)))).trans ((aU (s rfl) (show aB 7 _= .ok C from rfl)).trans ?_);have f:plain C=qz:=rfl;rw[i4 (iZ f f (by simp[C,dep,zA])),lB _ f]
open PySem.Spec PyProof.Rows L2 PySem.W
abbrev KK(w:World):oe:=kK w.params
set_option maxHeartbeats 0 in
def sV{l:PySem.W.OpenLaw}{ad}w:Ay l.prog w (KK w) ad 224 [("0",.int 0),("1",.int 1),("2",.int 2),("3",.int 3),("4",.int 4)]:=by
 refine⟨by decide,[("0",.int 0 457),("1",.int 1 459),("2",.int 2 461),("3",.int 3 463),("4",.int 4 465)],⟨_,_,_,rfl,⟨rfl,rfl,rfl⟩,rfl,λe a=>?_,?_,by decide+kernel⟩,?_⟩;simp only[List.mem_toArray,av,kh,or_false]at a;rcases a with rfl|rfl|rfl|rfl|rfl<;>exact⟨_,rfl,rfl⟩;repeat (first|exact .nil|refine .cons rfl rfl ?_)
 refine .cons ⟨rfl,.int 0,⟨_,rfl⟩,λG=>by unfold Rep;rfl⟩ ?_;refine .cons ⟨rfl,.int 1,⟨_,rfl⟩,λG=>by unfold Rep;rfl⟩ ?_;refine .cons ⟨rfl,.int 2,⟨_,rfl⟩,λG=>by unfold Rep;rfl⟩ ?_;refine .cons ⟨rfl,.int 3,⟨_,rfl⟩,λG=>by unfold Rep;rfl⟩ ?_;refine .cons ⟨rfl,.int 4,⟨_,rfl⟩,λG=>by unfold Rep;rfl⟩ ?_;exact .nil
abbrev ge(x:Str)(g:SK.Gl):Str×SK.Gl:=(x,g)
abbrev xqT:=List (Str×Nat×FM)
abbrev xq1:xqT:=[("set_to",2,aZ)]
abbrev xq2:xqT:=("do",3,kP)::xq1
abbrev xq3:xqT:=("put",2,gK)::xq2
abbrev xq4:xqT:=("switch_of",1,aF)::xq3
abbrev xq5:xqT:=("take",1,d8)::xq4
abbrev xq6:xqT:=("join",4,d9)::xq5
abbrev xq7:xqT:=("turn",1,eR)::xq6
abbrev xq8:xqT:=("labels",0,bL)::xq7
abbrev xq9:xqT:=("back",0,fT)::xq8
abbrev xq10:xqT:=("counts",0,bW)::xq9
def tbL:L1 (Str×SK.Gl):=[ge "read_rack" (.rmk 368 1 eJ),ge "rack_text" (.rfn 368 aP),ge "Rack" (.cls 368 xq10),ge "Rack" (.cls 368 xq9),ge "Rack" (.cls 368 xq8),ge "Rack" (.cls 368 xq7),ge "Rack" (.cls 368 xq6),ge "Rack" (.cls 368 xq5),ge "Rack" (.cls 368 xq4),ge "Rack" (.cls 368 xq3),ge "Rack" (.cls 368 xq2),ge "Rack" (.cls 368 xq1),ge "Rack" (.cls 368 []),ge "_law_rack_text" (.fn 26 1 aW),ge "_law_behind" (.fn 25 2 aN),ge "_law_deed" (.fn 24 3 cS),ge "_law_switch" (.fn 23 3 dD),ge "_law_odd" (.fn 22 2 fK),ge "_law_setting" (.fn 21 2 aS),ge "_law_pick" (.fn 20 3 aI),ge "_law_cell" (.fn 19 2 fE),ge "joined" (.fn 18 3 eO),ge "check_label" (.fn 17 1 cQ),ge "is_label" (.fn 16 1 eI),ge "read_switch" (.fn 15 1 cO),ge "switch_text" (.fn 14 1 cN),ge "check_text" (.fn 13 1 dW),ge "unlike" (.fn 12 2 iG),ge "either" (.fn 11 2 iF),ge "both" (.fn 10 2 oB),ge "turned" (.fn 9 1 jQ),ge "check_alike" (.fn 8 2 bR),ge "check_switch" (.fn 7 1 a9),ge "is_switch" (.fn 6 1 dS),ge "how_many_settings" (.fn 5 1 bS),ge "is_row" (.fn 4 3 jP),ge "is_many" (.fn 3 1 gB),ge "are_whole_below" (.fn 2 2 cG),ge "is_whole_below" (.fn 1 2 bN),ge "is_whole" (.fn 0 1 iE),ge (eC .dict) (.py .dict),ge (eC .sorted) (.py .sorted),ge (eC .all) (.py .all),ge (eC .sum) (.py .sum),ge (eC .list) (.py .list),ge (eC .tuple) (.py .tuple),ge (eC .str) (.py .str),ge (eC .bool) (.py .bool),ge (eC .int) (.py .int),ge (eC .isin) (.py .isin),ge (eC .zip) (.py .zip),ge (eC .range) (.py .range),ge (eC .len) (.py .len),ge "ValueError" .verr,ge "NoBack" (.exc 9),ge "NoLabel" (.exc 8),ge "NoTerm" (.exc 7),ge "NoText" (.exc 6),ge "NoSums" (.exc 5),ge "Unlike" (.exc 4),ge "NoMove" (.exc 3),ge "NoName" (.exc 2),ge "NoSwitch" (.exc 1),ge "SwitchError" (.exc 0),ge "FIGURES" (.tbl [("0",.int 0),("1",.int 1),("2",.int 2),("3",.int 3),("4",.int 4)]),ge "BETWEEN" (.val (.str " = ")),ge "LONGEST_LABEL" (.val (.int 4)),ge "MOST_NAMES" (.val (.int 4))]
def flL:L1 (Nat×Fn):=[(1,iE),(2,bN),(2,cG),(1,gB),(3,jP),(1,bS),(1,dS),(1,a9),(2,bR),(1,jQ),(2,oB),(2,iF),(2,iG),(1,dW),(1,cN),(1,cO),(1,eI),(1,cQ),(3,eO),(2,fE),(3,aI),(2,aS),(2,fK),(3,dD),(3,cS),(2,aN),(1,aW)]
set_option maxHeartbeats 0 in
def all_mk{l:PySem.W.OpenLaw}(X:(KK w).In h)(G:h.Ns mainGlobals mg)(hfa:mg "law"=pi (.ref fa)):
  ∃ad C Δ rd g k n m cL P1 c P0 params body scope,LawGT l.prog w (KK w) mg fa "law" "_law_did" ad C Δ rd g k n m cL P1 c P0 params body scope:=by
 cases hfa.symm.trans (n8 X G (n:="law") (v:=.ref 463) (by kernel_rfl))
 refine⟨(EO [31,44,56,68,80,92,104,116,128,140] 31 [149,156,161,168,175,182,189,196,203,208,213,218,223,231,236,241,246,253,260,391,398,408,413,403,434,439,456]),⟨tbL,flL,defScope (top 55),aA (defScope (top 55)),zD 50 (defBody (top 55))⟩,Two (TbL 458 ((envOfC "law" (defScope (top 55)) 0 463 (.ref 462)).qual++"<lambda>")) (TbL 441 ((envOfC "_law_did" (defScope (top 52)) 0 446 (.ref 445)).qual++"<lambda>")),HY [("_law_did",1,aV),("_law_all_of",0,dG)] "_law_told" aM 368 xq10 ⟨tbL,flL,defScope (top 55),aA (defScope (top 55)),zD 50 (defBody (top 55))⟩,Io,40,100,9,462,458,445,441,defArgs (top 55),defBody (top 55),defScope (top 55),?_⟩;refine⟨⟨_,_,_,_,_,_,_,_,_,rfl,λs u=>.of_eq rfl⟩,by kernel_rfl,by kernel_rfl,⟨rfl,by decide,by decide⟩,by kernel_rfl,by kernel_rfl,⟨by kernel_rfl,by kernel_rfl⟩,LL (by decide),LM,λp a H j i U=>?_,by kernel_rfl,by kernel_rfl,OM⟩
 obtain⟨E,y,S⟩:=U _ (.head _);obtain⟨hC,hB,z⟩:=U _ (.tail _ (.head _));have t:PQ l.prog w (KK w) mg a a (EO [31,44,56,68,80,92,104,116,128,140] 31 [149,156,161,168,175,182,189,196,203,208,213,218,223,231,236,241,246,253,260,391,398,408,413,403,434,439,456]) 0 [] []:=.nil j i (Hg (by kernel_rfl) (by kernel_rfl))
 have t:=t.int "MOST_NAMES" 4 360;have t:=t.int "LONGEST_LABEL" 4 493;have t:=t.val "BETWEEN" (d:=.str " = ") (u:=.str " = " 495) (v:=.str " = ") ⟨_,rfl⟩ (λG=>by unfold Rep;rfl)
 have t:=t.tbl "FIGURES" 224 (sV w);have t:=t.exc "SwitchError" 0;have t:=t.exc "NoSwitch" 1;have t:=t.exc "NoName" 2;have t:=t.exc "NoMove" 3;have t:=t.exc "Unlike" 4;have t:=t.exc "NoSums" 5;have t:=t.exc "NoText" 6;have t:=t.exc "NoTerm" 7;have t:=t.exc "NoLabel" 8;have t:=t.exc "NoBack" 9;have t:=t.verr;have t:=t.py .len;have t:=t.py .range;have t:=t.py .zip;have t:=t.py .isin;have t:=t.py .int;have t:=t.py .bool;have t:=t.py .str;have t:=t.py .tuple;have t:=t.py .list;have t:=t.py .sum;have t:=t.py .all;have t:=t.py .sorted;have t:=t.py .dict;have t:=t.add "is_whole" (top 14) 149 ["thing"] 1 iE rfl;have t:=t.add "is_whole_below" (top 15) 156 ["thing","bound"] 2 bN rfl;have t:=t.add "are_whole_below" (top 16) 161 ["things","bound"] 2 cG rfl;have t:=t.add "is_many" (top 17) 168 ["thing"] 1 gB rfl;have t:=t.add "is_row" (top 18) 175 ["thing","length","bound"] 3 jP rfl;have t:=t.add "how_many_settings" (top 19) 182 ["many"] 1 bS rfl;have t:=t.add "is_switch" (top 21) 189 ["thing"] 1 dS rfl;have t:=t.add "check_switch" (top 22) 196 ["thing"] 1 a9 rfl;have t:=t.add "check_alike" (top 23) 203 ["one","other"] 2 bR rfl;have t:=t.add "turned" (top 24) 208 ["switch"] 1 jQ rfl;have t:=t.add "both" (top 25) 213 ["one","other"] 2 oB rfl;have t:=t.add "either" (top 26) 218 ["one","other"] 2 iF rfl;have t:=t.add "unlike" (top 27) 223 ["one","other"] 2 iG rfl;have t:=t.add "check_text" (top 30) 231 ["thing"] 1 dW rfl;have t:=t.add "switch_text" (top 31) 236 ["switch"] 1 cN rfl;have t:=t.add "read_switch" (top 32) 241 ["text"] 1 cO rfl;have t:=t.add "is_label" (top 36) 246 ["thing"] 1 eI rfl;have t:=t.add "check_label" (top 37) 253 ["thing"] 1 cQ rfl;have t:=t.add "joined" (top 38) 260 ["word","one","other"] 3 eO rfl;have t:=t.add "_law_cell" (top 43) 391 ["_law_script","_law_k"] 2 fE rfl;have t:=t.add "_law_pick" (top 44) 398 ["_law_script","_law_k","_law_many"] 3 aI rfl;have t:=t.add "_law_setting" (top 46) 408 ["_law_many","_law_number"] 2 aS rfl;have t:=t.add "_law_odd" (top 47) 413 ["_law_one","_law_other"] 2 fK rfl;have t:=t.add "_law_switch" (top 45) 403 ["_law_script","_law_at","_law_many"] 3 dD rfl;have t:=t.add "_law_deed" (top 50) 434 ["_law_script","_law_at","_law_known"] 3 cS rfl;have t:=t.add "_law_behind" (top 51) 439 ["_law_known","_law_deed_here"] 2 aN rfl;have t:=t.add "_law_rack_text" (top 54) 456 ["_law_known"] 1 aW rfl;have t:=t.rack 368 (A8 (by kernel_rfl) (by kernel_rfl) (by kernel_rfl) (by kernel_rfl) (by kernel_rfl) (by kernel_rfl) (by kernel_rfl))
 have t:=t.met "set_to" "Rack.set_to" (met 39 1) 281 "self" ["label","switch"] 2 aZ rfl rfl;have t:=t.met "do" "Rack.do" (met 39 2) 288 "self" ["word","label","switch"] 3 kP rfl rfl;have t:=t.met "put" "Rack.put" (met 39 3) 295 "self" ["label","switch"] 2 gK rfl rfl;have t:=t.met "switch_of" "Rack.switch_of" (met 39 4) 302 "self" ["label"] 1 aF rfl rfl;have t:=t.met "take" "Rack.take" (met 39 5) 309 "self" ["label"] 1 d8 rfl rfl;have t:=t.met "join" "Rack.join" (met 39 6) 316 "self" ["label","word","one","other"] 4 d9 rfl rfl;have t:=t.met "turn" "Rack.turn" (met 39 7) 323 "self" ["label"] 1 eR rfl rfl;have t:=t.met "labels" "Rack.labels" (met 39 8) 330 "self" [] 0 bL rfl rfl;have t:=t.met "back" "Rack.back" (met 39 10) 344 "self" [] 0 fT rfl rfl;have t:=t.met "counts" "Rack.counts" (met 39 12) 358 "self" [] 0 bW rfl rfl;have L:=kB (K:=KK w) (x:="__init__") (qual:="Rack.__init__") (st:=met 39 0) (f:=274) rfl (by kernel_rfl) (by kernel_rfl)
 have o:=L.binds (ps:=["self"]) (λ_ _ _ _ _ _ q b=>gJ rfl (by decide) b)
 have t:=t.rfn "rack_text" (top 40) 377 "rack" aP rfl rfl;have t:=t.rmk (λA ms e=>by cases (show(pi (SK.Gl.cls 368 xq10):L7 SK.Gl)=pi (SK.Gl.cls A ms) from e);exact⟨274,1,_,_,by decide,⟨by kernel_rfl,by kernel_rfl,by kernel_rfl,by kernel_rfl⟩,E3 (k:=0) (self:="self") (A8 (by kernel_rfl) (by kernel_rfl) (by kernel_rfl) (by kernel_rfl) (by kernel_rfl) (by kernel_rfl) (by kernel_rfl)) L (by kernel_rfl) ⟨_,_,_,_,_,_,_,_,_,_,_,_,rfl⟩,o⟩) "read_rack" (top 41) 384 ["text"] 1 368 eJ rfl
 have Y:=kB (K:=KK w) (x:="_law_class") (qual:="_law_class") (st:=top 48) (f:=420) rfl (by kernel_rfl) (by kernel_rfl)
 have Ft:=kB (K:=KK w) (x:="_law_told") (qual:="_law_told") (st:=top 49) (f:=427) rfl (by kernel_rfl) (by kernel_rfl)
 have hq:=Hh (ps:=["_law_kept"]) (n:=1) (F:=aM) t.B t.t Y rfl (by kernel_rfl)
 have N:=Y.binds (ps:=["_law_kept"]) (λ_ _ _ _ _ _ q b=>gJ rfl (by decide) b)
 have T:=Dz (k:=40) (t:=⟨"_law_deed_here","e","_law_class","SwitchError"⟩) (kf:=40) Ft ⟨_,_,_,_,_,_,_,_,_,_,rfl⟩ (by kernel_rfl) (n8 j i (by kernel_rfl)) (by kernel_rfl) hq N (aj _) (n8 j i (by kernel_rfl)) t.B
 have J:=(t.t "Rack" (SK.Gl.cls 368 xq10) rfl).2;have Q:RkC (KK w) 368:=J.2.1
 have hN:(aA (defScope (top 52))).length=2:=by kernel_rfl
 have hD:=LA (X:=cxP [458,441] (jU (CXe l.prog w) l.prog w (KK w) mg a (aA (defScope (top 55))) "law" (defScope (top 55)) 463 (.ref 462) callerA [] p H λ_ _ _=>False)) (tab:=tbL) (fns:=flL) (sc:=defScope (top 52)) (qual:="_law_did") (name:="_law_did") (tn:="_law_told") (self:="_law_rack") (prs:=["_law_deed_here"]) (F:=aM) (A:=368) (ms:=xq10) (fa:=446) (params:=defArgs (top 52)) (body:=defBody (top 52)) (g:=mT) t.B t.t t.u Q J.2.2 ⟨427,_,"_law_deed_here",n8 j i (by kernel_rfl),by kernel_rfl,T,λs u _=>.of_eq rfl⟩ (by decide) hC hB z rfl (by kernel_rfl) (by kernel_rfl) (by kernel_rfl)
 rw[hN]at hD;have Z:=kB (K:=KK w) (x:="_law_all_of") (qual:="_law_all_of") (st:=top 53) (f:=451) rfl (by kernel_rfl) (by kernel_rfl)
 have hA:=A6 (k:=39) (A:=368) (ms:=xq10) (n:=0) (M:=dG) (self:="_law_rack") (ps:=[]) t.B t.t Q J.2.2 Z rfl (by kernel_rfl)
 have r:=Z.binds (ps:=["_law_rack"]) (λ_ _ _ _ _ _ q b=>gJ rfl (by decide) b)
 have O:mh (KK w) (.ref 446)=qz:=by kernel_rfl
 have I:mh (KK w) (.ref 451)=qz:=by kernel_rfl
 exact Il (tab:=tbL) (fns:=flL) (x:="_law_script") (prs1:=["_law_rack","_law_deed_here"]) (nd:=1) (Md:=aV) t.B t.t t.u (by kernel_rfl) ⟨rfl,by decide,by decide⟩ rfl (λA ms e=>by cases (show(pi (SK.Gl.cls 368 xq10):L7 SK.Gl)=pi (SK.Gl.cls A ms) from e);exact⟨274,1,_,_,by decide,⟨by kernel_rfl,by kernel_rfl,by kernel_rfl,by kernel_rfl⟩,E3 (k:=0) (self:="self") (A8 (by kernel_rfl) (by kernel_rfl) (by kernel_rfl) (by kernel_rfl) (by kernel_rfl) (by kernel_rfl) (by kernel_rfl)) L (by kernel_rfl) ⟨_,_,_,_,_,_,_,_,_,_,_,_,rfl⟩,o⟩) hD L8 (n8 j i (by kernel_rfl)) (by decide) O (λs q _ b=>by rcases q with _|⟨u0,_|⟨u1,_|⟨u2,q⟩⟩⟩<;>first|exact .of_eq rfl|(simp at b)) hA (by decide) r (n8 j i (by kernel_rfl)) (by decide) I ⟨427,_,"_law_deed_here",n8 j i (by kernel_rfl),by kernel_rfl,T,λs u _=>.of_eq rfl⟩ (by decide) E y
end SK.k75
open PySem PySem.W PyProof.Rows
set_option maxRecDepth 100000 in
set_option maxHeartbeats 0 in
theorem PySem.Challenge.cw_switchkinds_k75_whole_rack_texts_holds : PySem.Challenge.rw_switchkinds_k75_whole_rack_texts.Holds := by
 w_on
 refine PySem.W.holds_law SK.k75.sd λb=>?_
 refine PySem.W.holds_open (q:=SK.k75.kq) (loose:=["FIGURES"]) (Xt:=λs=>PySem.W.xlAt SK.k75.kq [] s&&PySem.W.recOk (gz (fw di.row)) s) (XP:=PySem.W.XL SK.k75.kq []) (Yf:=og.obs (m6 SK.k75.kK SK.k75.kas (λ_=>by kernel_rfl))) (Ya:=og.val (m6 SK.k75.kK SK.k75.kas (λ_=>by kernel_rfl))) (YP:=og.says (m6 SK.k75.kK SK.k75.kas (λ_=>by kernel_rfl))) (N:=7966) SK.k75.left (og.of (m6 SK.k75.kK SK.k75.kas (λ_=>by kernel_rfl))) (og.keeps (m6 SK.k75.kK SK.k75.kas (λ_=>by kernel_rfl))) (λs e=>PySem.W.xl_of s (Bool.and_eq_true_iff.mp e).1) PySem.W.XL.keeps (by rfl) (by rfl) (by rfl) (λs e=>PySem.W.recFacts_of (Bool.and_eq_true_iff.mp e).2) (by rfl) (by first|assumption|decide+kernel) (by decide+kernel) ⟨rfl,rfl,rfl,rfl,rfl,by decide+kernel⟩ ?hw ?hc
 (case hw=>w_witness2)
 refine SK.walkG (l:=di) rfl rfl (λw h Y=>PySem.W.kIn_of Y) (did:="_law_did") (eh.mp (by kernel_rfl)) (eh.mp (by kernel_rfl)) ?F
 case F=>
  intro w f d h c G a;exact SK.k75.all_mk c G a
