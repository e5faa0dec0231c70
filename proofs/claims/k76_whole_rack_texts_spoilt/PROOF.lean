import PyProof.Rows.All
import Wide.All
import OpenK.AllK
import Wide.FinOn
import PySem.Challenge.RW_switchkinds_k76_whole_rack_texts_spoilt
abbrev gV:PySem.Str:="__debug__"
abbrev hZ:PySem.Str:="__classdict__"
abbrev iS:PySem.Str:="law_switchkinds_k76_whole_rack_texts_spoilt"
abbrev kE:PySem.Str:="/claim/cut.py"
abbrev kS:PySem.Str:="switchkinds.racks"
abbrev lM:PySem.Str:="switchkinds.errors"
abbrev mv:PySem.Str:="switchkinds.switches"
abbrev nS:PySem.Str:="switchkinds.wholes"
abbrev cf:=PySem.Value->PySem.Shared->Prop
abbrev cg:=List (PySem.Addr×PySem.Obj)
abbrev L1:=List
abbrev L7:=Option
noncomputable section
open Option renaming some->pi,none->qr
open Bool renaming true->qt,false->qu
open PySem.Challenge renaming pw_switchkinds_k76_whole_rack_texts_spoilt->ci,rw_switchkinds_k76_whole_rack_texts_spoilt->di
open PySem.Builtin.SmallTypes renaming ownedTupleHandOut->dm,ownedTupleIsFree->dq,nextOf->ee
open PyProof.Rows renaming callWith_builtin1->dt,callWith_type1->du
open PySem.Builtin.Str renaming strSliceIndices->dv,partsBetween->eh,occurrences->er,strSub->iz
open PySem.Builtin.List renaming listExtendWith->dw,listTooLong->eg
open PySem.Calls renaming Name_function_global->dy,callWith_builtin->fw,evalArgs_plain->gz,spliced_cons->ix,spliced_nil->ji
open Option renaming isSome_iff_exists->ef,isSome_map->jp,map->qa
open PySem.F renaming slot_list_getattribute->ej,args_dict_get_2->et,plainAttrs_dict->eu,plainAttrs_list->ew,entry_dict_get->fx,plainAttrs_str->fz,slot_dict_get->gj,type_dict_get->gm,plain_extend_loop->im,args_str_split_2->jb,entry_str_split->jt,slot_str_split->kj,slot_zip_next->lw
open PySem.W.OpenRow renaming toRowW->ey
open PySem.World renaming withFollow->e7
open PySem.W renaming cellsFrom_some->fj,plainGet_of->ig,codeRec_of->iy,callWith_K->i3,methodObj->je,hasDictIn->jf,plainOver->jg,emptyDict->jh,openGood->jy,plainGet->jz,instObj->ky,lookIn->l0,findIn->l4,keepIn->l7,codeIn->md,tabObj->mh,CodeHd->mi,kla_fn->mj,kHook->mn,mg_of->nj,Frag->nq,Hook->nr,isFn->og,fnOf->oj
open PySem.W.RowW renaming records->gu
open PySem.Around renaming under_plainId->g8
open Array renaming length_toList->ie
open Int renaming toNat_of_nonneg->iq,toNat_natCast->ju
open PySem.PyData renaming canLayAll0->jo,canLay0->mf,eqvAll->mx,depth->oo,eqv->pw
open PySem.PassesOwn renaming leaving->jv
open Option.some renaming inj->ku
open ForInStep renaming yield->lr
open PySem.Paired renaming length->mo
open List.cons renaming inj->m3
open PySem.NameKind renaming free->m4,cell->ng
open PySem.Value renaming builtin->nh,none->pc,bool->pd,type->pe,int->qb,str->qc,ref->qe
open PySem.Str renaming ofString->oq,length->ph,empty->qf
open Sum.inr renaming inj->oy
open True renaming intro->pf
open PySem.Obj renaming mapSeq->pj
open PySem.Txt renaming split->qg,join->qj
open Sum renaming inl->qm,inr->qo
open Ne renaming symm->qq
open PySem renaming wpAny_bind->aa,wpAny_pure->ac,mem_of_lookup->ii,strKind->ni,Within->nu,Env->qh
open PySem.Heap renaming get?_push_of_some->ae,get?_push_size->af,lt_size->ah,size_push->ai,get?_update_other->fq,get?_update_self->gi,size_update->kn,SameBut->n5
open Nat renaming le_refl->aj,lt_of_lt_of_le->bg,ne_of_lt->bh,zero_le->bu,add_lt_add_left->io,add_le_add_left->ip,lt_of_le_of_lt->jd,lt_succ_of_lt->jr,lt_succ_self->j3,le_add_right->kl,min_eq_left->lz,lt_irrefl->mq,le_trans->ny,le_of_lt->nz,ne_of_gt->oe,le_succ->o3,not_lt->pq
open List renaming replicate->ao,length_map->aq,mem_map->au,mem_cons->av,size_toArray->ax,getElem?_eq_some_iff->ay,getElem?_set_ne->bc,getElem?_eq_getElem->bd,getElem?_set_self->bj,getElem?_append_right->bn,length_append->bo,length_cons->bq,mem_append_right->bt,getElem?_append_left->bx,getD_eq_getElem?_getD->cc,drop_eq_getElem_cons->dz,getElem?_replicate->eo,length_eq_one_iff->fy,take_of_length_le->f7,forall_mem_append->gc,length_replicate->gf,getElem?_toArray->gr,mem_cons_of_mem->gw,mem_append_left->gy,mem_of_mem_take->h8,mem_of_mem_drop->ia,forall_mem_cons->ib,filterMap_cons->ic,replicate_succ->ij,map_congr_left->ik,append_toArray->ir,mem_cons_self->iu,mem_filterMap->iw,findIdx?_cons->i0,mem_singleton->ja,pairwise_cons->jc,getElem?_map->jj,reverse_cons->jk,flatten_cons->jl,append_assoc->jm,length_range->jq,nodup_append->jw,all_eq_true->jx,length_take->kc,filter_cons->kd,take_length->ke,lookup_cons->kg,drop_length->kh,not_mem_nil->ki,cons_append->km,isEmpty_iff->ko,getElem_mem->kr,mem_filter->kz,mem_append->k6,append_nil->k7,nodup_cons->la,of_mem_zip->lf,length_set->lg,nil_append->lh,find?_cons->li,length_nil->lj,map_append->ll,length_zip->ly,map_cons->mr,any_cons->mz,map_nil->om,zipWith->ou,map_map->ox,lookup->oz,length->o6,range->pb,foldl->pp,Perm->qi
open Bool renaming and_eq_true->aw,false_eq_true->az,false_ne_true->bf,not_eq_true'->js
open False renaming elim->ba
def zBd{α β:Type}{o:L7 α}{f}{b:β}(h:o.bind f=pi b): ∃a,o=pi a/\f a=pi b:=Option.bind_eq_some_iff.mp h
def zMd{α β:Type}{o}{f:α->β}{b}(h:o.map f=pi b): ∃a,o=pi a/\f a=b:=Option.map_eq_some_iff.mp h
def zAd{α:Type}{l:L1 α}{p}(h:l.all p=qt): ∀x,x∈l->p x=qt:=jx.mp h
def zPd(h:m<n):m∈pb n:=List.mem_range.mpr h
def zRd(h:m∈pb n):m<n:=List.mem_range.mp h
set_option Elab.async false
set_option genInjectivity false
set_option genSizeOf false
set_option bootstrap.genMatcherCode false
set_option compiler.extract_closed false
set_option linter.all false
set_option maxRecDepth 100000
namespace SK
open PySem PySem.W PyProof.Rows PySem.Calls
abbrev _root_.PySem.Shared.z(s:Shared):=s.heap.objs.size
noncomputable def NQ(tb:String->L7 Builtin)(p:Program)(w:World)(m:Nat)(ann:L7 Value)(n:Nat):SharedT->Thread->L7 SharedT:=
 Nat.rec (λ_ _=>qr) (λ_ ih s t=>match through t with
  |true=>pi s
  |false=>match stepOk m ann t with
   |false=>qr
   |true=>match stepT (denote tb) p w s t with
    |some r=>ih r.1 r.2
    |none=>qr) n
theorem pQ{tb}{p}{w}{m}{ann}: ∀n s s' t,NQ tb p w m ann n s t=pi s'->topRun tb p w m ann n s.abs t=pi s'.abs
 |0,_,_,_,h=>nomatch h
 |n+1,s,s',t,h=>by
  have h:(match through t with
   |true=>pi s
   |false=>match stepOk m ann t with
    |false=>qr
    |true=>match stepT (denote tb) p w s t with
     |some r=>NQ tb p w m ann n r.1 r.2
     |none=>qr)=pi s':=h
  unfold topRun;rcases d:through t with _|_;rw[d]at h;rcases hk:stepOk m ann t with _|_;rw[hk]at h;cases h;rw[hk]at h;rcases b:stepT (denote tb) p w s t with _|r;rw[b]at h;cases h;obtain⟨e,c⟩:=r;rw[b]at h;rw[stepT_spec b];exact pQ n _ _ _ h;rw[d]at h;cases h;rfl
noncomputable def BTl:Nat->L1 Obj->BT
 |0,_=>.nil
 |n+1,l=>match l with
  |[]=>.nil
  |v::r=>.node v (BTl n (ev qt r)) (BTl n (ev qu r))
where
 ev:Bool->L1 Obj->L1 Obj
 |_,[]=>[]
 |true,v::r=>v::ev qu r
 |false,_::r=>ev qt r
def bt0(P:Params):BT:=BTl 12 (boot_heap P).objs.toList
def sT0(P:Params)(os:OsState):SharedT:=⟨bt0 P,(boot_heap P).objs.size,(boot_heap P).life, #[],boot_drawn,boot_toks,os⟩
def JO P:absHeap (bt0 P) (boot_heap P).objs.size (boot_heap P).life=boot_heap P:=by kernel_rfl
def FY P:(boot_heap P).isNs mainGlobals=qt:=by kernel_rfl
def FZ(p q:Program)(loose:L1 Str)(Xt:Shared->Bool){α:Type}(Yf:Shared->α)(P:Params)(s:Shared):=
 (staticsOk (importedModules p.main.body) (boot_heap P) s.heap&&namesBound p s.heap&&gensDone s&&laidKept (boot_heap P) s.heap,openSeen q loose (importedModules p.main.body) Xt qt s,Yf s)
def PN(p:Program)(N:Nat)(w:World)(os:OsState):L7 SharedT:=NQ treeTable p w (boot_heap w.params).objs.size ((boot_heap w.params).nsMap mainGlobals "__annotations__") N (sT0 w.params os) (topStub p)
def left_tree{Yf}{Ya:World->α}{N:Nat}(e:opening p=plainProg p.main.scope.names)(hN:Nat.ble 600 N=qt)(f: ∀s,fenceModules? p s=pi s)(hk: ∀w os,(PN p N w os).map (λs=>FZ p q loose Xt Yf w.params s.abs)=pi (qt,openGood q loose,Ya w)):LeftO p q loose Xt Yf Ya N:=λw=>by
 obtain⟨m,g,o⟩:=zMd (boot_open e hN f w);obtain⟨h,j,d,k,os⟩:=m;obtain⟨rfl,rfl,rfl,rfl⟩:h=boot_heap w.params/\j=Array.mk []/\d=boot_drawn/\k=boot_toks:=by simpa using o
 obtain⟨s,r,l⟩:=zMd (hk w os);obtain⟨n,c,i⟩:_/\_/\_:=by simpa only[FZ,Prod.mk.injEq]using l
 have b:=pQ _ _ _ _ r;have u:(sT0 w.params os).abs=⟨boot_heap w.params,Array.mk [],boot_drawn,boot_toks,os⟩:=by
  show(⟨absHeap (bt0 w.params) (boot_heap w.params).objs.size (boot_heap w.params).life, #[],boot_drawn,boot_toks,os⟩:Shared)=_;rw[JO]
 rw[u]at b;have t:topFrom treeTable p w N ⟨boot_heap w.params,Array.mk [],boot_drawn,boot_toks,os⟩=pi s.abs:=by
  unfold topFrom;dsimp only;rw[FY,b];show(match staticsOk (importedModules p.main.body) (boot_heap w.params) s.abs.heap&&namesBound p s.abs.heap&&gensDone s.abs&&laidKept (boot_heap w.params) s.abs.heap with|true=>_|false=>_)=_;rw[n]
 unfold openEnds;rw[g];show(topFrom treeTable p w N _).map _=_;rw[t];exact congrArg pi (Prod.ext c i)
universe u
noncomputable def kt{α:Sort u}(_:α):Bool:=qt
def q1(p q:Program)(lo:L1 Str)(N:Nat)(c:WRecords)(a:L1 Addr)(w:World)(os:OsState):=(PN p N w os).map λs=>FZ p q lo (λs=>xlAt q [] s&&recOk c s) (λs=>a.map s.heap.get?) w.params s.abs
def tg:kt q1=qt:=by k_qdec
end SK
set_option maxHeartbeats 0
namespace L2
open PySem
noncomputable def defArgs(s:Stmt):Arguments:=match s with
 |.FunctionDef _ a _ _ _ _ _ _ _ _=>a
 |_=>{posonlyargs:=[],args:=[],vararg:=qr,kwonlyargs:=[],kw_defaults:=[],kwarg:=qr,defaults:=[]}
noncomputable def defBody(s:Stmt):L1 Stmt:=match s with
 |.FunctionDef _ _ b _ _ _ _ _ _ _=>b
 |_=>[]
noncomputable def defScope(s:Stmt):Scope:=match s with
 |.FunctionDef _ _ _ _ _ _ sc _ _ _=>sc
 |_=>{kind:=.function,names:=[],isGenerator:=qu,isCoroutine:=qu}
end L2
namespace SK.k76
open PySem
noncomputable def top(i:Nat):Stmt:=ci.main.body.getD i (.Pass ⟨0,0,0,0⟩)
def met(i j:Nat):Stmt:=(match top i with|.ClassDef _ _ _ b _ _ _ _ _ _ _=>b|_=>[]).getD j (.Pass ⟨0,0,0,0⟩)
abbrev fm(st:Stmt)(x q m:Str)(t c:Nat):Obj:={cls:=.type "function",data:=.func {name:=x,qualname:=q,params:=L2.defArgs st,body:=.stmts (L2.defBody st),scope:=L2.defScope st,globals:=3,closure:=[],defaults:=.none,kwdefaults:=.none,pyModule:=.str m t,code:=.ref c} }
noncomputable abbrev en(P:Params)(k:Str)(t:Nat)(v:Value):DictEntry:=⟨PyData.keyHash P k,.str k t,v⟩
abbrev fo(st:Stmt)(x m:Str)(t c:Nat):Obj:={cls:=.type "function",data:=.func {name:=x,qualname:=x,params:=L2.defArgs st,body:=.stmts (L2.defBody st),scope:=L2.defScope st,globals:=3,closure:=[],defaults:=.none,kwdefaults:=.none,pyModule:=.str m t,code:=.ref c} }
noncomputable abbrev co(vs:Array Value):Obj:={cls:=.type "code",data:=.fields vs}
noncomputable abbrev cC(x:Str)(a l n r e:Nat)(u v w:Value):Obj:=co #[.str x a,.str x (a+1),.str kE (a+2),.int l 0,.int n 0,.int 0 0,.int 0 0,.int 3 0,.ref r,.bool qt,.int 181 0,.ref (r+1),.none,u,v,w,.int e 0,.int l 0,.str kE (e+1)]
noncomputable abbrev cA(x:Str)(a l n r e:Nat):Obj:=cC x a l n r e .none .none (.ref (r+2))
noncomputable abbrev cB(x:Str)(a l n r e:Nat):Obj:=cC x a l n r e (.ref (r+2)) (.ref (r+3)) (.ref (r+4))
noncomputable abbrev cK(x:Str)(f c ns s a b:Nat):Obj:={cls:=.type "type",data:=.cls {name:=x,bases:=[.ref c],mro:=[.ref f,.ref c,.type "ValueError",.type "Exception",.type "BaseException",.type "object"],ns:=ns,qualname:=x},slots:= #[pi (.ref s),qr,pi (.str x a),pi (.str x b),pi (.builtin "ValueError.__new__"),pi (.bool qt)]}
noncomputable abbrev dK(P:Params)(m:Str)(q a l r:Nat):Obj:={cls:=.type "dict",data:=.dict #[en P "__module__" a (.str m q),en P "__firstlineno__" (a+4) (.int l (a+3)),en P "__static_attributes__" (a+5) (.ref r),en P "__doc__" (a+6) .none] 2}
def kK:Params->nq:=λP=>[
(3,{cls:=.type "dict",data:=.dict #[en P "__name__" 165 (.str iS 676),en P "__doc__" 166 .none,en P "__package__" 167 .none,en P "__loader__" 168 (.builtin "__main__.__loader__#opaque"),en P "__spec__" 169 .none,en P "__annotations__" 170 (.ref 6),en P "__builtins__" 171 (.ref 4),en P "__file__" 173 (.str kE 172),en P "__cached__" 174 .none,en P "_wall" 193 (.ref 21),en P "SwitchError" 213 (.ref 31),en P "NoSwitch" 229 (.ref 44),en P "NoName" 245 (.ref 56),en P "NoMove" 261 (.ref 68),en P "Unlike" 277 (.ref 80),en P "NoSums" 293 (.ref 92),en P "NoText" 309 (.ref 104),en P "NoTerm" 325 (.ref 116),en P "NoLabel" 341 (.ref 128),en P "NoBack" 357 (.ref 140),en P "MOST_NAMES" 361 (.int 4 360),en P "is_whole" 368 (.ref 149),en P "is_whole_below" 376 (.ref 156),en P "are_whole_below" 382 (.ref 161),en P "is_many" 389 (.ref 168),en P "is_row" 398 (.ref 175),en P "how_many_settings" 405 (.ref 182),en P "is_switch" 414 (.ref 189),en P "check_switch" 421 (.ref 196),en P "check_alike" 429 (.ref 203),en P "turned" 435 (.ref 208),en P "both" 441 (.ref 213),en P "either" 447 (.ref 218),en P "unlike" 453 (.ref 223),en P "FIGURES" 471 (.ref 224),en P "check_text" 478 (.ref 231),en P "switch_text" 484 (.ref 236),en P "read_switch" 490 (.ref 241),en P "LONGEST_LABEL" 494 (.int 4 493),en P "BETWEEN" 496 (.str " = " 495),en P "is_label" 502 (.ref 246),en P "check_label" 509 (.ref 253),en P "joined" 518 (.ref 260),en P "Rack" 659 (.ref 368),en P "rack_text" 665 (.ref 377),en P "read_rack" 675 (.ref 384),en P "_law_cell" 685 (.ref 391),en P "_law_pick" 695 (.ref 398),en P "_law_switch" 701 (.ref 403),en P "_law_setting" 707 (.ref 408),en P "_law_odd" 713 (.ref 413),en P "_law_class" 722 (.ref 420),en P "_law_told" 730 (.ref 427),en P "_law_deed" 744 (.ref 434),en P "_law_behind" 750 (.ref 439),en P "_law_did" 760 (.ref 446),en P "_law_all_of" 766 (.ref 451),en P "_law_spoilt" 779 (.ref 458),en P "law" 785 (.ref 463)] 59}),
(20,cB "_wall" 187 1 1 15 191),
(21,fo (top 0) "_wall" "__main__" 164 20),
(30,{cls:=.type "dict",data:=.dict #[en P "__module__" 203 (.str lM 194),en P "__firstlineno__" 207 (.int 5 206),en P "__static_attributes__" 208 (.ref 29),en P "__weakref__" 210 (.ref 32),en P "__doc__" 211 .none] 3}),
(31,{cls:=.type "type",data:=.cls {name:="SwitchError",bases:=[.type "ValueError"],mro:=[.ref 31,.type "ValueError",.type "Exception",.type "BaseException",.type "object"],ns:=30,qualname:="SwitchError",subclasses:=[.ref 44,.ref 56,.ref 68,.ref 80,.ref 92,.ref 104,.ref 116,.ref 128,.ref 140]},slots:= #[pi (.ref 22),qr,pi (.str "SwitchError" 196),pi (.str "SwitchError" 204),pi (.builtin "ValueError.__new__"),pi (.bool qt)]}),
(32,{cls:=.type "getset_descriptor",data:=.fields #[.str "__weakref__" 209,.ref 31,.builtin "ExceptionGroup.__weakref__",.none]}),
(43,dK P lM 194 221 7 42),
(44,cK "NoSwitch" 44 31 43 35 214 222),
(55,dK P lM 194 237 9 54),
(56,cK "NoName" 56 31 55 47 230 238),
(67,dK P lM 194 253 11 66),
(68,cK "NoMove" 68 31 67 59 246 254),
(79,dK P lM 194 269 13 78),
(80,cK "Unlike" 80 31 79 71 262 270),
(91,dK P lM 194 285 15 90),
(92,cK "NoSums" 92 31 91 83 278 286),
(103,dK P lM 194 301 17 102),
(104,cK "NoText" 104 31 103 95 294 302),
(115,dK P lM 194 317 19 114),
(116,cK "NoTerm" 116 31 115 107 310 318),
(127,dK P lM 194 333 21 126),
(128,cK "NoLabel" 128 31 127 119 326 334),
(139,dK P lM 194 349 23 138),
(140,cK "NoBack" 140 31 139 131 342 350),
(148,cB "is_whole" 362 27 1 143 366),
(149,fo (top 14) "is_whole" nS 358 148),
(155,cB "is_whole_below" 369 29 2 150 374),
(156,fo (top 15) "is_whole_below" nS 358 155),
(160,cA "are_whole_below" 377 31 2 157 380),
(161,fo (top 16) "are_whole_below" nS 358 160),
(167,cB "is_many" 383 33 1 162 387),
(168,fo (top 17) "is_many" nS 358 167),
(174,cB "is_row" 390 35 3 169 396),
(175,fo (top 18) "is_row" nS 358 174),
(181,cB "how_many_settings" 399 37 1 176 403),
(182,fo (top 19) "how_many_settings" nS 358 181),
(188,cB "is_switch" 408 40 1 183 412),
(189,fo (top 21) "is_switch" mv 406 188),
(195,cB "check_switch" 415 44 1 190 419),
(196,fo (top 22) "check_switch" mv 406 195),
(202,cB "check_alike" 422 47 2 197 427),
(203,fo (top 23) "check_alike" mv 406 202),
(207,cA "turned" 430 52 1 204 433),
(208,fo (top 24) "turned" mv 406 207),
(212,cA "both" 436 55 2 209 439),
(213,fo (top 25) "both" mv 406 212),
(217,cA "either" 442 58 2 214 445),
(218,fo (top 26) "either" mv 406 217),
(222,cA "unlike" 448 61 2 219 451),
(223,fo (top 27) "unlike" mv 406 222),
(224,{cls:=.type "dict",data:=.dict #[en P "0" 456 (.int 0 457),en P "1" 458 (.int 1 459),en P "2" 460 (.int 2 461),en P "3" 462 (.int 3 463),en P "4" 464 (.int 4 465)] 5}),
(230,cB "check_text" 472 66 1 225 476),
(231,fo (top 30) "check_text" "switchkinds.texts" 454 230),
(235,cA "switch_text" 479 69 1 232 482),
(236,fo (top 31) "switch_text" "switchkinds.texts" 454 235),
(240,cA "read_switch" 485 72 1 237 488),
(241,fo (top 32) "read_switch" "switchkinds.texts" 454 240),
(245,cA "is_label" 497 81 1 242 500),
(246,fo (top 36) "is_label" kS 491 245),
(252,cB "check_label" 503 85 1 247 507),
(253,fo (top 37) "check_label" kS 491 252),
(259,cB "joined" 510 88 3 254 516),
(260,fo (top 38) "joined" kS 491 259),
(273,co #[.str "__init__" 531,.str "Rack.__init__" 532,.str kE 533,.int 98 0,.int 1 0,.int 0 0,.int 0 0,.int 3 0,.ref 268,.bool qt,.int 181 0,.ref 269,.none,.ref 270,.ref 271,.ref 272,.int 535 0,.int 98 0,.str kE 536]),
(274,fm (met 39 0) "__init__" "Rack.__init__" kS 491 273),
(280,co #[.str "set_to" 538,.str "Rack.set_to" 539,.str kE 540,.int 103 0,.int 3 0,.int 0 0,.int 0 0,.int 3 0,.ref 275,.bool qt,.int 181 0,.ref 276,.none,.ref 277,.ref 278,.ref 279,.int 544 0,.int 103 0,.str kE 545]),
(281,fm (met 39 1) "set_to" "Rack.set_to" kS 491 280),
(287,co #[.str "do" 547,.str "Rack.do" 548,.str kE 549,.int 109 0,.int 4 0,.int 0 0,.int 0 0,.int 3 0,.ref 282,.bool qt,.int 181 0,.ref 283,.none,.ref 284,.ref 285,.ref 286,.int 554 0,.int 109 0,.str kE 555]),
(288,fm (met 39 2) "do" "Rack.do" kS 491 287),
(294,co #[.str "put" 557,.str "Rack.put" 558,.str kE 559,.int 114 0,.int 3 0,.int 0 0,.int 0 0,.int 3 0,.ref 289,.bool qt,.int 181 0,.ref 290,.none,.ref 291,.ref 292,.ref 293,.int 564 0,.int 114 0,.str kE 565]),
(295,fm (met 39 3) "put" "Rack.put" kS 491 294),
(301,co #[.str "switch_of" 567,.str "Rack.switch_of" 568,.str kE 569,.int 121 0,.int 2 0,.int 0 0,.int 0 0,.int 3 0,.ref 296,.bool qt,.int 181 0,.ref 297,.none,.ref 298,.ref 299,.ref 300,.int 572 0,.int 121 0,.str kE 573]),
(302,fm (met 39 4) "switch_of" "Rack.switch_of" kS 491 301),
(308,co #[.str "take" 575,.str "Rack.take" 576,.str kE 577,.int 127 0,.int 2 0,.int 0 0,.int 0 0,.int 3 0,.ref 303,.bool qt,.int 181 0,.ref 304,.none,.ref 305,.ref 306,.ref 307,.int 581 0,.int 127 0,.str kE 582]),
(309,fm (met 39 5) "take" "Rack.take" kS 491 308),
(315,co #[.str "join" 584,.str "Rack.join" 585,.str kE 586,.int 132 0,.int 5 0,.int 0 0,.int 0 0,.int 3 0,.ref 310,.bool qt,.int 181 0,.ref 311,.none,.ref 312,.ref 313,.ref 314,.int 593 0,.int 132 0,.str kE 594]),
(316,fm (met 39 6) "join" "Rack.join" kS 491 315),
(322,co #[.str "turn" 596,.str "Rack.turn" 597,.str kE 598,.int 138 0,.int 2 0,.int 0 0,.int 0 0,.int 3 0,.ref 317,.bool qt,.int 181 0,.ref 318,.none,.ref 319,.ref 320,.ref 321,.int 602 0,.int 138 0,.str kE 603]),
(323,fm (met 39 7) "turn" "Rack.turn" kS 491 322),
(329,co #[.str "labels" 605,.str "Rack.labels" 606,.str kE 607,.int 143 0,.int 1 0,.int 0 0,.int 0 0,.int 3 0,.ref 324,.bool qt,.int 181 0,.ref 325,.none,.ref 326,.ref 327,.ref 328,.int 609 0,.int 143 0,.str kE 610]),
(330,fm (met 39 8) "labels" "Rack.labels" kS 491 329),
(336,co #[.str "like" 612,.str "Rack.like" 613,.str kE 614,.int 146 0,.int 2 0,.int 0 0,.int 0 0,.int 3 0,.ref 331,.bool qt,.int 181 0,.ref 332,.none,.ref 333,.ref 334,.ref 335,.int 617 0,.int 146 0,.str kE 618]),
(337,fm (met 39 9) "like" "Rack.like" kS 491 336),
(343,co #[.str "back" 620,.str "Rack.back" 621,.str kE 622,.int 149 0,.int 1 0,.int 0 0,.int 0 0,.int 3 0,.ref 338,.bool qt,.int 181 0,.ref 339,.none,.ref 340,.ref 341,.ref 342,.int 625 0,.int 149 0,.str kE 626]),
(344,fm (met 39 10) "back" "Rack.back" kS 491 343),
(350,co #[.str "forth" 628,.str "Rack.forth" 629,.str kE 630,.int 157 0,.int 1 0,.int 0 0,.int 0 0,.int 3 0,.ref 345,.bool qt,.int 181 0,.ref 346,.none,.ref 347,.ref 348,.ref 349,.int 632 0,.int 157 0,.str kE 633]),
(351,fm (met 39 11) "forth" "Rack.forth" kS 491 350),
(357,co #[.str "counts" 635,.str "Rack.counts" 636,.str kE 637,.int 160 0,.int 1 0,.int 0 0,.int 0 0,.int 3 0,.ref 352,.bool qt,.int 181 0,.ref 353,.none,.ref 354,.ref 355,.ref 356,.int 639 0,.int 160 0,.str kE 640]),
(358,fm (met 39 12) "counts" "Rack.counts" kS 491 357),
(364,co #[.str "twin" 642,.str "Rack.twin" 643,.str kE 644,.int 163 0,.int 1 0,.int 0 0,.int 0 0,.int 3 0,.ref 359,.bool qt,.int 181 0,.ref 360,.none,.ref 361,.ref 362,.ref 363,.int 646 0,.int 163 0,.str kE 647]),
(365,fm (met 39 13) "twin" "Rack.twin" kS 491 364),
(367,{cls:=.type "dict",data:=.dict #[en P "__module__" 526 (.str kS 491),en P "__firstlineno__" 530 (.int 96 529),en P "__init__" 537 (.ref 274),en P "set_to" 546 (.ref 281),en P "do" 556 (.ref 288),en P "put" 566 (.ref 295),en P "switch_of" 574 (.ref 302),en P "take" 583 (.ref 309),en P "join" 595 (.ref 316),en P "turn" 604 (.ref 323),en P "labels" 611 (.ref 330),en P "like" 619 (.ref 337),en P "back" 627 (.ref 344),en P "forth" 634 (.ref 351),en P "counts" 641 (.ref 358),en P "twin" 648 (.ref 365),en P "__static_attributes__" 652 (.ref 366),en P "__dict__" 654 (.ref 369),en P "__weakref__" 656 (.ref 370),en P "__doc__" 657 .none] 4}),
(368,{cls:=.type "type",data:=.cls {name:="Rack",bases:=[.type "object"],mro:=[.ref 368,.type "object"],ns:=367,qualname:="Rack" },slots:= #[qr,qr,pi (.str "Rack" 519),pi (.str "Rack" 527),pi (.builtin "object.__new__"),pi (.bool qt)]}),
(369,{cls:=.type "getset_descriptor",data:=.fields #[.str "__dict__" 653,.ref 368,.builtin "function.__dict__",.builtin "function.__dict__#set"]}),
(370,{cls:=.type "getset_descriptor",data:=.fields #[.str "__weakref__" 655,.ref 368,.builtin "ExceptionGroup.__weakref__",.none]}),
(376,cA "rack_text" 660 165 1 373 663),
(377,fo (top 40) "rack_text" kS 491 376),
(383,cB "read_rack" 666 167 1 378 673),
(384,fo (top 41) "read_rack" kS 491 383),
(390,cB "_law_cell" 678 179 2 385 683),
(391,fo (top 43) "_law_cell" iS 676 390),
(397,cB "_law_pick" 686 185 3 392 693),
(398,fo (top 44) "_law_pick" iS 676 397),
(402,cA "_law_switch" 696 188 3 399 699),
(403,fo (top 45) "_law_switch" iS 676 402),
(407,cA "_law_setting" 702 204 2 404 705),
(408,fo (top 46) "_law_setting" iS 676 407),
(412,cA "_law_odd" 708 206 2 409 711),
(413,fo (top 47) "_law_odd" iS 676 412),
(419,cB "_law_class" 714 208 1 414 720),
(420,fo (top 48) "_law_class" iS 676 419),
(426,cB "_law_told" 723 216 1 421 728),
(427,fo (top 49) "_law_told" iS 676 426),
(433,cB "_law_deed" 731 221 3 428 742),
(434,fo (top 50) "_law_deed" iS 676 433),
(438,cA "_law_behind" 745 233 2 435 748),
(439,fo (top 51) "_law_behind" iS 676 438),
(445,cB "_law_did" 751 254 2 440 758),
(446,fo (top 52) "_law_did" iS 676 445),
(457,cB "_law_spoilt" 767 262 3 452 777),
(458,fo (top 54) "_law_spoilt" iS 676 457),
(462,cA "law" 780 278 1 459 783),
(463,fo (top 55) "law" iS 676 462)]
noncomputable def kas:L1 Addr:=[3,20,21,30,31,32,43,44,55,56,67,68,79,80,91,92,103,104,115,116,127,128,139,140,148,149,155,156,160,161,167,168,174,175,181,182,188,189,195,196,202,203,207,208,212,213,217,218,222,223,224,230,231,235,236,240,241,245,246,252,253,259,260,273,274,280,281,287,288,294,295,301,302,308,309,315,316,322,323,329,330,336,337,343,344,350,351,357,358,364,365,367,368,369,370,376,377,383,384,390,391,397,398,402,403,407,408,412,413,419,420,426,427,433,434,438,439,445,446,457,458,462,463]
def kq:Program:={ci with main:={ci.main with body:=[top 0,top 2,top 3,top 4,top 5,top 6,top 7,top 8,top 9,top 10,top 11,top 13,top 14,top 15,top 16,top 17,top 18,top 19,top 21,top 22,top 23,top 24,top 25,top 26,top 27,top 29,top 30,top 31,top 32,top 34,top 35,top 36,top 37,top 38,top 39,top 40,top 41,top 43,top 44,top 45,top 46,top 47,top 48,top 49,top 50,top 51,top 52,top 53,top 54,top 55]} }
def sd:di.wellSaid=qt:=by kernel_rfl
def lk0 w os:SK.q1 di.row.prog kq ["FIGURES"] 7960 (gu (ey di.row)) kas (e7 w "special-get-raises" qu) os=pi (qt,jy kq ["FIGURES"],(kK (e7 w "special-get-raises" qu).params).map λp=>pi p.2):=by
 have _:=SK.tg;rw[PySem.W.Fast.te11324695928718235439]
 kernel_rfl
def lk1 w os:SK.q1 di.row.prog kq ["FIGURES"] 7960 (gu (ey di.row)) kas (e7 w "special-get-raises" qt) os=pi (qt,jy kq ["FIGURES"],(kK (e7 w "special-get-raises" qt).params).map λp=>pi p.2):=by
 have _:=SK.tg;rw[PySem.W.Fast.te11324695928718235439]
 kernel_rfl
def lk w os:SK.q1 di.row.prog kq ["FIGURES"] 7960 (gu (ey di.row)) kas w os=pi (qt,jy kq ["FIGURES"],(kK w.params).map λp=>pi p.2):=by have e:=PySem.World.withFollow_self w "special-get-raises";cases b:w.params.followText "special-get-raises"<;>rw[b]at e;have h:=lk0 w os;rwa [e]at h;have h:=lk1 w os;rwa [e]at h
def left:PySem.W.LeftO di.row.prog kq ["FIGURES"] (λs=>PySem.W.xlAt kq [] s&&PySem.W.recOk (gu (ey di.row)) s) (nr.obs (mn kK kas (λ_=>by kernel_rfl))) (nr.val (mn kK kas (λ_=>by kernel_rfl))) 7960:=SK.left_tree rfl rfl (λ_=>by kernel_rfl) lk
end SK.k76
namespace L2
open PySem PySem.Spec PyProof.Rows
abbrev Key:=Sum Int Str
noncomputable def sR:Key->Value->Bool
 |.inl k,v=>Value.isInt k v
 |.inr x,v=>Value.isStrOf x v
noncomputable def Qs(w:World):Key->Int
 |.inl k=>hashInt k
 |.inr x=>hashStr w x
def bY: ∀{k} {v},sR k v=qt->(∃i t,k=qm i/\v=qb i t)\/(∃x t,k=qo x/\v=qc x t)
 |.inl i,v,h=>by
  obtain⟨t,e⟩:=Value.isInt_shape (k:=i) (v:=v) h;exact .inl ⟨i,t,rfl,e⟩
 |.inr x,v,h=>by
  obtain⟨t,e⟩:=Value.isStrOf_shape (x:=x) (v:=v) h;exact .inr ⟨x,t,rfl,e⟩
def yW i t:sR (.inl i) (.int i t)=qt:=by simp[sR,Value.isInt]
def yX x t:sR (.inr x) (.str x t)=qt:=by simp[sR,Value.isStrOf]
def JP a b:decide ((qm a:Key)=qm b)=(a==b):=by by_cases e:a=b;subst e;simp;have h: ¬(qm a:Key)=qm b:=λq=>e (qm.inj q);rw[decide_eq_false h];exact(beq_eq_false_iff_ne.mpr e).symm
def JQ a b:decide ((qo a:Key)=qo b)=decide (a=b):=by by_cases e:a=b;subst e;simp;have h: ¬(qo a:Key)=qo b:=λq=>e (oy q);rw[decide_eq_false h,decide_eq_false e]
def JR a b:decide ((qm a:Key)=qo b)=qu:=decide_eq_false (λq=>nomatch q)
def JS a b:decide ((qo a:Key)=qm b)=qu:=decide_eq_false (λq=>nomatch q)
def bI(prog:Program)(w:World):PySem.KeyKind prog w Key where
 is:=sR;hash:=Qs w;inj:=λv a b ha hb=>by
  rcases bY ha with ⟨i,t,rfl,rfl⟩|⟨x,t,rfl,rfl⟩;rcases bY hb with ⟨j,u,rfl,e⟩|⟨y,u,rfl,e⟩;injection e with e1 _;rw[e1]
  exact nomatch e;rcases bY hb with ⟨j,u,rfl,e⟩|⟨y,u,rfl,e⟩;exact nomatch e;injection e with e1 _;rw[e1]
 byValue:=λk v h=>by
  rcases bY h with ⟨i,t,rfl,rfl⟩|⟨x,t,rfl,rfl⟩<;>rfl
 pyHash:=λhv h=>by
  rcases bY hv with ⟨i,t,rfl,rfl⟩|⟨x,t,rfl,rfl⟩;exact wpAny_pyHash_int h;exact wpAny_pyHash_str h
 eqBool:=λhu hv h=>by
  rcases bY hu with ⟨i,t,rfl,rfl⟩|⟨x,t,rfl,rfl⟩;rcases bY hv with ⟨j,u,rfl,rfl⟩|⟨y,u,rfl,rfl⟩;rw[JP]at h;exact wpAny_eqBool_int h;rw[JR]at h;exact SeqAt.EqAt.int_str i t y u _ _ _ _ h;rcases bY hv with ⟨j,u,rfl,rfl⟩|⟨y,u,rfl,rfl⟩;rw[JS]at h;exact SeqAt.EqAt.str_int x t j u _ _ _ _ h;rw[JQ]at h;exact wpAny_eqBool_str h
 «strs»:=λk x t v h=>by
  rcases bY h with ⟨i,u,rfl,e⟩|⟨y,u,rfl,e⟩;exact nomatch e;injection e with e1 _
  subst e1;cases v<;>rfl
def sS prog w i t:(bI prog w).is (.inl i) (.int i t)=qt:=yW i t
def kX prog w x t:(bI prog w).is (.inr x) (.str x t)=qt:=yX x t
inductive V where
 |non|bl (b:Bool)|int (i:Int)|str (x:Str)|byt (b:Array UInt8)|flt (b:UInt64)|ref (a:Addr)|ty (n:String)
 deriving DecidableEq
def bH:V->Value->Prop
 |.non,u=>u=pc
 |.bl b,u=>u=pd b
 |.int i,u=>∃t,u=qb i t
 |.str x,u=>∃t,u=qc x t
 |.byt b,u=>∃t,u=Value.bytes b t
 |.flt b,u=>∃t,u=Value.float b t
 |.ref a,u=>u=qe a
 |.ty n,u=>u=pe n
abbrev bW:L1 V->L1 Value->Prop:=Paired bH
theorem bW.length(r:bW xs us):xs.length=us.length:=mo r
theorem bW.get: ∀{xs} {us} {i:Nat} {x},bW xs us->xs[i]? =pi x->∃u,us[i]? =pi u/\bH x u
 |_,_,_,_,.nil,e=>by simp at e
 |_,_,0,_,.cons r _,e=>by simp at e;subst e;exact⟨_,rfl,r⟩
 |_,_,i+1,x,.cons _ t,e=>by
  obtain⟨u,b,c⟩:=bW.get (i:=i) (x:=x) t (by simpa using e);exact⟨u,by simpa using b,c⟩
theorem bW.set{x}{u}(r:bH x u): ∀{xs} {us} i,bW xs us->bW (xs.set i x) (us.set i u)
 |_,_,_,.nil=>.nil
 |_,_,0,.cons _ t=>.cons r t
 |_,_,i+1,.cons q t=>.cons q (bW.set r i t)
theorem bW.append: ∀{xs ys} {us ws},bW xs us->bW ys ws->bW (xs++ys) (us++ws)
 |_,_,_,_,.nil,s=>s
 |_,_,_,_,.cons r t,s=>.cons r (bW.append t s)
theorem bW.take: ∀{xs} {us} n,bW xs us->bW (xs.take n) (us.take n)
 |_,_,0,_=>.nil
 |_,_,_+1,.nil=>.nil
 |_,_,n+1,.cons r t=>.cons r (bW.take n t)
theorem bW.drop: ∀{xs} {us} n,bW xs us->bW (xs.drop n) (us.drop n)
 |_,_,0,r=>r
 |_,_,_+1,.nil=>.nil
 |_,_,n+1,.cons _ t=>bW.drop n t
def mP:L7 V->L7 Value->Prop
 |some v,pi u=>bH v u
 |none,qr=>True
 |_,_=>False
def KV{κ:Type}:L1 (κ×V)->L1 (κ×Value)->Prop:=Paired λ(p:κ×V) (q:κ×Value)=>p.1=q.1/\bH p.2 q.2
noncomputable def kV:Key->V
 |.inl i=>.int i
 |.inr x=>.str x
inductive HO where
 |lst (xs:List V)
 |tup (xs:List V)
 |dK (kvs:List (Key×V))|dT (kvs:List (List Key×V))
 |set (S:Int->Bool) (n:Nat)
 |ins (C dx:Addr) (fs:List (Str×V))
 |own (x:Addr)
 |xd (fs:List (Str×V))
 |met (f x:Addr)
 |rng (lo hi:Int)
 |frz (o:Obj) (u:HO)
 |tbl (ps:Array Value)
 |ext (φ:Heap->Prop)
abbrev Hp:=Addr->L7 HO
noncomputable def upd(H:Hp)(a:Addr)(o:HO):Hp:=λb=>if b=a then pi o else H b
def aH:upd H a o a=pi o:=by unfold upd;rw[if_pos rfl]
def aD(h:b≠a):upd H a o b=H b:=by unfold upd;rw[if_neg h]
def yY:upd (upd H a o) a u=upd H a u:=by funext b;unfold upd;split<;>rfl
def NR{H:Hp}(h:H a=pi o)(h':H b=pi u)(d:o≠u):a≠b:=by intro e;subst e;rw[h]at h';exact d (ku h')
def aQ{H:Hp}(h:H a=pi o)(h':H b=qr):a≠b:=by intro e;subst e;rw[h]at h';cases h'
def JT(h:Heap)(a:Addr):Prop:= ∃o,h.get? a=pi o/\o.dict=qr
section
variable (P:Program) (w:World)
def ObjOk(H:Hp)(h:Heap)(a:Addr):HO->Prop
 |.lst xs=>xs.length<=sizeLine/\∃(its:L1 Value) (n:Nat),bW xs its/\h.get? a=pi {cls:=.type "list",data:=.seq its.toArray n}
 |.tup xs=>xs.length<=sizeLine/\∃its:L1 Value,bW xs its/\IsTup h a its.toArray/\JT h a
 |.dK kvs=>kvs.length<=sizeLine/\(a==sysModules)=qu/\∃vs,KV kvs vs/\h.DictOf (bI P w) a vs
 |.dT kvs=>kvs.length<=sizeLine/\(a==sysModules)=qu/\∃xs:L1 (L1 Key×Addr×Value),
   Paired (λ(p:L1 Key×V) (q:L1 Key×Addr×Value)=>p.1=q.1/\H q.2.1=pi (.tup (p.1.map kV))/\bH p.2 q.2.2) kvs xs/\
   ∃o es ep,h.get? a=pi o/\o.ExactDict/\o.data= .dict es ep/\es.toList=xs.map (entryOfKey (tupleKind (bI P w)))/\(xs.map (·.1)).Nodup
 |.set S n=>h.SetOf (intKind P w) a S n
 |.ins C dx fs=>H dx=pi (.own a)/\fs.length<=1000/\dx≠a/\h.get? a=pi (ky C dx)/\
   ∃mA,h.Ns1 dx mA/\(∀f,mP (fs.lookup f) (mA f))/\nu mA (fs.map (·.1))
 |.own _=>∃o,h.get? a=pi o
 |.xd fs=>∃mA,h.Ns1 a mA/\∀f,mP (fs.lookup f) (mA f)
 |.rng lo hi=>∃t u v,h.get? a=pi {cls:=.type "range",data:=.fields #[.int lo t,.int hi u,.int 1 v]}
 |.frz o u=>h.get? a=pi o/\ObjOk H h a u
 |.tbl ps=>h.get? a=pi {cls:=.none,data:=.fields ps}
 |.met f x=>h.get? a=pi (je (.ref f) (.ref x))
 |.ext φ=>φ h/\(∃o,h.get? a=pi o)/\∀h1 h2:Heap,φ h1->(∀o,h1.get? a=pi o->h2.get? a=pi o)->φ h2
def HOk(H:Hp)(h:Heap):Prop:= ∀a o,H a=pi o->ObjOk P w H h a o
end
section
variable{a:Addr}
theorem ObjOk.lt(x:ObjOk P w H h a o):a<h.objs.size:=by rcases o with b|b|kvs|kvs|⟨S,n⟩|⟨C,i,fs⟩|y|fs|⟨f,y⟩|⟨lo,hi⟩|⟨d,u⟩|c|g;obtain⟨_,_,_,_,e⟩:=x;exact ah e;obtain⟨_,_,_,p,_⟩:=x;exact p.lt;obtain⟨_,_,_,_,o,_,_,e,_⟩:=x;exact ah e;obtain⟨_,_,_,_,o,_,_,e,_⟩:=x;exact ah e;obtain⟨o,_,_,_,e,_⟩:=x;exact ah e;obtain⟨_,_,_,e,_⟩:=x;exact ah e;obtain⟨_,e⟩:=x;exact ah e;obtain⟨_,⟨_,_,_,e,_⟩,_⟩:=x;exact ah e;exact ah (show h.get? a=pi _ from x);obtain⟨_,_,_,e⟩:=x;exact ah e;obtain⟨e,_⟩:=x;exact ah e;exact ah (show h.get? a=pi _ from x);obtain⟨_,⟨_,e⟩,_⟩:=x;exact ah e
theorem Paired.mapP{α β}{F G:α->β->Prop}: ∀{l₁} {l₂},Paired F l₁ l₂->(∀a b,F a b->G a b)->Paired G l₁ l₂
 |_,_,.nil,_=>.nil
 |_,_,.cons r t,f=>.cons (f _ _ r) (Paired.mapP t f)
def ObjOk.stay(x:ObjOk P w H h a o)(k: ∀b u,(b=a\/H b=pi (.own a))->h.get? b=pi u->h'.get? b=pi u)(ho: ∀b,H b=pi (.own a)->H' b=pi (.own a))(ht: ∀b xs,H b=pi (.tup xs)->H' b=pi (.tup xs)):ObjOk P w H' h' a o:=by
 induction o with
 |lst xs=>obtain⟨z,l,n,r,e⟩:=x;exact⟨z,l,n,r,k _ _ (.inl rfl) e⟩
 |tup xs=>obtain⟨z,l,r,⟨g,e,c⟩,m,J,d⟩:=x;exact⟨z,l,r,⟨g,k _ _ (.inl rfl) e,c⟩,m,k _ _ (.inl rfl) J,d⟩
 |dK kvs=>obtain⟨z,y,I,r,g,i,j,e,c⟩:=x;exact⟨z,y,I,r,g,i,j,k _ _ (.inl rfl) e,c⟩
 |dT kvs=>
  obtain⟨z,y,xs,r,g,i,j,e,c⟩:=x;exact⟨z,y,xs,Paired.mapP r λp q z=>⟨z.1,ht _ _ z.2.1,z.2.2⟩,g,i,j,k _ _ (.inl rfl) e,c⟩
 |set S n=>obtain⟨g,i,j,t,e,c⟩:=x;exact⟨g,i,j,t,k _ _ (.inl rfl) e,c⟩
 |ins C M fs=>
  obtain⟨d,z,E,e,s,⟨m,i,j,G,c⟩,r⟩:=x;exact⟨ho _ d,z,E,k _ _ (.inl rfl) e,s,⟨m,i,j,k _ _ (.inr d) G,c⟩,r⟩
 |own y=>obtain⟨g,e⟩:=x;exact⟨g,k _ _ (.inl rfl) e⟩
 |xd fs=>obtain⟨s,⟨m,i,j,e,c⟩,r⟩:=x;exact⟨s,⟨m,i,j,k _ _ (.inl rfl) e,c⟩,r⟩
 |rng lo hi=>obtain⟨t,u,v,e⟩:=x;exact⟨t,u,v,k _ _ (.inl rfl) e⟩
 |frz g u K=>obtain⟨e,q⟩:=x;exact⟨k _ _ (.inl rfl) e,K q⟩
 |tbl B=>
  have e:h.get? a=pi {cls:=.none,data:=.fields B}:=x
  show h'.get? a=pi {cls:=.none,data:=.fields B};exact k a _ (.inl rfl) e
 |met f y=>
  have e:h.get? a=pi (je (.ref f) (.ref y)):=x
  show h'.get? a=pi (je (.ref f) (.ref y));exact k a _ (.inl rfl) e
 |ext L=>obtain⟨p,⟨o,e⟩,A⟩:=x;exact⟨A _ _ p λo q=>k _ _ (.inl rfl) q,⟨o,k _ _ (.inl rfl) e⟩,A⟩
theorem HOk.lt(x:HOk P w H h)(e:H a=pi o):a<h.objs.size:=(x a o e).lt
def HOk.fresh(x:HOk P w H h)(e:h.objs.size<=a):H a=qr:=by rcases q:H a with _|u;rfl;exact absurd (bg (x.lt q) e) (mq _)
def HOk.kept(x:HOk P w H h)(k: ∀b u,h.get? b=pi u->h'.get? b=pi u):HOk P w H h':=λa o e=>
 (x a o e).stay (λb u _ q=>k b u q) (λ_ q=>q) λ_ _ q=>q
def HOk.laid(x:HOk P w H h)(k: ∀b u,h.get? b=pi u->h'.get? b=pi u)(hp:h.objs.size<=a)(new:ObjOk P w (upd H a o) h' a o):HOk P w (upd H a o) h':=λb u e=>by
 have f:=x.fresh hp;by_cases d:b=a;subst d;rw[aH]at e;cases e;exact new;rw[aD d]at e;exact(x b u e).stay (λc v _ q=>k c v q) (λc q=>by rw[aD (aQ q f)];exact q) λc g q=>by rw[aD (aQ q f)];exact q
end
def Rd(H:Hp)(a:Addr)(u:HO):Prop:=H a=pi u\/∃o,H a=pi (.frz o u)
def Rd.ok(r:Rd H a u)(x:HOk P w H h):ObjOk P w H h a u:=by rcases r with r|⟨o,r⟩;exact x a u r;obtain⟨_,q⟩:=x a _ r;exact q
def Mut:L7 HO->Prop
 |some (.lst _)=>True
 |some (.dK _)=>True
 |some (.dT _)=>True
 |some (.set _ _)=>True
 |some (.ins _ _ _)=>True
 |some (.ext _)=>True
 |_=>False
def HOk.write(ok:HOk P w H h)(mu:Mut (H x))(he:e=x\/H e=pi (.own x))(k: ∀b u,b≠e->h.get? b=pi u->h'.get? b=pi u)(heo: ∃u,h'.get? e=pi u)(new:ObjOk P w (upd H x o') h' x o'):HOk P w (upd H x o') h':=λb u q=>by
 have f: ∀c y,H c=pi (.own y)->c≠x:=λc y r z=>by subst z;rw[r]at mu;exact mu
 have g: ∀c l,H c=pi (.tup l)->c≠x:=λc l r z=>by subst z;rw[r]at mu;exact mu
 by_cases i:b=x;subst i;rw[aH]at q;cases q;exact new;rw[aD i]at q;by_cases d:b=e;have m:H b=pi (.own x):=by
  rcases he with z|z;exact absurd (d.trans z) i;rw[d];exact z
 rw[q]at m;cases m;obtain⟨v,n⟩:=heo;exact⟨v,by rw[d];exact n⟩;refine(ok b u q).stay (λc v j r=>k c v ?_ r) (λc r=>by rw[aD (f c b r)];exact r) λc l r=>by rw[aD (g c l r)];exact r
 rcases j with rfl|j;exact d;rintro rfl;rcases he with z|z;exact f c b j z;rw[j]at z;cases z;exact i rfl
structure Un(fs ex:List Addr)(H H':Hp)(h h':Heap):Prop where
 keep: ∀b o,h.get? b=pi o->H b=qr->b∉fs->b∉ex->h'.get? b=pi o
 slot: ∀b o,h.get? b=pi o->H b=qr->b∈fs->b∉ex->∃sl,h'.get? b=pi {o with slots:=sl}
 free: ∀b o,h.get? b=pi o->H b=qr->b∉ex->H' b=qr
 there: ∀b o,h.get? b=pi o->b∉ex->∃o',h'.get? b=pi o'
 tups: ∀b xs,H b=pi (.tup xs)->H' b=pi (.tup xs)
 frzs: ∀b o u,H b=pi (.frz o u)->H' b=pi (.frz o u)
 tbls: ∀b ps,H b=pi (.tbl ps)->∃more,H' b=pi (.tbl (ps++more))
section
variable{h:Heap}{a:Addr}
def Un.any(u:Un fs ex H H1 h h1)(q:h.get? b=pi ob)(n:H b=qr)(hx:b∉ex): ∃sl,h1.get? b=pi {ob with slots:=sl}:=by by_cases c:b∈fs;exact u.slot b ob q n c hx;exact⟨ob.slots,u.keep b ob q n c hx⟩
def Un.kept(k: ∀b u,h.get? b=pi u->h'.get? b=pi u):Un fs ex H H h h':=
 ⟨λb c q _ _ _=>k b c q,λb c q _ _ _=>⟨c.slots,k b c q⟩,λ_ _ _ n _=>n,λb c q _=>⟨c,k b c q⟩,λ_ _ q=>q,λ_ _ _ q=>q,λ_ d q=>⟨#[],by rw[q];simp⟩⟩
def Un.refl:Un fs ex H H h h:=Un.kept λ_ _ q=>q
def Un.laid(k: ∀b u,h.get? b=pi u->h'.get? b=pi u)(hp:h.objs.size<=a)(hn:H a=qr):Un fs ex H (upd H a o) h h' where
 keep:=λb u q _ _ _=>k b u q;slot:=λb u q _ _ _=>⟨u.slots,k b u q⟩;free:=λb u q n _=>by rw[aD (bh (bg (ah q) hp))];exact n
 there:=λb u q _=>⟨u,k b u q⟩;tups:=λb c q=>by rw[aD (aQ q hn)];exact q
 frzs:=λb u c q=>by rw[aD (aQ q hn)];exact q
 tbls:=λb d q=>⟨#[],by rw[aD (aQ q hn),q];simp⟩
def Un.write(mu:Mut (H x))(he:e=x\/H e=pi (.own x))(k: ∀b u,b≠e->h.get? b=pi u->h'.get? b=pi u)(heo: ∃u,h'.get? e=pi u):Un fs ex H (upd H x o) h h':=by
 have g: ∀b,H b=qr->b≠x:=λb n z=>by subst z;rw[n]at mu;exact mu
 have f: ∀b,H b=qr->b≠e:=λb n z=>by
  subst z;rcases he with r|r;exact g b n r;rw[n]at r;cases r
 have d: ∀b u,H b=pi u->¬Mut (pi u)->b≠x:=λb u q nm z=>by subst z;rw[q]at mu;exact nm mu
 refine⟨λb u q n _ _=>k b u (f b n) q,λb u q n _ _=>⟨u.slots,k b u (f b n) q⟩,λb u q n _=>by rw[aD (g b n)];exact n,λb u q _=>?_,
  λb i q=>by rw[aD (d b _ q λz=>z)];exact q,λb u i q=>by rw[aD (d b _ q λz=>z)];exact q,λb j q=>⟨#[],by rw[aD (d b _ q λz=>z),q];simp⟩⟩
 by_cases c:b=e;subst c;exact heo;exact⟨u,k b u c q⟩
end
noncomputable def trk(h:Heap)(H:Hp):L1 Addr:=(pb h.objs.size).filter λa=>(H a).isSome
def JU(h:Heap)(H:Hp):Heap:=PySem.W.hideAll h (trk h H)
def yZ h H:(JU h H).objs.size=h.objs.size:=PySem.W.hideAll_size _ _
def Cw(e:h.get? b=pi o)(n:H b=qr):(JU h H).get? b=pi o:=
 PySem.W.hideAll_get _ e λc=>by
  have q:(H b).isSome=qt:=(kz.mp c).2;rw[n]at q;simp at q
def sT(e:(JU h H).get? b=pi o):h.get? b=pi o/\H b=qr:=by have c:h.get? b=pi o:=PySem.W.of_hideAll (trk h H) e;refine⟨c,?_⟩;rcases q:H b with _|x;rfl;have d:b∈trk h H:=kz.mpr ⟨zPd (ah c),by simp[q]⟩;have z:(JU h H).get? b=qr:=PySem.W.hideAll_none (trk h H) d;rw[z]at e;cases e
noncomputable def F1(g h:Heap)(L:Addr):cg:=(pb h.objs.size).filterMap λa=>if a=L\/(g.get? a).isSome=qt then qr else(h.get? a).map λo=>(a,o)
def dF(g h:Heap)(L d:Addr):cg:=(F1 g h L).filter λp=>decide (p.1≠d)
structure Mod(K:nq)(mg:Str->Option Value)(base:Heap):Prop where
 kin:K.In base
 glob:base.Ns mainGlobals mg
 blt: ∃mb,base.Ns builtinsNs mb/\∀x:Str,x≠"__name__"->mb x=bootBuiltins x
 nolimit:base.NoLimit
structure Cx where
 prog:Program
 w:World
 K:nq
 mg:Str->Option Value
 base:Heap
 A:Around
 N:List Str
 s₀:Shared
 H₀:Hp
 env:Env
 outer:List Env
 stack:List Env
 ex:List Addr
 fn:Str->Bool
 calm:Bool
 pn:cg
 xe:Value->Shared->Prop
abbrev Cx.wp(X:Cx){α:Type}:=@wpAny α (model X.prog X.w) X.A
noncomputable def frs(l:L1 Env):L1 Addr:=l.filterMap (·.frame)
abbrev Cx.fs(X:Cx):L1 Addr:=frs X.outer
def Vis(sc:Scope)(x:Str):Prop:=sc.names.lookup x=pi .local\/sc.names.lookup x=pi .cell\/sc.names.lookup x=pi .free
def Loc(sc:Scope)(x:Str):Prop:=sc.names.lookup x=pi .local\/sc.names.lookup x=pi .cell
def Qt(env:Env)(h:Heap)(m:Str->L7 Value)(x:Str)(u:Value):Prop:=
 (env.kindOf x=pi .local/\m x=pi u)\/((env.kindOf x=pi .cell\/env.kindOf x=pi .free)/\∃c,env.cells.lookup x=pi c/\h.IsCell c (pi u))
structure Cx.Ok(X:Cx):Prop where
 mod:Mod X.K X.mg X.base
 kind:X.env.scope.kind= .function
 glob:X.env.globals=mainGlobals
 blt:X.env.builtins=builtinsNs
 above:X.s₀.z<=X.env.locals
 inj: ∀x y c,X.env.cells.lookup x=pi c->X.env.cells.lookup y=pi c->x=y
 has: ∀x,(X.env.kindOf x=pi .cell\/X.env.kindOf x=pi .free)->∃c,X.env.cells.lookup x=pi c
 cab: ∀x c,X.fn x=qt->X.env.cells.lookup x=pi c->X.s₀.z<=c
 hd:X.calm=qt->X.A.handled=qr
 frames:X.A.frames=pi X.stack
 stk:X.stack=X.outer\/(X.stack=X.env::X.outer/\X.env.frame=pi X.env.locals)
 exf: ∀b∈X.ex,b≠X.env.locals/\∀x c,X.env.cells.lookup x=pi c->c≠b
 bs: ∀b o,X.base.get? b=pi o->X.s₀.heap.get? b=pi o/\X.H₀ b=qr
 bsz:X.base.objs.size<=X.s₀.z
 noex: ∀b o,X.base.get? b=pi o->b∉X.ex
 exfs: ∀b∈X.ex,b∉X.fs
 funs:X.s₀.heap.FunFrames X.base X.outer
 frf: ∀b∈X.fs,X.H₀ b=qr
structure Inv(X:Cx)(ce:cg)(σ:List (Option V))(H:Hp)(s:Shared):Prop where
 ok:X.Ok
 os:s.os=X.s₀.os
 bare:AllBare s.gens
 base:Un X.fs X.ex X.H₀ H X.s₀.heap s.heap
 loc: ∃m,s.heap.Ns X.env.locals m/\∀(i:Nat) (x:Str) (v:V),X.N[i]? =pi x->σ[i]? =pi (pi v)->Vis X.env.scope x->∃u,bH v u/\Qt X.env s.heap m x u
 cell: ∀x c,X.env.cells.lookup x=pi c->∃v,s.heap.IsCell c v
 free:H X.env.locals=qr
 freeC: ∀x c,X.env.cells.lookup x=pi c->H c=qr
 pin: ∀p∈X.pn++ce,s.heap.get? p.1=pi p.2/\H p.1=qr/\p.1≠X.env.locals/\p.1∉X.fs/\∀v,p.2.data≠ .cell v
 hok:HOk X.prog X.w H s.heap
 len:σ.length=X.N.length
section
variable{X:Cx}{ce:cg}{σ:L1 (L7 V)}{H:Hp}{s:Shared}
def Cx.Ok.nofr(ok:X.Ok)(e:X.base.get? b=pi o):b∉X.fs:=λc=>by
 have:=(ok.funs.mem c).1;rw[e]at this;cases this
theorem Inv.bs(I:Inv X ce σ H s): ∀b o,X.base.get? b=pi o->s.heap.get? b=pi o/\H b=qr:=λb o e=>
 ⟨I.base.keep b o (I.ok.bs b o e).1 (I.ok.bs b o e).2 (I.ok.nofr e) (I.ok.noex b o e),I.base.free b o (I.ok.bs b o e).1 (I.ok.bs b o e).2 (I.ok.noex b o e)⟩
def Inv.bk(I:Inv X ce σ H s): ∀b o,X.base.get? b=pi o->s.heap.get? b=pi o:=λb o e=>(I.bs b o e).1
theorem Inv.mod(I:Inv X ce σ H s):Mod X.K X.mg X.base:=I.ok.mod
def Inv.kIn(I:Inv X ce σ H s):X.K.In s.heap:=I.ok.mod.kin.keeps I.bk
theorem Inv.lt(I:Inv X ce σ H s):X.env.locals<s.z:=let ⟨_,hn,_⟩:=I.loc;hn.lt
def Inv.sz(I:Inv X ce σ H s):X.s₀.z<=s.z:=ny I.ok.above (nz I.lt)
def Inv.nofs(I:Inv X ce σ H s){a:Addr}(h:s.z<=a):a∉X.fs:=λb=>by
 obtain⟨_,o,c,_⟩:=I.ok.funs.mem b;exact absurd (bg (ah c) (ny I.sz h)) (mq _)
def Inv.cne(I:Inv X ce σ H s): ∀x c,X.env.cells.lookup x=pi c->c≠X.env.locals:=λx c e z=>by
 obtain⟨v,o,f,g⟩:=I.cell x c e;obtain⟨m,⟨h,j,i,d,b,_⟩,_⟩:=I.loc;rw[z,d]at f;cases f;rw[b]at g;cases g
theorem Inv.funs(I:Inv X ce σ H s):s.heap.FunFrames X.base X.outer:=by
 have all: ∀(l:L1 Env),(∀b∈frs l,b∈X.fs)->X.s₀.heap.FunFrames X.base l->s.heap.FunFrames X.base l:=by
  intro l;induction l with
  |nil=>intro _ _;trivial
  |cons n r q=>
   intro g j;obtain⟨hk,⟨L,o,d,i,m,p⟩,h⟩:=j;have f:L∈X.fs:=g L (by unfold frs;rw[ic,d];exact iu);obtain⟨t,e⟩:=I.base.slot L o m (I.ok.frf L f) f λz=>I.ok.exfs L z f;exact⟨hk,⟨L,_,d,i,e,p⟩,q (λb c=>g b (by unfold frs;rw[ic,d];exact gw _ c)) h⟩
 exact all X.outer (λ_ c=>c) I.ok.funs
theorem Inv.stack(I:Inv X ce σ H s):s.heap.FunFrames X.base X.stack:=by rcases I.ok.stk with e|⟨e,hf⟩;rw[e];exact I.funs;rw[e];obtain⟨m,b,_⟩:=I.loc;refine .cons (by rw[I.ok.kind];decide) hf b ?_ I.funs;exact Heap.get?_none_of_le (ny I.ok.bsz I.ok.above)
def Inv.stkSub(I:Inv X ce σ H s): ∀b∈frs X.stack,b∈X.env.locals::X.fs:=λb c=>by
 rcases I.ok.stk with e|⟨e,hf⟩;rw[e]at c;exact gw _ c;rw[e]at c;unfold frs at c;rw[ic,hf]at c;exact c
def Inv.stkFree(I:Inv X ce σ H s): ∀b∈frs X.stack,H b=qr:=λb c=>by
 rcases av.mp (I.stkSub b c)with e|c;rw[e];exact I.free;obtain⟨_,o,d,_⟩:=I.ok.funs.mem c;exact I.base.free b o d (I.ok.frf b c) λz=>I.ok.exfs b z c
def Inv.step{ch:L1 Addr}(I:Inv X ce σ H s)(hch: ∀b∈ch,(b∈X.ex\/X.s₀.z<=b)/\b≠X.env.locals/\(∀x c,X.env.cells.lookup x=pi c->c≠b)/\∀p∈X.pn++ce,p.1≠b)(keep: ∀b o,b≠X.env.locals->b∉X.fs->b∉ch->s.heap.get? b=pi o->H b=qr->h'.get? b=pi o)(slot: ∀b o,b≠X.env.locals->b∈X.fs->b∉ch->s.heap.get? b=pi o->H b=qr->∃sl,h'.get? b=pi {o with slots:=sl})(free: ∀b o,b∉ch->s.heap.get? b=pi o->H b=qr->H' b=qr)(there: ∀b o,b∉ch->s.heap.get? b=pi o->∃o',h'.get? b=pi o')(tups: ∀b xs,H b=pi (.tup xs)->H' b=pi (.tup xs))(frzs: ∀b o u,H b=pi (.frz o u)->H' b=pi (.frz o u))(tbls: ∀b ps,H b=pi (.tbl ps)->∃more,H' b=pi (.tbl (ps++more)))(ns: ∀m,s.heap.Ns X.env.locals m->h'.Ns X.env.locals m)(hok:HOk X.prog X.w H' h')(hg:AllBare g'):
  Inv X ce σ H' {s with heap:=h',gens:=g',drawn:=d',toks:=t'}:=by
 have B: ∀b o,X.s₀.heap.get? b=pi o->b≠X.env.locals:=λb o e=>bh (bg (ah e) I.ok.above);have t: ∀b o,X.s₀.heap.get? b=pi o->b∉X.ex->b∉ch:=λb o e f y=>by
  rcases(hch b y).1 with z|z;exact f z;exact absurd (bg (ah e) z) (mq _)
 have g: ∀x c,X.env.cells.lookup x=pi c->∀v,s.heap.IsCell c v->h'.IsCell c v:=λx c e v ⟨o,A,G⟩=>by
  have h:c∉ch:=λz=>(hch c z).2.2.1 x c e rfl;by_cases K:c∈X.fs;obtain⟨sl,q⟩:=slot c o (I.cne x c e) K h A (I.freeC x c e);exact⟨_,q,G⟩;exact⟨o,keep c o (I.cne x c e) K h A (I.freeC x c e),G⟩
 refine⟨I.ok,I.os,hg,⟨λb o e n y f=>?_,λb o e n y f=>?_,λb o e n f=>?_,λb o e f=>?_,λb xs e=>tups b xs (I.base.tups b xs e),λb o xs e=>frzs b o xs (I.base.frzs b o xs e),λb ps e=>?_⟩,?_,λx c e=>?_,?_,λx c e=>?_,λp J=>?_,hok,I.len⟩;exact keep b o (B b o e) y (t b o e f) (I.base.keep b o e n y f) (I.base.free b o e n f);obtain⟨sl,j⟩:=I.base.slot b o e n y f;obtain⟨E,C⟩:=slot b _ (B b o e) y (t b o e f) j (I.base.free b o e n f);exact⟨E,C⟩;obtain⟨o',j⟩:=I.base.there b o e f;exact free b o' (t b o e f) j (I.base.free b o e n f);obtain⟨o',j⟩:=I.base.there b o e f;exact there b o' (t b o e f) j;obtain⟨T,j⟩:=I.base.tbls b ps e;obtain⟨S,C⟩:=tbls b _ j;exact⟨T++S,by rw[C,Array.append_assoc]⟩;obtain⟨m,O,Q⟩:=I.loc;refine⟨m,ns m O,λi x v j C N=>?_⟩;obtain⟨u,r,l⟩:=Q i x v j C N;refine⟨u,r,?_⟩;rcases l with l|⟨k,c,e,z⟩;exact .inl l;exact .inr ⟨k,c,e,g x c e _ z⟩;obtain⟨v,z⟩:=I.cell x c e;exact⟨v,g x c e v z⟩;obtain⟨m,⟨o,_,_,A,_⟩,_⟩:=I.loc;exact free _ o (λz=>(hch _ z).2.1 rfl) A I.free;obtain⟨v,o,A,G⟩:=I.cell x c e;exact free c o (λz=>(hch c z).2.2.1 x c e rfl) A (I.freeC x c e);obtain⟨e,n,L,M,d⟩:=I.pin p J;have h:p.1∉ch:=λz=>(hch p.1 z).2.2.2 p J rfl;exact⟨keep p.1 p.2 L M h e n,free p.1 p.2 h e n,L,M,d⟩
def Inv.un(I:Inv X ce σ H s)(u:Un X.fs [] H H' s.heap h')(hok:HOk X.prog X.w H' h'):Inv X ce σ H' {s with heap:=h',toks:=t'}:=by
 obtain⟨m,⟨o,q,v,h,r⟩,_⟩:=id I.loc;obtain⟨x,j⟩:=u.any h I.free (by simp);exact I.step (g':=s.gens) (d':=s.drawn) (ch:=[]) (λ_ z=>nomatch z) (λb o _ d _ e n=>u.keep b o e n d (by simp)) (λb o _ d _ e n=>u.slot b o e n d (by simp)) (λb o _ e n=>u.free b o e n (by simp)) (λb o _ e=>u.there b o e (by simp)) u.tups u.frzs u.tbls (λt l=>by
  obtain⟨p,g,f,c,i⟩:=l;rw[h]at c;cases c;exact⟨_,g,f,j,i⟩) hok I.bare
def Inv.call(I:Inv X ce σ H s)(u:Un (frs X.stack) ch H H' s.heap h')(hok:HOk X.prog X.w H' h')(hg:AllBare g')(hch: ∀b∈ch,(b∈X.ex\/X.s₀.z<=b)/\b≠X.env.locals/\(∀x c,X.env.cells.lookup x=pi c->c≠b)/\∀p∈X.pn++ce,p.1≠b):
  Inv X ce σ H' {s with heap:=h',gens:=g',drawn:=d',toks:=t'}:=by
 obtain⟨m,⟨o,y,B,j,r⟩,_⟩:=id I.loc;obtain⟨C,i⟩:=u.any j I.free λz=>(hch _ z).2.1 rfl;exact I.step (ch:=ch) hch (λb o i l d e n=>u.keep b o e n (λz=>(av.mp (I.stkSub b z)).elim i l) d) (λb o _ _ d e n=>u.any e n d) (λb o d e n=>u.free b o e n d) (λb o d e=>u.there b o e d) u.tups u.frzs u.tbls (λA t=>by
  obtain⟨v,h,g,f,q⟩:=t;rw[j]at f;cases f;exact⟨_,h,g,i,q⟩) hok hg
def Inv.turned(I:Inv X ce σ H s)(k: ∀b o,b≠it->s.heap.get? b=pi o->h'.get? b=pi o)(hn:H it=qr)(hL:it≠X.env.locals)(h1:it∈X.ex\/X.s₀.z<=it)(h2: ∀x c,X.env.cells.lookup x=pi c->c≠it)(h3: ∀p∈X.pn++ce,p.1≠it):Inv X ce σ H {s with heap:=h',toks:=t'}:=by
 have f: ∀b u,H b=pi u->b≠it:=λb u e z=>by rw[z,hn]at e;cases e
 refine I.step (g':=s.gens) (d':=s.drawn) (ch:=[it]) (λb g=>?_) (λb o _ _ d e _=>k b o (λz=>d (by simp[z])) e) (λb o _ _ d e _=>⟨o.slots,k b o (λz=>d (by simp[z])) e⟩) (λ_ _ _ _ n=>n)
  (λb o d e=>⟨o,k b o (λz=>d (by simp[z])) e⟩) (λ_ _ e=>e) (λ_ _ _ e=>e) (λb t e=>⟨#[],by rw[e];simp⟩) (λm j=>?_) (λb u e=>?_) I.bare
 have e:b=it:=by simpa using g
 subst e;exact⟨h1,hL,h2,h3⟩;obtain⟨o,h,l,i,r⟩:=j;exact⟨o,h,l,k _ o (qq hL) i,r⟩;refine(I.hok b u e).stay (λc v d q=>k c v ?_ q) (λ_ q=>q) λ_ _ q=>q;rcases d with z|z;rw[z];exact f b u e;exact f c _ z
def Inv.tok(I:Inv X ce σ H s)t:Inv X ce σ H {s with toks:=t}:=I.un (h':=s.heap) (t':=t) Un.refl I.hok
theorem Inv.kept(I:Inv X ce σ H s)(k: ∀b u,s.heap.get? b=pi u->h'.get? b=pi u):Inv X ce σ H {s with heap:=h',toks:=t'}:=I.un (Un.kept k) (I.hok.kept k)
theorem Inv.laid{a:Addr}(I:Inv X ce σ H s)(k: ∀b u,s.heap.get? b=pi u->h'.get? b=pi u)(hp:s.z<=a)(new:ObjOk X.prog X.w (upd H a o) h' a o):
  Inv X ce σ (upd H a o) {s with heap:=h',toks:=t'}:=I.un (Un.laid k hp (I.hok.fresh hp)) (I.hok.laid k hp new)
theorem Inv.write(I:Inv X ce σ H s)(mu:Mut (H x))(he:e=x\/H e=pi (.own x))(k: ∀b u,b≠e->s.heap.get? b=pi u->h'.get? b=pi u)(heo: ∃u,h'.get? e=pi u)(new:ObjOk X.prog X.w (upd H x o) h' x o):Inv X ce σ (upd H x o) {s with heap:=h',toks:=t'}:=I.un (Un.write mu he k heo) (I.hok.write mu he k heo new)
def Inv.pins_of(I:Inv X ce σ H s)(h: ∀p∈pins',s.heap.get? p.1=pi p.2/\H p.1=qr/\p.1≠X.env.locals/\p.1∉X.fs/\∀v,p.2.data≠ .cell v):Inv X pins' σ H s:=
 ⟨I.ok,I.os,I.bare,I.base,I.loc,I.cell,I.free,I.freeC,λp b=>(k6.mp b).elim (λz=>I.pin p (gy _ z)) (h p),I.hok,I.len⟩
def nZ{N:L1 Str}(hN:N.Nodup){i j:Nat}(a:N[i]? =pi x)(b:N[j]? =pi x):i=j:=by obtain⟨e,c⟩:=ay.mp a;obtain⟨f,d⟩:=ay.mp b;exact(List.getElem_inj hN).mp (c.trans d.symm)
def pR{M:Model}{A:Around}{E:cf}{i:Nat}{x:Str}{v:V}{u:Value}{Q:Unit->Shared->Prop}(I:Inv X ce σ H s)(hN:X.N.Nodup)(hi:X.N[i]? =pi x)(hx:Loc X.env.scope x)(r:bH v u)
  (h: ∀s',Inv X ce (σ.set i (pi v)) H s'->(∃a,n5 a s.heap s'.heap/\(a=X.env.locals\/X.env.cells.lookup x=pi a))->Q () s') (hf:X.fn x=qt\/X.env.scope.names.lookup x=pi .local:=by first|exact .inl rfl|exact .inr rfl|assumption):wpAny M A (storeName X.env x u) Q E s:=by
 obtain⟨m,hn,hl⟩:=id I.loc;have Y:(X.env.scope.kind== .class||(X.env.scope.kind== .module&&X.env.locals != X.env.globals))=qu:=by rw[I.ok.kind];rfl
 have G:i<σ.length:=by rw[I.len];exact(ay.mp hi).1
 have cne:=I.cne;have l: ∀{a:Addr} {O:Heap},(∃o,s.heap.get? a=pi o/\H a=qr)->n5 a s.heap O->HOk X.prog X.w H O:=λ{a O} ha f b ob e=>by
  obtain⟨_,_,B⟩:=ha;refine(I.hok b ob e).stay (λc Z t q=>(f.2 c ?_).trans q) (λ_ q=>q) λ_ _ q=>q;rintro rfl;rcases t with rfl|t;rw[B]at e;cases e;rw[B]at t;cases t
 rcases hx with hk|hk;refine wpAny_storeName_local hk hn (λO ad f=>?_) Y;obtain⟨oL,_,_,ab,_⟩:=id hn;refine h _ ⟨I.ok,I.os,I.bare,⟨λb o e n L hx=>?_,λb o e n L hx=>?_,I.base.free,λb o e hx=>?_,I.base.tups,I.base.frzs,I.base.tbls⟩,⟨_,ad,λj y v' g C e3=>?_⟩,λy c e=>?_,I.free,I.freeC,λp hp=>?_,l ⟨oL,ab,I.free⟩ f,by simpa using I.len⟩ ⟨_,f,.inl rfl⟩;exact(f.2 b (bh (bg (ah e) I.ok.above))).trans (I.base.keep b o e n L hx);obtain⟨sl,g⟩:=I.base.slot b o e n L hx;exact⟨sl,(f.2 b (bh (bg (ah e) I.ok.above))).trans g⟩;obtain⟨o',g⟩:=I.base.there b o e hx;exact⟨o',(f.2 b (bh (bg (ah e) I.ok.above))).trans g⟩;by_cases K:j=i;subst K;rw[hi]at g;cases g;rw[bj G]at C;cases C;exact⟨u,r,.inl ⟨hk,by simp⟩⟩;rw[bc (qq K)]at C;obtain⟨u',r',q⟩:=hl j y v' g C e3;refine⟨u',r',?_⟩;rcases q with ⟨k,e⟩|⟨k,c,e,z⟩;refine .inl ⟨k,?_⟩;have:y≠x:=λe=>K (nZ hN g (e▸hi));simp[this,e];exact .inr ⟨k,c,e,z.sameBut f (cne y c e)⟩;obtain⟨Z,z⟩:=I.cell y c e;exact⟨Z,z.sameBut f (cne y c e)⟩;obtain⟨e,n,ne,nf,d⟩:=I.pin p hp;exact⟨(f.2 p.1 ne).trans e,n,ne,nf,d⟩;have J:X.fn x=qt:=by
  rcases hf with z|z;exact z;rw[z]at hk;cases hk
 obtain⟨c,t⟩:=I.ok.has x (.inl hk);obtain⟨Z,z⟩:=I.cell x c t;refine wpAny_storeName_cell I.ok.kind hk t z (λO U f=>?_);obtain⟨oc,T,W⟩:=id z;refine h {s with heap:=O} ⟨I.ok,I.os,I.bare,⟨λb o e n L hx=>?_,λb o e n L hx=>?_,I.base.free,λb o e hx=>?_,I.base.tups,I.base.frzs,I.base.tbls⟩,⟨m,hn.sameBut f (qq (cne x c t)),λj y v' g C e3=>?_⟩,λy c' e=>?_,I.free,I.freeC,λp hp=>?_,l ⟨oc,T,I.freeC x c t⟩ f,by simpa using I.len⟩ ⟨c,f,.inr t⟩;exact(f.2 b (bh (bg (ah e) (I.ok.cab x c J t)))).trans (I.base.keep b o e n L hx);obtain⟨sl,g⟩:=I.base.slot b o e n L hx;exact⟨sl,(f.2 b (bh (bg (ah e) (I.ok.cab x c J t)))).trans g⟩;obtain⟨o',g⟩:=I.base.there b o e hx;exact⟨o',(f.2 b (bh (bg (ah e) (I.ok.cab x c J t)))).trans g⟩;by_cases K:j=i;subst K;rw[hi]at g;cases g;rw[bj G]at C;cases C;exact⟨u,r,.inr ⟨.inl hk,c,t,U⟩⟩;rw[bc (qq K)]at C;obtain⟨u',r',q⟩:=hl j y v' g C e3;refine⟨u',r',?_⟩;rcases q with q|⟨k,c',e,z'⟩;exact .inl q;refine .inr ⟨k,c',e,z'.sameBut f ?_⟩;rintro rfl;exact K (nZ hN g (I.ok.inj _ _ _ e t▸hi));by_cases S:c'=c;subst S;exact⟨_,U⟩;obtain⟨w2,z2⟩:=I.cell y c' e;exact⟨w2,z2.sameBut f S⟩;obtain⟨e,n,ne,nf,d⟩:=I.pin p hp;refine⟨(f.2 p.1 ?_).trans e,n,ne,nf,d⟩;intro q;rw[q,T]at e;have q':oc=p.2:=ku e;exact d Z (by rw[<-q'];exact W)
def fS{M:Model}{A:Around}{E:cf}{i:Nat}{x:Str}{v:V}{u:Value}{Q:Unit->Shared->Prop}(I:Inv X ce σ H s)(hN:X.N.Nodup)(hi:X.N[i]? =pi x)(hx:Loc X.env.scope x)(r:bH v u)
  (h: ∀s',Inv X ce (σ.set i (pi v)) H s'->Q () s') (hf:X.fn x=qt\/X.env.scope.names.lookup x=pi .local:=by first|exact .inl rfl|exact .inr rfl|assumption):wpAny M A (storeName X.env x u) Q E s:=
 pR I hN hi hx r (λs' b _=>h s' b) hf
def Inv.call'(I:Inv X ce σ H s)(ho:s'.os=s.os)(u:Un (frs X.stack) ch H H' s.heap s'.heap)(hok:HOk X.prog X.w H' s'.heap)(hg:AllBare s'.gens)(hch: ∀b∈ch,(b∈X.ex\/X.s₀.z<=b)/\b≠X.env.locals/\(∀x c,X.env.cells.lookup x=pi c->c≠b)/\∀p∈X.pn++ce,p.1≠b):Inv X ce σ H' s':=by obtain⟨f,g',d',t',d⟩:=s';have e:d=s.os:=ho;subst e;exact I.call (g':=g') (t':=t') (d':=d') u hok hg hch
end
abbrev XK:=Value->L7 Addr->Hp->Prop
abbrev St:=L1 (L7 V)
abbrev VK:=V->Hp->Prop
abbrev TE:=St->Hp->VK->Prop
abbrev TT:=St->Hp->(Bool->Hp->Prop)->Prop
abbrev TA:=St->Hp->(L1 V->Hp->Prop)->Prop
structure Ends where
 nx:St->Hp->Prop
 rt:VK
 bk:St->Hp->Prop:=λ_ _=>False
 ct:St->Hp->Prop:=λ_ _=>False
abbrev TS:=Ends->St->Hp->Prop
def EP(X:Cx)(ce:cg)(σ:St)(Q:VK)(u:Value)(s':Shared):Prop:= ∃v H',Inv X ce σ H' s'/\bH v u/\Q v H'
def TP(X:Cx)(ce:cg)(σ:St)(Q:Bool->Hp->Prop)(b:Bool)(s':Shared):Prop:= ∃H',Inv X ce σ H' s'/\Q b H'
def AP(X:Cx)(ce:cg)(σ:St)(Q:L1 V->Hp->Prop)(us:L1 Value)(s':Shared):Prop:= ∃vs H',Inv X ce σ H' s'/\bW vs us/\Q vs H'
def SP(X:Cx)(ce:cg)(D:Ends)(f:Flow)(s':Shared):Prop:=
 match f with
 |.next=>∃σ' H',Inv X ce σ' H' s'/\D.nx σ' H'
 |.brk=>∃σ' H',Inv X ce σ' H' s'/\D.bk σ' H'
 |.cont=>∃σ' H',Inv X ce σ' H' s'/\D.ct σ' H'
 |.ret u=>∃v σ' H',Inv X ce σ' H' s'/\bH v u/\D.rt v H'
def PE(X:Cx)(e:Expr)(t:TE):Prop:=
 ∀(ce:cg) (s:Shared) (σ:St) (H:Hp) (Q:VK),Inv X ce σ H s->t σ H Q->X.wp (eval e X.env) (EP X ce σ Q) X.xe s
def PT(X:Cx)(e:Expr)(t:TT):Prop:=
 ∀(ce:cg) (s:Shared) (σ:St) (H:Hp) (Q:Bool->Hp->Prop),Inv X ce σ H s->t σ H Q->X.wp (isTrue e X.env (eval e X.env)) (TP X ce σ Q) X.xe s
def PW(X:Cx)(e:Expr)(t:TT):Prop:=
 ∀(whole:Sem Value) (ce:cg) (s:Shared) (σ:St) (H:Hp) (Q:Bool->Hp->Prop),Inv X ce σ H s->t σ H Q->X.wp (isTrue e X.env whole) (TP X ce σ Q) X.xe s
def PA(X:Cx)(es:L1 Expr)(t:TA):Prop:=
 ∀(pos:Pos) (ce:cg) (s:Shared) (σ:St) (H:Hp) (Q:L1 V->Hp->Prop),Inv X ce σ H s->t σ H Q->X.wp (spliced (backTo pos (starEach es X.env))) (AP X ce σ Q) X.xe s
def PS(X:Cx)(st:Stmt)(t:TS):Prop:=
 ∀(ce:cg) (s:Shared) (σ:St) (H:Hp) (D:Ends),Inv X ce σ H s->t D σ H->X.wp (exec st X.env) (SP X ce D) X.xe s
def PSs(X:Cx)(st:L1 Stmt)(t:TS):Prop:=
 ∀(ce:cg) (s:Shared) (σ:St) (H:Hp) (D:Ends),Inv X ce σ H s->t D σ H->X.wp (execs st X.env) (SP X ce D) X.xe s
def thn{t:Sem α}{Q Q'}{E:cf}(h:wpAny M A t Q E s)(hQ: ∀a s,Q a s->Q' a s):wpAny M A t Q' E s:=wpAny_mono h hQ λ_ _ x=>x
section
variable{X:Cx}{a b:Expr}{ta tb:TE}{pos:Pos}{dF:L1 Expr}
def JA(i:Nat):TE:=λσ H Q=>∃v,σ[i]? =pi (pi v)/\Q v H
def tC(v:V):TE:=λ_ H Q=>Q v H
def y0{i:Nat}{x:Str}{pos:Pos}(hN:X.N[i]? =pi x)(hv:Vis X.env.scope x)(hd:(x==gV)=qu:=by decide)(hcd:(x==hZ)=qu:=by decide):PE X (.Name x pos) (JA i):=by intro p s n H Q I h;obtain⟨v,e,h⟩:=h;obtain⟨m,g,j⟩:=I.loc;obtain⟨u,r,l⟩:=j i x v hN e hv;have d:EP X p n Q u s:=⟨v,H,I,r,h⟩;rcases l with ⟨hk,o⟩|⟨hk,c,f,b⟩;exact wpAny_Name (wpAny_loadName_local I.ok.kind hk g o d) hd;rcases hk with hk|hk;exact wpAny_Name (wpAny_loadName_cell I.ok.kind hk f b d) hd;exact wpAny_Name (wpAny_loadName_free I.ok.kind hk f b d hcd) hd
def JV{i j pos}:PE X (.Constant (.int i) j pos) (tC (.int i)):=λ_ _ _ H _ I h=>wpAny_Constant_int ⟨.int i,H,I.tok _,⟨_,rfl⟩,h⟩
def NS{b j pos}:PE X (.Constant (.bool b) j pos) (tC (.bl b)):=λ_ _ _ H _ I h=>Constant_bool ⟨.bl b,H,I,rfl,h⟩
def JW{j pos}:PE X (.Constant .none j pos) (tC .non):=λ_ _ _ H _ I h=>Constant_none ⟨.non,H,I,rfl,h⟩
def Ey{x j pos}:PE X (.Constant (.str x) j pos) (tC (.str x)):=λ_ _ _ H _ I h=>Calls.Constant_str ⟨.str x,H,I.tok _,⟨_,rfl⟩,h⟩
def Gl(X:Cx)(x:Str):Prop:=X.env.kindOf x=pi .globalImplicit
def eJ{E:cf}{ce:cg}{s:Shared}{σ:St}{H:Hp}{x:Str}{u:Value}{pos:Pos}{Q:cf}(I:Inv X ce σ H s)(hg:Gl X x)(hm:X.mg x=pi u)(h:Q u s)
  (hd:(x==gV)=qu:=by decide):X.wp (eval (.Name x pos) X.env) Q E s:=
 dy I.ok.kind hg (Calls.loadGlobal_global (by rw[I.ok.glob];exact I.mod.glob.keeps I.bk) hm h) hd
def gE{E:cf}{ce:cg}{s:Shared}{σ:St}{H:Hp}{x:Str}{u:Value}{pos:Pos}{Q:cf}(I:Inv X ce σ H s)(hg:Gl X x)(hm:X.mg x=qr)(hv:bootBuiltins x=pi u)(h:Q u s)
  (hn:x≠"__name__":=by decide) (hd:(x==gV)=qu:=by decide):X.wp (eval (.Name x pos) X.env) Q E s:=by
 obtain⟨d,b,c⟩:=I.mod.blt;exact dy I.ok.kind hg (Calls.loadGlobal_builtin (by rw[I.ok.glob];exact I.mod.glob.keeps I.bk) hm (by rw[I.ok.blt];exact b.keeps I.bk) ((c x hn).trans hv) h) hd
def F2{x:Str}{v:V}{u:Value}{pos:Pos}(hg:Gl X x)(hm:X.mg x=pi u)(r:bH v u)(hd:(x==gV)=qu:=by decide):PE X (.Name x pos) (tC v):=
 λ_ _ _ H _ I h=>eJ I hg hm ⟨v,H,I,r,h⟩ hd
def PC(X:Cx)(op:CmpOp)(a b:Expr)(t:TE):Prop:=
 ∀(ce:cg) (s:Shared) (σ:St) (H:Hp) (Q:VK),Inv X ce σ H s->t σ H Q->
  X.wp (eval a X.env) (λv s₁=>X.wp (eval b X.env) (λu s₂=>X.wp (compareOp op v u) (EP X ce σ Q) X.xe s₂) X.xe s₁) X.xe s
def tB(t:TE):TT:=λσ H Q=>t σ H λx H1=>∃c,x= .bl c/\Q c H1
def JX{op:CmpOp}{t:TE}(h:PC X op a b t)(h1:behindInMarks op b=qu:=by first|exact nobehind _ rfl rfl|rfl):PE X (.Compare a [op] [b] pos) t:=λe s c H Q I d=>wpAny_Compare1 (h e s c H Q I d) h1
def JY{e:Expr}{t:TE}(h:PE X e t)(he: ∀whole,isTrue e X.env whole=(do let v<-whole;standAt e.pos;holding [v] (truthy v)):=by intro _;rfl):PT X e (tB t):=by intro i s c H Q I g;refine isTrue_plain (thn (h i s c H _ I g) λv m b=>?_) (he _);obtain⟨x,l,f,j,q1⟩:=b;obtain⟨d,rfl,q⟩:=q1;cases j;exact wpAny_truthy_bool ⟨l,f,q⟩
def PO(t u:TT):TT:=λσ H Q=>t σ H λc H1=>if c=qt then u σ H1 Q else Q qu H1
def tOr(t u:TT):TT:=λσ H Q=>t σ H λc H1=>if c=qt then Q qt H1 else u σ H1 Q
def PP(t:TT):TT:=λσ H Q=>t σ H λc H1=>Q (!c) H1
def pw_and1(ha:PT X a tA):PW X (.BoolOp .And [a] pos) tA:=by intro g d s b H Q I h;refine isTrue_and (thn (ha d s b H Q I h) λc f e=>?_);rcases c with _|_;exact e;exact isTrue_and_nil e
def pw_or1(ha:PT X a tA):PW X (.BoolOp .Or [a] pos) tA:=by intro g d s b H Q I h;refine isTrue_or (thn (ha d s b H Q I h) λc f e=>?_);rcases c with _|_;exact isTrue_or_nil e;exact e
def pw_and(ha:PT X a tA)(hb:PW X (.BoolOp .And (b::dF) pos) tB'):PW X (.BoolOp .And (a::b::dF) pos) (PO tA tB'):=by intro l g s e H Q I h;refine isTrue_and (thn (ha g s e H _ I h) λc j d=>?_);obtain⟨i,f,q1⟩:=d;rcases c with _|_;exact⟨i,f,q1⟩;exact hb l g j e i Q f q1
def pw_or(ha:PT X a tA)(hb:PW X (.BoolOp .Or (b::dF) pos) tB'):PW X (.BoolOp .Or (a::b::dF) pos) (tOr tA tB'):=by intro l g s e H Q I h;refine isTrue_or (thn (ha g s e H _ I h) λc j d=>?_);obtain⟨i,f,q1⟩:=d;rcases c with _|_;exact hb l g j e i Q f q1;exact⟨i,f,q1⟩
def JZ(ha:PT X a tA):PT X (.UnaryOp .Not a pos) (PP tA):=by intro d s b H Q I h;exact isTrue_not (ha d s b H (λc e=>Q (!c) e) I h)
def J0(ta tb:TE):TE:=λσ H Q=>ta σ H λx H1=>∃c,x= .bl c/\if c=qt then tb σ H1 Q else Q (.bl qu) H1
def PR(ta tb:TE):TE:=λσ H Q=>ta σ H λx H1=>∃c,x= .bl c/\if c=qt then Q (.bl qt) H1 else tb σ H1 Q
def NU(ta:TE):TE:=λσ H Q=>ta σ H λx H1=>∃c,x= .bl c/\Q (.bl (!c)) H1
def J1(h:PE X a t):PE X (.BoolOp op [a] pos) t:=λd s b H Q I c=>BoolOp_one (h d s b H Q I c)
def J9(ha:PE X a ta)(hb:PE X (.BoolOp .And (b::dF) pos) tb):PE X (.BoolOp .And (a::b::dF) pos) (J0 ta tb):=by intro g s e H Q I h;refine BoolOp_and (thn (ha g s e H _ I h) λv j d=>?_);obtain⟨x,i,f,l,q1⟩:=d;obtain⟨c,rfl,q1⟩:=q1;cases l;refine wpAny_truthy_bool ?_;rcases c with _|_;exact⟨.bl qu,i,f,rfl,q1⟩;exact hb g j e i Q f q1
def NV(ha:PE X a ta)(hb:PE X (.BoolOp .Or (b::dF) pos) tb):PE X (.BoolOp .Or (a::b::dF) pos) (PR ta tb):=by intro g s e H Q I h;refine BoolOp_or (thn (ha g s e H _ I h) λv j d=>?_);obtain⟨x,i,f,l,q1⟩:=d;obtain⟨c,rfl,q1⟩:=q1;cases l;refine wpAny_truthy_bool ?_;rcases c with _|_;exact hb g j e i Q f q1;exact⟨.bl qt,i,f,rfl,q1⟩
def Ka(ha:PE X a ta):PE X (.UnaryOp .Not a pos) (NU ta):=by intro f s d H Q I h;refine UnaryOp_ (thn (ha f s d H _ I h) λv j b=>?_);obtain⟨x,i,e,g,q1⟩:=b;obtain⟨c,rfl,q1⟩:=q1;cases g;exact not_of (wpAny_truthy_bool ⟨.bl (!c),i,e,rfl,q1⟩)
def tIf(t:TT)(ta tb:TE):TE:=λσ H Q=>t σ H λc H1=>if c=qt then ta σ H1 Q else tb σ H1 Q
def Cy(hc:PT X c tA)(ha:PE X a ta)(hb:PE X b tb):PE X (.IfExp c a b pos) (tIf tA ta tb):=by intro g s e H Q I h;refine wpAny_IfExp (thn (hc g s e H _ I h) λd i f=>?_);obtain⟨l,j,q1⟩:=f;rcases d with _|_;exact hb g i e l Q j q1;exact ha g i e l Q j q1
end
def SqL(K:nq)(H:Hp)(a:Addr)(xs:L1 V):Prop:=
 Rd H a (.lst xs)\/
  ∃(o:Obj) (its:Array Value) (n:Nat),K.lookup a=pi o/\o.cls= .type "list"/\o.dict=qr/\o.data= .seq its n/\its.size<=sizeLine/\bW xs its.toList
def SqT(K:nq)(H:Hp)(a:Addr)(xs:L1 V):Prop:=
 Rd H a (.tup xs)\/
  ∃(o:Obj) (its:Array Value) (n:Nat),K.lookup a=pi o/\o.cls= .type "tuple"/\o.dict=qr/\o.data= .seq its n/\its.size<=sizeLine/\bW xs its.toList
noncomputable def Qu:Value->L7 V
 |.none=>pi .non
 |.bool b=>pi (.bl b)
 |.int i _=>pi (.int i)
 |.str x _=>pi (.str x)
 |.bytes b _=>pi (.byt b)
 |.float b _=>pi (.flt b)
 |.ref a=>pi (.ref a)
 |.type n=>pi (.ty n)
 |_=>qr
def bH.abs(r:bH x u):Qu u=pi x:=by rcases x with _|_|_|_|_|_|_|_;cases r;rfl;cases r;rfl;obtain⟨t,rfl⟩:=r;rfl;obtain⟨t,rfl⟩:=r;rfl;obtain⟨t,rfl⟩:=r;rfl;obtain⟨t,rfl⟩:=r;rfl;cases r;rfl;cases r;rfl
def bH.inj(r:bH x u)(q:bH y u):x=y:=ku (r.abs.symm.trans q.abs)
theorem bW.inj: ∀{xs ys} {us},bW xs us->bW ys us->xs=ys
 |_,_,_,.nil,.nil=>rfl
 |_,_,_,.cons r t,.cons r' t'=>by rw[r.inj r',bW.inj t t']
section
variable{σ:St}
def SqL.of{K}(h:H a=pi (.lst xs)):SqL K H a xs:=.inl (.inl h)
def SqT.of{K}(h:H a=pi (.tup xs)):SqT K H a xs:=.inl (.inl h)
def Inv.list(I:Inv X ce σ H s)(h:SqL X.K H a xs): ∃its,bW xs its/\PlainL s.heap a its.toArray/\xs.length<=sizeLine:=by rcases h with h|⟨o,its,n,hk,hc,hd,hs,hz,r⟩;obtain⟨z,its,n,r,e⟩:=h.ok I.hok;exact⟨its,r,⟨_,n,e,rfl,rfl,rfl⟩,z⟩;refine⟨its.toList,r,⟨o,n,I.kIn a o hk,hc,hd,by simpa using hs⟩,?_⟩;have e:=r.length;simp only[ie]at e;lia
def Inv.tuple(I:Inv X ce σ H s)(h:SqT X.K H a xs): ∃its,bW xs its/\IsTup s.heap a its.toArray/\xs.length<=sizeLine:=by rcases h with h|⟨o,its,n,hk,hc,_,hs,hz,r⟩;obtain⟨z,its,r,p,_⟩:=h.ok I.hok;exact⟨its,r,p,z⟩;refine⟨its.toList,r,⟨o,I.kIn a o hk,hc,n,by simpa using hs⟩,?_⟩;have e:=r.length;simp only[ie]at e;lia
def Inv.list_inj(I:Inv X ce σ H s)(h:SqL X.K H a xs)(h':SqL X.K H a ys):xs=ys:=by
 obtain⟨c,r,⟨o,n,e,_,_,d⟩,_⟩:=I.list h;obtain⟨b,i,⟨j,l,g,_,_,f⟩,_⟩:=I.list h';rw[e]at g;cases g;rw[d]at f;injection f with d1 _
 have:c=b:=by simpa using congrArg Array.toList d1
 subst this;exact r.inj i
def Inv.tuple_inj(I:Inv X ce σ H s)(h:SqT X.K H a xs)(h':SqT X.K H a ys):xs=ys:=by
 obtain⟨c,r,⟨o,e,_,n,d⟩,_⟩:=I.tuple h;obtain⟨b,i,⟨j,g,_,l,f⟩,_⟩:=I.tuple h';rw[e]at g;cases g;rw[d]at f;injection f with d1 _
 have:c=b:=by simpa using congrArg Array.toList d1
 subst this;exact r.inj i
end
noncomputable abbrev Cx.wish(X:Cx)(E:cf):Cx:={X with xe:=E}
section
variable{X:Cx}{st:Stmt}{dF:L1 Stmt}{t u:TS}{e:Expr}{te:TE}{pos:Pos}
def Cz:TS:=λD σ H=>D.nx σ H
def PU(t u:TS):TS:=λD σ H=>t {D with nx:=u D} σ H
def kY:PSs X [] Cz:=λ_ _ b H _ I h=>wpAny_execs_nil ⟨b,H,I,h⟩
def kM(h1:PS X st t)(h2:PSs X dF u):PSs X (st::dF) (PU t u):=by
 intro c s d H D I h;refine wpAny_execs_cons (thn (h1 c s d H {D with nx:=u D} I h) λf e q=>?_);cases f with
 |next=>
  obtain⟨b,g,i,q⟩:=q;exact h2 c e b g D i q
 |ret v=>exact q
 |brk=>exact q
 |cont=>exact q
def n6(h1:PS X st t):PSs X [st] t:=by
 intro c s b H D I h;refine wpAny_execs_cons (thn (h1 c s b H D I h) λf d q=>?_);cases f with
 |next=>exact wpAny_execs_nil q
 |ret v=>exact q
 |brk=>exact q
 |cont=>exact q
def y6:PS X (.Pass pos) Cz:=λ_ _ b H _ I h=>wpAny_Pass ⟨b,H,I,h⟩
def Inv.quiet{σ:St}(I:Inv X ce σ H s):interactive X.env=qu:=by simp[interactive,I.ok.kind]
def F3(te:TE):TS:=λD σ H=>te σ H λ_ H1=>D.nx σ H1
def jO(he:PE X e te)(hs:swapsWith e qr pos.line X.env=pure qu:=by rfl):PS X (.Expr e pos) (F3 te):=by intro f s c H D I h;exact wpAny_Expr_any (thn (he f s c H _ I h) λv i b=>by obtain⟨x,g,d,j,q1⟩:=b;exact⟨c,g,d,q1⟩) I.quiet hs
def Qv(te:TE):TS:=λD σ H=>te σ H D.rt
def vB(he:PE X e te):PS X (.Return (pi e) pos) (Qv te):=by intro f s c H D I h;exact wpAny_Return_some (thn (he f s c H _ I h) λv j b=>by obtain⟨x,i,d,g,q1⟩:=b;exact⟨x,c,i,d,g,q1⟩)
def NW(c:TT)(t u:TS):TS:=λD σ H=>c σ H λb H1=>if b=qt then t D σ H1 else u D σ H1
def Kb(hc:PT X c tc)(ha:PSs X a t)(hb:PSs X b u):PS X (.If c a b pos) (NW tc t u):=by intro g s e H D I h;refine wpAny_If (thn (hc g s e H _ I h) λd i f=>?_);obtain⟨l,j,q1⟩:=f;rcases d with _|_;exact hb g i e l D j q1;exact ha g i e l D j q1
end
abbrev TG:=V->St->Hp->(St->Hp->Prop)->Prop
abbrev TGs:=L1 V->St->Hp->(St->Hp->Prop)->Prop
def PG(X:Cx)(target:Expr)(t:TG):Prop:=
 ∀(ce:cg) (s:Shared) (σ:St) (H:Hp) (v:V) (u:Value) (Q:St->Hp->Prop),Inv X ce σ H s->bH v u->t v σ H Q->
  X.wp (assign target X.env u) (λ_ s'=>∃σ' H',Inv X ce σ' H' s'/\Q σ' H') X.xe s
def PGs(X:Cx)(ts:L1 Expr)(t:TGs):Prop:=
 ∀(ce:cg) (s:Shared) (σ:St) (H:Hp) (vs:L1 V) (us:L1 Value) (Q:St->Hp->Prop),Inv X ce σ H s->bW vs us->t vs σ H Q->
  X.wp (assignInOrder ((assignEach ts X.env).map (·.2)) us) (λ_ s'=>∃σ' H',Inv X ce σ' H' s'/\Q σ' H') X.xe s
abbrev NX:=V->V->V->Hp->(Hp->Prop)->Prop
def NY(X:Cx)(t:NX):Prop:=
 ∀(ce:cg) (s:Shared) (σ:St) (H:Hp) (o i v:V) (ov iv u:Value) (Q:Hp->Prop),Inv X ce σ H s->bH o ov->bH i iv->bH v u->t o i v H Q->
  X.wp (setItem ov iv u) (λ_ s'=>∃H',Inv X ce σ H' s'/\Q H') X.xe s
section
variable{X:Cx}{pos:Pos}
def kZ(i:Nat):TG:=λv σ H Q=>Q (σ.set i (pi v)) H
def k8{i:Nat}{x:Str}(hN:X.N.Nodup)(hi:X.N[i]? =pi x)(hx:Loc X.env.scope x)(hf:X.fn x=qt\/X.env.scope.names.lookup x=pi .local:=by first|exact .inl rfl|exact .inr rfl|assumption):PG X (.Name x pos) (kZ i):=by intro e s c H v u Q I r h;exact wpAny_assign_Name (fS I hN hi hx r (λd b=>⟨_,H,b,h⟩) hf)
def NZ:TGs:=λvs σ H Q=>vs=[]/\Q σ H
def F4(t:TG)(u:TGs):TGs:=λvs σ H Q=>∃v r,vs=v::r/\t v σ H λσ' H'=>u r σ' H' Q
def y8:PGs X [] NZ:=by intro f s b H d c Q I r h;obtain⟨e,h⟩:=h;subst e;cases r;exact assignInOrder_nil ⟨b,H,I,h⟩
def vC{e:Expr}{es:L1 Expr}{t:TG}{u:TGs}(h1:PG X e t)(h2:PGs X es u)
  (hs:(assignEach (e::es) X.env).map (·.2)=assign e X.env::(assignEach es X.env).map (·.2):=by rfl):PGs X (e::es) (F4 t u):=by
 intro d s l H o n Q I r h;obtain⟨v,p,g,h⟩:=h;subst g;cases r with
 |cons r i=>
  rw[hs];refine assignInOrder_cons (thn (h1 d s l H _ _ _ I r h) λ_ m c=>?_);obtain⟨b,j,f,q1⟩:=c;exact h2 d m b j _ _ Q f i q1
def Kc(K:nq)(n:Nat)(t:TGs):TG:=λv σ H Q=>∃a xs,v= .ref a/\SqT K H a xs/\xs.length=n/\t xs σ H Q
def Ez{es:L1 Expr}{k:Nat}{t:TGs}{n:Nat}(hc:X.calm=qt)(h:PGs X es t)
  (hn:(assignEach es X.env).length=n:=by rfl) (hst:(assignEach es X.env).findIdx? (·.1)=qr:=by rfl):PG X (.Tuple es k pos) (Kc X.K n t):=by
 intro g s d H v u Q I r c;obtain⟨a,y,l,x,q,c⟩:=c;subst l;cases r;obtain⟨j,f,p,z⟩:=I.tuple x;refine assign_Tuple_tuple (I.ok.hd hc) p (by simp[hn, <-q,f.length]) hst λw i=>?_;have m:Inv X g d H {s with heap:=w}:=I.kept (t':=s.toks) λb o e=>i b o (bh (ah e)) e;exact h g _ d H y _ Q m (by simpa using f) c
def Qw(to ti:TE)(t:NX):TG:=λv σ H Q=>to σ H λo H1=>ti σ H1 λi H2=>t o i v H2 λH3=>Q σ H3
def Kd{o i:Expr}{to ti:TE}{t:NX}(ho:PE X o to)(hi:PE X i ti)(hs:NY X t)
  (ha: ∀v,assign (.Subscript o i pos) X.env v=(do
   let ov<-holding [v] (eval o X.env);let iv<-holding [v,ov] (eval i X.env);standAt pos;holding [v,ov,iv] (setItem ov iv v);release [v,ov,iv] []):=by intro _;rfl):PG X (.Subscript o i pos) (Qw to ti t):=by
 intro d s c H v u Q I r h;rw[ha];refine aa (wpAny_holding (thn (ho d s c H _ I h) λov p b=>?_));obtain⟨x,m,g,z,q1⟩:=b;refine aa (wpAny_holding (thn (hi d p c m _ g q1) λiv f b=>?_));obtain⟨y,w,n,e,l⟩:=b;refine aa (wpAny_standAt (aa (wpAny_holding (thn (hs d f c w x y v ov iv u _ n z e r l) λ_ B b=>?_))));obtain⟨j,A,q⟩:=b;exact wpAny_release ⟨c,j,A,q⟩
def JB(te:TE)(g:TG):TS:=λD σ H=>te σ H λx H1=>g x σ H1 D.nx
def EA{tg e:Expr}{te:TE}{g:TG}(he:PE X e te)(hg:PG X tg g)(hs:swapsWithSole [tg] e pos.line X.env=pure qu:=by rfl)(hw:swappedStores [tg] e X.env=pure qr:=by rfl)
  (h1:(assignEach [tg] X.env).map (·.2)=[assign tg X.env]:=by rfl):PS X (.Assign [tg] e pos) (JB te g):=by
 intro d s c H D I h;refine wpAny_Assign_stores (thn (he d s c H _ I h) λv f b=>?_) hs hw;obtain⟨x,l,i,j,q1⟩:=b;rw[h1];exact thn (hg d f c l x v _ i j q1) λ_ m q=>q
def pS{i:Nat}{x:Str}{e:Expr}{te:TE}{pos':Pos}(hN:X.N.Nodup)(hi:X.N[i]? =pi x)(hx:Loc X.env.scope x)(he:PE X e te)(hs:swapsWith e (pi (.Name x pos')) pos.line X.env=pure qu:=by rfl)(hf:X.fn x=qt\/X.env.scope.names.lookup x=pi .local:=by first|exact .inl rfl|exact .inr rfl|assumption):
  PS X (.Assign [.Name x pos'] e pos) (JB te (kZ i)):=by
 intro g s c H D I h;refine wpAny_Assign_Name (thn (he g s c H _ I h) λv m b=>?_) hs;obtain⟨y,l,f,j,q1⟩:=b;exact fS f hN hi hx j (λn d=>⟨_,l,d,q1⟩) hf
def Qx(i j:Nat)(ta:TA):TS:=λD σ H=>ta σ H λvs H1=>∃v w,vs=[v,w]/\D.nx ((σ.set i (pi v)).set j (pi w)) H1
def Ke{i j:Nat}{x y:Str}{a b:Expr}{ta:TA}{px py pt:Pos}{kt k2 pt2}(hc:X.calm=qt)(hN:X.N.Nodup)(hi:X.N[i]? =pi x)(hj:X.N[j]? =pi y)(hij:i≠j)
  (hx:X.env.scope.names.lookup x=pi .local) (hy:X.env.scope.names.lookup y=pi .local) (ha:PA X [a,b] ta)
  (hw:swappedStores [.Tuple [.Name x px,.Name y py] kt pt] (.Tuple [a,b] k2 pt2) X.env=pure (pi [x,y]))
  (hs:swapsWithSole [.Tuple [.Name x px,.Name y py] kt pt] (.Tuple [a,b] k2 pt2) pos.line X.env=pure qu:=by rfl):
  PS X (.Assign [.Tuple [.Name x px,.Name y py] kt pt] (.Tuple [a,b] k2 pt2) pos) (Qx i j ta):=by
 intro u s r H D I h;rw[exec_Assign_arm];refine aa (wpAny_standAt ?_);rw[hs];refine aa (ac ?_);rw[if_neg (by decide)]
 refine aa (Tuple_ (thn (ha _ u s r H _ I h) λC f l=>?_))
 obtain⟨S,t,B,L,q1⟩:=l;obtain⟨v,w,E,q1⟩:=q1;subst E
 obtain⟨c,d,rfl,M,g⟩: ∃c d,C=[c,d]/\bH v c/\bH w d:=by
  cases L with
  |cons p q=>
   cases q with
   |cons z G=>
    cases G;exact⟨_,_,rfl,p,z⟩
 refine wpAny_newObj_type ?_ (by show 2<=sizeLine;decide)
 have J:Inv X u r t {f with heap:=f.heap.push {cls:=.type "tuple",data:=.seq [c,d].toArray} }:=B.kept (t':=f.toks) λb o e=>ae _ e
 rw[hw];refine aa (ac ?_);show X.wp (do rule "assign.swapped-stores";let items<-unpackItems (.ref f.z) 2 qr;assignInOrder [λv=>bindName X.env y v,λv=>bindName X.env x v] items.reverse;pure Flow.next) _ _ _
 refine aa (wpAny_rule (aa (unpackItems_tuple (items:= #[c,d]) (I.ok.hd hc) (IsTup.new f.heap _) λh' m=>?_)))
 have K:=J.kept (h':=h') (t':=f.toks) λb o e=>m b o (bh (ah e)) e
 show wpAny _ _ (assignInOrder [λv=>bindName X.env y v,λv=>bindName X.env x v] [d,c] >>= λ_=>pure Flow.next) _ _ _
 refine aa (assignInOrder_cons (wpAny_bindName (fS K hN hj (.inl hy) g (λQ O=>?_) (.inr hy))))
 refine assignInOrder_cons (wpAny_bindName (fS O hN hi (.inl hx) M (λT n=>assignInOrder_nil (ac ?_)) (.inr hx)))
 rw[List.set_comm _ _ (qq hij)]at n;exact⟨_,t,n,q1⟩
end
structure It where
 go:Nat->Hp->Prop
 yld:Nat->Hp->V->Hp->Prop
 stop:Nat->Hp->Prop
def pM(X:Cx)(ce:cg)(H:Hp)(b:Addr):Prop:=
 H b=qr/\b≠X.env.locals/\b∉X.fs/\(b∈X.ex\/X.s₀.z<=b)/\(∀x c,X.env.cells.lookup x=pi c->c≠b)/\∀p∈X.pn++ce,p.1≠b
def Inv.fpOk{σ:St}{b:Addr}(I:Inv X ce σ H s)(hb:s.z<=b)(hn:H' b=qr):pM X ce H' b:=by refine⟨hn,oe (bg I.lt hb),I.nofs hb,.inr (ny I.sz hb),λx c e z=>?_,λp d z=>?_⟩;obtain⟨v,q⟩:=I.cell x c e;exact absurd (bg q.lt (by rw[z];exact hb)) (mq _);exact absurd (bg (ah (I.pin p d).1) (by rw[z];exact hb)) (mq _)
structure Turn(P:Program)(w:World)(K:nq)(tg:Expr)(J:It)(fp:List Addr)(it:Addr)(tn:Nat->Heap->Prop):Prop where
 mem:it∈fp
 obj: ∀i h,tn i h->∀b∈fp, ∃o,h.get? b=pi o/\∀v,o.data≠ .cell v
 keep: ∀i h h',tn i h->(∀b∈fp, ∀o,h.get? b=pi o->h'.get? b=pi o)->tn i h'
 item: ∀(X:Cx),X.prog=P->X.w=w->X.K=K->X.calm=qt->∀(i:Nat) (ce:cg) (s:Shared) (σ:St) (H:Hp) (E:cf),Inv X ce σ H s->(∀b∈fp,pM X ce H b)->tn i s.heap->J.go i H->
  wpAny (model P w) X.A (pyNext (.ref it)) (λr s1=>∃u,r=pi u/\
   wpAny (model P w) X.A (letOwnedTupleGo tg (.ref it) u) (λ_ s2=>∃x H',Inv X ce σ H' s2/\bH x u/\J.yld i H x H'/\tn (i+1) s2.heap/\∀b∈fp,H' b=qr) E s1) E s
 done: ∀(X:Cx),X.prog=P->X.w=w->X.K=K->X.calm=qt->∀(i:Nat) (ce:cg) (s:Shared) (σ:St) (H:Hp) (E:cf),Inv X ce σ H s->(∀b∈fp,pM X ce H b)->tn i s.heap->J.stop i H->
  wpAny (model P w) X.A (pyNext (.ref it)) (λr s1=>r=qr/\Inv X ce σ H s1) E s
 self: ∀(A:Around) (i:Nat) (s:Shared) (Q:cf) (E:cf),tn i s.heap->Q (.ref it) s->wpAny (model P w) A (pyIter (.ref it)) Q E s
abbrev TI:=St->Hp->(It->Hp->Prop)->Prop
def PIE(X:Cx)(ce:cg)(σ:St)(tg:Expr)(R:It->Hp->Prop)(itv:Value)(s2:Shared):Prop:=
 ∃(it:Addr) (fp:L1 Addr) (tn:Nat->Heap->Prop) (J:It) (H':Hp),itv= .ref it/\Inv X ce σ H' s2/\Turn X.prog X.w X.K tg J fp it tn/\tn 0 s2.heap/\(∀b∈fp,pM X ce H' b)/\R J H'
def PI(X:Cx)(tg iter:Expr)(wi:TI):Prop:=
 ∀(ce:cg) (s:Shared) (σ:St) (H:Hp) (R:It->Hp->Prop),Inv X ce σ H s->wi σ H R->
  X.wp (eval iter X.env) (λv s1=>X.wp (pyIter v) (PIE X ce σ tg R) X.xe s1) X.xe s
def zA{E:cf}(ho:s.heap.get? it=pi o)(hc:o.cls= .type n)(hd:o.data= .fields vs)(hn:["enumerate","zip","dict_itemiterator","dict_reverseitemiterator","odict_iterator","itertools.zip_longest","itertools.pairwise"].contains n=qu)(hQ:Q () s):wpAny M A (letOwnedTupleGo tg (.ref it) u) Q E s:=by
 unfold letOwnedTupleGo;cases tg<;>first
  |exact ac hQ
  |(cases u<;>first
    |exact ac hQ
    | (refine aa (wpAny_load ho ?_)
       rw[hc,hd];show wpAny M A (if(["enumerate","zip","dict_itemiterator","dict_reverseitemiterator","odict_iterator","itertools.zip_longest","itertools.pairwise"].contains n&&vs[0]? ==pi (rawInt _))=qt then _ else _) Q E s;rw[if_neg (by intro h;rw[hn,Bool.false_and]at h;cases h)];exact ac hQ))
noncomputable def Itl(K:nq)(a:Addr):It:=
 ⟨λi H=>∃xs x,SqL K H a xs/\xs[i]? =pi x,λi H x H'=>H'=H/\∀xs,SqL K H a xs->xs[i]? =pi x,λi H=>∃xs,SqL K H a xs/\xs.length<=i⟩
noncomputable def Itt(K:nq)(a:Addr):It:=
 ⟨λi H=>∃xs x,SqT K H a xs/\xs[i]? =pi x,λi H x H'=>H'=H/\∀xs,SqT K H a xs->xs[i]? =pi x,λi H=>∃xs,SqT K H a xs/\xs.length<=i⟩
noncomputable def Itr(lo:Int)(n:Nat):It:=⟨λi _=>i<n,λi H x H'=>H'=H/\x= .int (lo+i),λi _=>n<=i⟩
def pT{K}a it:Turn P w K tg (Itl K a) [it] it (λi h=>h.IsListIter it a i) where
 mem:=by simp
 obj:=λi h f b g=>by
  have e:b=it:=by simpa using g
  subst e;obtain⟨o,e,c,d⟩:=f;exact⟨o,e,λv z=>by rw[d]at z;cases z⟩
 keep:=λi h m f k=>f.at λo e=>k it (by simp) o e;item:=by
  intro X q t C Q i S s O H E I l f L;subst q t C;obtain⟨xs,x,n,r⟩:=L;obtain⟨J,M,p,T⟩:=I.list n;obtain⟨u,hu,ru⟩:=M.get r;obtain⟨y,A,Z,B,G,N⟩:=l it (by simp);refine wpAny_pyNext_list_item f p.isList (x:=u) (by simpa using hu) λm j sb=>?_;have U:Inv X S O H {s with heap:=m}:=I.turned (t':=s.toks) (λb o g e=>(sb.2 b g).trans e) y A B G N;obtain⟨o,e,c,d⟩:=id j;exact⟨u,rfl,zA (s:={s with heap:=m}) e c d rfl ⟨x,H,U,ru,⟨rfl,λys Y=>by rw[I.list_inj Y n];exact r⟩,j,λb g=>(l b g).1⟩⟩
 done:=by
  intro X q t C Q i S s O H E I l f L;subst q t C;obtain⟨xs,n,r⟩:=L;obtain⟨J,M,p,T⟩:=I.list n;obtain⟨y,A,Z,B,G,N⟩:=l it (by simp);have hl:=M.length;exact wpAny_pyNext_list_end (I.ok.hd Q) f p.isList (by simp;lia) λm eb=>⟨rfl,I.turned (t':=s.toks) (λb o g e=>eb b o g e) y A B G N⟩
 self:=λ_ _ _ _ _ f h=>wpAny_pyIter_listiter f h
def xS{K}a it:Turn P w K tg (Itt K a) [it] it (λi h=>h.IsTupleIter it a i) where
 mem:=by simp
 obj:=λi h f b g=>by
  have e:b=it:=by simpa using g
  subst e;obtain⟨o,e,c,d⟩:=f;exact⟨o,e,λv z=>by rw[d]at z;cases z⟩
 keep:=λi h n f k=>f.at λo e=>k it (by simp) o e;item:=by
  intro X r y G Q i S s O H E I m f L;subst r y G;obtain⟨xs,x,q,t⟩:=L;obtain⟨j,M,p,T⟩:=I.tuple q;obtain⟨u,hu,ru⟩:=M.get t;obtain⟨A,B,Z,C,J,N⟩:=m it (by simp);refine wpAny_pyNext_tuple_item f (show s.heap.IsTuple a j.toArray from p) (x:=u) (by simpa using hu) λn l sb=>?_;have U:Inv X S O H {s with heap:=n}:=I.turned (t':=s.toks) (λb o g e=>(sb.2 b g).trans e) A B C J N;obtain⟨o,e,c,d⟩:=id l;exact⟨u,rfl,zA (s:={s with heap:=n}) e c d rfl ⟨x,H,U,ru,⟨rfl,λys Y=>by rw[I.tuple_inj Y q];exact t⟩,l,λb g=>(m b g).1⟩⟩
 done:=by
  intro X r y G Q i S s O H E I m f L;subst r y G;obtain⟨xs,q,t⟩:=L;obtain⟨j,M,p,T⟩:=I.tuple q;obtain⟨A,B,Z,C,J,N⟩:=m it (by simp);have hl:=M.length;exact wpAny_pyNext_tuple_end (I.ok.hd Q) f (show s.heap.IsTuple a j.toArray from p) (by simp;lia) λn eb=>⟨rfl,I.turned (t':=s.toks) (λb o g e=>eb b o g e) A B C J N⟩
 self:=λ_ _ _ _ _ f h=>wpAny_pyIter_tupleiter f h
def xT{K}it lo n:Turn P w K tg (Itr lo n) [it] it (λi h=>IsRangeIter h it (lo+(i:Nat)*1) ((n:Int)-(i:Nat)) 1) where
 mem:=by simp
 obj:=λi h c b d=>by
  have e:b=it:=by simpa using d
  subst e;exact⟨_,c,λv z=>by
   have N:Data.fields _=Data.cell v:=z;cases N⟩
 keep:=λi h j c k=>k it (by simp) _ c;item:=by
  intro X l m u x i J s C H E I g c A;subst l m u;obtain⟨p,q,O,r,y,B⟩:=g it (by simp);have W:=Walks.range (prog:=X.prog) (w:=X.w) (I.ok.hd x) it lo 1 n;refine W.item i s _ _ A c λv j G Q f L=>?_;obtain⟨t,rfl⟩:=Q;have M:Inv X J C H {s with heap:=j,toks:=G}:=I.turned (λb o d e=>L b o (by simpa using d) e) p q r y B;refine⟨_,rfl,zA (s:={s with heap:=j,toks:=G}) (n:="range_iterator") f rfl rfl rfl ⟨.int (lo+i),H,M,⟨t,?_⟩,⟨rfl,rfl⟩,f,λb d=>(g b d).1⟩⟩;rw[Int.mul_one]
 done:=by
  intro X l m u x i J s C H E I g c A;subst l m u;obtain⟨p,q,O,r,y,B⟩:=g it (by simp);exact wpAny_pyNext_range_end (I.ok.hd x) c (by have:n<=i:=A;lia) λj S=>⟨rfl,I.turned (t':=s.toks) (λb o d e=>S b o d e) p q r y B⟩
 self:=λ_ _ _ _ _ c h=>wpAny_pyIter_rangeiter c h
section
variable{X:Cx}{tg:Expr}
def CB{σ:St}{E:cf}{lo hi}(I:Inv X ce σ H s)(h1: -(2^62)<=lo)(h2:lo<2^62)(h3: -(2^62)<=hi)(h4:hi<2^62)(q:R (Itr lo (hi-lo).toNat) H):X.wp (pyIter (.ref s.z)) (PIE X ce σ tg R) E {s with heap:=s.heap.push {cls:=.type "range",data:=.fields #[.int lo t,.int hi u,.int 1 v]},toks:=tk}:=by
 refine wpAny_pyIter_range (IsRange.new ..) (small_one h1 h2 h3 h4) ?_;have c:Inv X ce σ H {s with heap:=s.heap.push {cls:=.type "range",data:=.fields #[.int lo t,.int hi u,.int 1 v]},toks:=tk}:=I.kept λb o e=>ae _ e;refine⟨(s.heap.push {cls:=.type "range",data:=.fields #[.int lo t,.int hi u,.int 1 v]}).objs.size,[(s.heap.push {cls:=.type "range",data:=.fields #[.int lo t,.int hi u,.int 1 v]}).objs.size],_,_,H,rfl,
  c.kept (t':=tk) λb o e=>ae _ e,xT _ lo (hi-lo).toNat,?_,λb d=>?_,q⟩
 have g:lo+((0:Nat):Int)*1=lo:=by simp
 have f:(((hi-lo).toNat:Nat):Int)-((0:Nat):Int)=Builtin.Range.rangeSize lo hi 1:=by rw[rangeSize_one];split<;>lia
 show IsRangeIter _ _ (lo+((0:Nat):Int)*1) ((((hi-lo).toNat:Nat):Int)-((0:Nat):Int)) 1;rw[g,f];exact af _ rfl;have e:b=(s.heap.push {cls:=.type "range",data:=.fields #[.int lo t,.int hi u,.int 1 v]}).objs.size:=by simpa using d
 subst e;exact c.fpOk (aj _) (c.hok.fresh (aj _))
def N0(ta:TA):TI:=λσ H R=>ta σ H λvs H1=>∃j:Int,vs=[.int j]/\ -(2^62)<=j/\j<2^62/\R (Itr 0 j.toNat) H1
def pU{a:Expr}{ta:TA}{p pos:Pos}(hg:Gl X "range")(hm:X.mg "range"=qr)(ha:PA X [a] ta)(hs:starEach [a] X.env=[(qu,eval a X.env)]:=by rfl):PI X tg (.Call (.Name "range" p) [a] [] pos) (N0 ta):=by
 intro g s f H R I h;refine Call_ (gE I hg hm boot_range (du (thn (ha pos g s f H _ I h) λl o ⟨m,n,b,i,q1⟩=>?_) hs rfl));obtain⟨j,e,q1,d,q⟩:=q1;subst e;cases i with
 |cons r c=>
  cases c;obtain⟨t,rfl⟩:=r;exact call_range_1 (CB b (by lia) (by lia) q1 d (by simpa using q))
def Qy(wi:TI)(g:TG)(tb:TS):TS:=λD σ H=>wi σ H λJ H1=>∃W:Nat->Nat->St->Hp->Prop,(∃m,W 0 m σ H1)/\∀i m σ H,W i m σ H->
 (J.stop i H/\D.nx σ H)\/(J.go i H/\∃N:St->Hp->Prop,(∀σ' H',N σ' H'->∃m',m'<m/\W (i+1) m' σ' H')/\∀x H',J.yld i H x H'->g x σ H' λσ2 H2=>tb {D with nx:=N,ct:=N,bk:=D.nx} σ2 H2)
noncomputable def gF(fp:L1 Addr)(h:Heap):cg:=fp.filterMap λb=>(h.get? b).map λo=>(b,o)
def gY(hb:b∈fp)(e:h.get? b=pi o):(b,o)∈gF fp h:=iw.mpr ⟨b,hb,by rw[e];rfl⟩
def k9(hp:p∈gF fp h):p.1∈fp/\h.get? p.1=pi p.2:=by obtain⟨b,c,e⟩:=iw.mp hp;rcases q:h.get? b with _|o;rw[q]at e;cases e;rw[q]at e;have d:(b,o)=p:=ku e;subst d;exact⟨c,q⟩
def Inv.pinned{σ:St}(I:Inv X ce σ H s)(hf: ∀b∈fp,pM X ce H b)(ho: ∀b∈fp, ∃o,s.heap.get? b=pi o/\∀v,o.data≠ .cell v):Inv X (ce++gF fp s.heap) σ H s:=
 I.pins_of λp g=>(k6.mp g).elim (λz=>I.pin p (bt _ z)) λz=>by
  obtain⟨c,e⟩:=k9 z;obtain⟨h,j,i,_⟩:=hf p.1 c;obtain⟨o,f,d⟩:=ho p.1 c;rw[e]at f;cases f;exact⟨e,h,j,i,d⟩
def Inv.unpinned{σ:St}(I:Inv X (ce++pl) σ H s):Inv X ce σ H s:=I.pins_of λp b=>I.pin p (bt _ (gy _ b))
end
abbrev R2:=V->V->Hp->VK->Prop
def OpR(X:Cx)(f:Value->Value->Sem Value)(r:R2):Prop:=
 ∀(ce:cg) (s:Shared) (σ:St) (H:Hp) (x y:V) (v u:Value) (Q:VK),Inv X ce σ H s->bH x v->bH y u->r x y H Q->
  X.wp (f v u) (EP X ce σ Q) X.xe s
def UnR(X:Cx)(f:Value->Sem Value)(r:V->Hp->VK->Prop):Prop:=
 ∀(ce:cg) (s:Shared) (σ:St) (H:Hp) (x:V) (v:Value) (Q:VK),Inv X ce σ H s->bH x v->r x H Q->
  X.wp (f v) (EP X ce σ Q) X.xe s
def lA(X:Cx)(f:Value)(r:L1 V->Hp->VK->Prop):Prop:=
 ∀(ce:cg) (s:Shared) (σ:St) (H:Hp) (xs:L1 V) (us:L1 Value) (Q:VK),Inv X ce σ H s->bW xs us->r xs H Q->
  X.wp (call f us) (EP X ce σ Q) X.xe s
def tOp(r:R2)(ta tb:TE):TE:=λσ H Q=>ta σ H λx H1=>tb σ H1 λy H2=>r x y H2 Q
def tUn(r:V->Hp->VK->Prop)(ta:TE):TE:=λσ H Q=>ta σ H λx H1=>r x H1 Q
def rI(C:Int->Int->Prop)(g:Int->Int->V):R2:=λx y H Q=>∃i j,x= .int i/\y= .int j/\C i j/\Q (g i j) H
def rI0(g:Int->Int->V):R2:=λx y H Q=>∃i j,x= .int i/\y= .int j/\Q (g i j) H
def rU(g:Int->V):V->Hp->VK->Prop:=λx H Q=>∃i,x= .int i/\Q (g i) H
def N1(ho:UnR X (unaryOp op) r)(ha:PE X a ta):PE X (.UnaryOp op a pos) (tUn r ta):=by intro d s c H Q I h;exact UnaryOp_ (thn (ha d s c H _ I h) λv e b=>by obtain⟨x,i,f,g,q1⟩:=b;exact ho d e c i x v Q f g q1)
def opI{g:Int->Int->Int}(rule: ∀i j t u s (Q:cf) (E:cf),C i j->Q (.int (g i j) s.toks) {s with toks:=s.toks+1}->X.wp (f (.int i t) (.int j u)) Q E s):
  OpR X f (rI C λi j=>.int (g i j)):=by
 intro m s l H x y v u Q I c d h;obtain⟨i,j,rfl,rfl,e,q⟩:=h;obtain⟨t,rfl⟩:=c;obtain⟨b,rfl⟩:=d;exact rule i j t b s _ _ e ⟨.int (g i j),H,I.tok _,⟨_,rfl⟩,q⟩
def Kf{g:Int->Int->Int}(rule: ∀i j t u s (Q:cf) (E:cf),Q (.int (g i j) s.toks) {s with toks:=s.toks+1}->X.wp (f (.int i t) (.int j u)) Q E s):
  OpR X f (rI0 λi j=>.int (g i j)):=by
 intro l s e H x y v u Q I c d h;obtain⟨i,j,rfl,rfl,q⟩:=h;obtain⟨t,rfl⟩:=c;obtain⟨b,rfl⟩:=d;exact rule i j t b s _ _ ⟨.int (g i j),H,I.tok _,⟨_,rfl⟩,q⟩
def Nv{g:Int->Int->Bool}(rule: ∀i j t u s (Q:cf) (E:cf),Q (.bool (g i j)) s->X.wp (f (.int i t) (.int j u)) Q E s):
  OpR X f (rI0 λi j=>.bl (g i j)):=by
 intro l s e H x y v u Q I c d h;obtain⟨i,j,rfl,rfl,q⟩:=h;obtain⟨t,rfl⟩:=c;obtain⟨b,rfl⟩:=d;exact rule i j t b s _ _ ⟨.bl (g i j),H,I,rfl,q⟩
def Qz(i j:Int):Prop:=0<j/\j<1073741824
def QA(i j:Int):Prop:=0<=j/\j<=1000000/\i.natAbs<2^64
def N2(i j:Int):Prop:=(-(2^64)<i/\i<2^64)\/(-(2^64)<j/\j<2^64)
def N2.ok(h:N2 i j):IntMulOk i j:=by rcases h with ⟨b,c⟩|⟨b,c⟩;exact .of_left (intBits_le_64 b c);exact .of_right (intBits_le_64 b c)
def Kg:OpR X (binaryOp .Add) (rI0 λi j=>.int (i+j)):=Kf λ_ _ _ _ _ _ _ q=>add_int q
def Kh:OpR X (binaryOp .Sub) (rI0 λi j=>.int (i-j)):=Kf λ_ _ _ _ _ _ _ q=>sub_int q
def Ki:OpR X (binaryOp .Mult) (rI N2 λi j=>.int (i*j)):=opI λ_ _ _ _ _ _ _ b q=>mul_int q b.ok
def F5:OpR X (binaryOp .FloorDiv) (rI Qz λi j=>.int (i/j)):=opI λi j _ _ _ _ _ b q=>by
 have c:(0:Int)<j:=b.1;have d:j<1073741824:=b.2;exact floordiv_int (by lia) (by rw[Int.fdiv_eq_ediv_of_nonneg i (by lia)];exact q) (.inl (PyProof.noPylong_small (by lia)))
def Kj:OpR X (binaryOp .Mod) (rI (λ_ j=>0<j) λi j=>.int (i % j)):=opI λi j _ _ _ _ _ b q=>by
 have c:(0:Int)<j:=b;exact mod_int' (by lia) (by rw[Int.fmod_eq_emod_of_nonneg i (by lia)];exact q)
def Kk:OpR X (binaryOp .LShift) (rI QA λi j=>.int (i*2^j.toNat)):=opI λ_ _ _ _ _ _ _ b q=>lshift_int_small b.1 b.2.1 b.2.2 q
def Kl:OpR X (binaryOp .BitAnd) (rI0 λi j=>.int (Builtin.bitAnd i j)):=Kf λ_ _ _ _ _ _ _ q=>and_int q
def N3:OpR X (binaryOp .BitOr) (rI0 λi j=>.int (Builtin.bitOr i j)):=Kf λ_ _ _ _ _ _ _ q=>or_int q
def Km:OpR X (binaryOp .BitXor) (rI0 λi j=>.int (Builtin.bitXor i j)):=Kf λ_ _ _ _ _ _ _ q=>xor_int q
def unI{g:Int->Int}(rule: ∀i t s (Q:cf) (E:cf),Q (.int (g i) s.toks) {s with toks:=s.toks+1}->X.wp (f (.int i t)) Q E s):
  UnR X f (rU λi=>.int (g i)):=by
 intro d s c H x v Q I b h;obtain⟨i,rfl,q⟩:=h;obtain⟨t,rfl⟩:=b;exact rule i t s _ _ ⟨.int (g i),H,I.tok _,⟨_,rfl⟩,q⟩
def Kn:UnR X (unaryOp .USub) (rU λi=>.int (-i)):=unI λ_ _ _ _ _ q=>neg_int q
def EB{σ:St}(I:Inv X ce σ H s)(q:Q (.bl k) H)(e:k=k'):EP X ce σ Q (.bool k') s:=by subst e;exact⟨.bl k,H,I,rfl,q⟩
def N4:OpR X (compareOp .Lt) (rI0 λi j=>.bl (decide (i<j))):=Nv λ_ _ _ _ _ _ _ q=>lt_int q
def N5:OpR X (compareOp .LtE) (rI0 λi j=>.bl (decide (i<=j))):=Nv λ_ _ _ _ _ _ _ q=>le_int q
def N6:OpR X (compareOp .Gt) (rI0 λi j=>.bl (decide (j<i))):=Nv λ_ _ _ _ _ _ _ q=>gt_int q
def N7:OpR X (compareOp .GtE) (rI0 λi j=>.bl (decide (j<=i))):=Nv λ_ _ _ _ _ _ _ q=>ge_int q
def Ko:OpR X (compareOp .Is) (λx y H Q=>y= .non/\Q (.bl (decide (x= .non))) H):=by
 intro e s d H x y v u Q I b c h;obtain⟨rfl,q⟩:=h;cases c;refine is_none_gen (EB I q ?_);cases x<;>first
  |(cases b;rfl)
  |(obtain⟨t,rfl⟩:=b;rfl)
def F6:OpR X (compareOp .IsNot) (λx y H Q=>y= .non/\Q (.bl (!decide (x= .non))) H):=by
 intro e s d H x y v u Q I b c h;obtain⟨rfl,q⟩:=h;cases c;refine isnot_none_gen (EB I q ?_);cases x<;>first
  |(cases b;rfl)
  |(obtain⟨t,rfl⟩:=b;rfl)
def mW:(sizeLine:Nat)<2^63:=by rw[sizeLine_eq];decide
def xU:OpR X (binaryOp .Add) (λx y H Q=>∃i j,x= .str i/\y= .str j/\i.length+j.length<=sizeLine/\Q (.str (i++j)) H):=by intro l s f H x y v u Q I d e h;obtain⟨i,j,rfl,rfl,b,q⟩:=h;obtain⟨t,rfl⟩:=d;obtain⟨c,rfl⟩:=e;exact add_str (λc g=>⟨.str (i++j),H,I.tok _,⟨_,rfl⟩,q⟩) b
def lB(r:bW [x] us): ∃u,us=[u]/\bH x u:=by
 cases r with
 |cons c b=>cases b;exact⟨_,rfl,c⟩
def zB(r:bW [x,y] us): ∃u w',us=[u,w']/\bH x u/\bH y w':=by
 cases r with
 |cons e d=>
  cases d with
  |cons b c=>cases c;exact⟨_,_,rfl,e,b⟩
def Kp(hc:X.calm=qt):lA X (.builtin "max") (λxs H Q=>∃i j,xs=[.int i,.int j]/\Q (.int (if j > i then j else i)) H):=by intro m s f H xs d Q I r h;obtain⟨i,j,rfl,q⟩:=h;obtain⟨u,e,rfl,⟨t,rfl⟩,⟨c,rfl⟩⟩:=zB r;refine max_two_ints (I.ok.hd hc) λg l k=>⟨_,H,I.kept k,?_,q⟩;by_cases b:j > i;rw[if_pos b,if_pos b];exact⟨_,rfl⟩;rw[if_neg b,if_neg b];exact⟨_,rfl⟩
def Kq(hc:X.calm=qt):lA X (.builtin "min") (λxs H Q=>∃i j,xs=[.int i,.int j]/\Q (.int (if j<i then j else i)) H):=by intro m s f H xs d Q I r h;obtain⟨i,j,rfl,q⟩:=h;obtain⟨u,e,rfl,⟨t,rfl⟩,⟨c,rfl⟩⟩:=zB r;refine min_two_ints (I.ok.hd hc) λg l k=>⟨_,H,I.kept k,?_,q⟩;by_cases b:j<i;rw[if_pos b,if_pos b];exact⟨_,rfl⟩;rw[if_neg b,if_neg b];exact⟨_,rfl⟩
def pV:lA X (.type "int") (λxs H Q=>(∃i,xs=[.int i]/\Q (.int i) H)\/∃k,xs=[.bl k]/\Q (.int (if k then 1 else 0)) H):=by intro d s e H xs c Q I r h;rcases h with ⟨i,rfl,q⟩|⟨k,rfl,q⟩;obtain⟨u,rfl,t,rfl⟩:=lB r;exact call_int_int ⟨.int i,H,I,⟨_,rfl⟩,q⟩;obtain⟨u,rfl,b⟩:=lB r;cases b;exact call_int_bool ⟨.int (if k then 1 else 0),H,I.tok _,⟨_,rfl⟩,q⟩
def pW:lA X (.type "str") (λxs H Q=>∃i,xs=[.int i]/\i.natAbs.log2<1920/\Q (.str (toString i)) H):=by intro e s d H xs c Q I r h;obtain⟨i,rfl,b,q⟩:=h;obtain⟨u,rfl,t,rfl⟩:=lB r;exact PySem.P.str_of_int b ⟨.str _,H,I.tok _,⟨_,rfl⟩,q⟩
structure ObjM(h:Heap)(x dx C:Addr)(mA:Str->Option Value):Prop where
 obj:h.get? x=pi (ky C dx)
 ns:h.Ns1 dx mA
 ne:dx≠x
def zC{h:Heap}(n:h.Ns1 dx mA): ∃od,h.get? dx=pi od/\∀name,l0 name od=pi (mA name):=by
 obtain⟨o,c,l,d,j,hk,_,g⟩:=n;refine⟨o,d,λname=>?_⟩;have e:=g name;unfold nsFind findBy at e;rw[<-Array.find?_toList]at e;unfold l0;rw[j];dsimp only;split;rename_i y q;rw[q]at e;exact congrArg pi e;rename_i q;rw[q]at e;have a:c.toList.any (·.refKey)=qu:=by
  rw[List.any_eq_false];intro y i;obtain⟨z,t,b⟩:=hk y (Array.mem_toList_iff.mp i);simp[DictEntry.refKey,b]
 have f: ¬c.toList.any (·.refKey)=qt:=by rw[a];exact bf
 rw[if_neg f];exact congrArg pi e
def ObjM.look(I:ObjM h x dx C mA): ∃od,PySem.W.InstAt h x (ky C dx) C (pi od)/\∀name,l0 name od=pi (mA name):=
 let ⟨od,ho,hl⟩:=zC I.ns;⟨od,⟨I.obj,rfl,rfl,ho⟩,hl⟩
section
variable{E:cf}{s:Shared}{K:nq}
def F7{Q:cf}(X:K.In s.heap)(I:ObjM s.heap x dx C mA)(hg:jz K C name=qt)(hh:jf K C=qt)(ha:l4 K (.ref C) name=pi qr)(hv:mA name=pi v)(hv':PySem.W.handedIn v=qt)(h:Q v {s with toks:=s.toks+1}):
  wpAny (model prog w) A (getAttr (.ref x) name expr) Q E s:=by
 obtain⟨c,J,b⟩:=I.look;exact PySem.W.get_value X J (ig hg).1 (PySem.W.findObj_own hh ha rfl (by rw[b,hv])) hv' h
def CC(X:K.In s.heap)(I:ObjM s.heap x dx C mA)(hg:jz K C name=qt)(hf:l4 K (.ref C) name=pi (pi (.ref f)))(ht:og K (.ref f)=qt)(hv:mA name=qr)(h:Q (.ref f,[.ref x]) s):
  wpAny (model prog w) A (getMethod (.ref x) name pl) Q E s:=by
 obtain⟨b,J,c⟩:=I.look;exact PySem.W.method_fn X J (ig hg).1 (ig hg).2 hf (beq_iff_eq.mp ht) (by show(l0 name b).map (·.isSome)=pi qu;rw[c,hv];rfl) h
def F8(X:K.In s.heap)(I:ObjM s.heap x dx C mA)(hs:l4 K (.ref C) "__setattr__"=pi (pi (.builtin "object.__setattr__")))(hp:jg K C=qt)(ht:PySem.W.takerIn K C name=pi qr)(hh:jf K C=qt)(hw:nu mA ns)(hsz:ns.length<=sizeLine)(h: ∀h',ObjM h' x dx C (λy=>if y=name then pi v else mA y)->n5 dx s.heap h'->Q () {s with heap:=h',toks:=s.toks+2}):
  wpAny (model prog w) A (setAttr (.ref x) name v) Q E s:=by
 obtain⟨t,J,q⟩:=I.look;refine PySem.W.set_plain X J hs (PySem.W.osa_open (s:={s with toks:=s.toks+1}) (r:=qr) X J hp ht λb=>?_);obtain⟨p,j,e⟩:=PySem.W.any_some hh;have l:s.heap.get? x=pi ⟨.ref C,pi dx,.plain, #[]⟩:=I.obj;refine aa (ac (aa (aa (wpAny_loadPart l (aa (PySem.W.Looks.here (s:={s with toks:=s.toks+1}) (PySem.W.looks_clsIn X j) ?_))))));rw[e];refine ac (a:=pi dx) (aa (ac (aa ?_)));refine wpAny_nsSet1 (s:={s with toks:=s.toks+1}) I.ns λh' c d=>?_;obtain⟨o,m,n,f,i,g⟩:=c.count (nu.cons name v hw);refine aa (wpAny_lookBehind f (by rw[i];exact pastItsLine_dict (ny g (by rw[bq];lia))) ?_);exact ac (h _ ⟨(d.2 _ (qq I.ne)).trans I.obj,c,I.ne⟩ d)
def CD(X:K.In s.heap)(hm:PySem.W.makesIn K C=qt)(hi:l4 K (.ref C) "__init__"=pi (pi (.ref f)))(hf:PySem.W.typeIn K (.ref f)=pi (.type "function"))(h:codeAny (model prog w) (A.under (.builtin "type.__call__" ⟨.ref C::vs,kw⟩)) (.call (.ref f) ⟨.ref (s.z+1)::vs,kw⟩) (PySem.W.InitBack (s.z+1) R)
   {s with heap:=(s.heap.push jh).push (ky C s.z)}):
  codeAny (model prog w) A (.call (.ref C) ⟨vs,kw⟩) R s:=by
 obtain⟨c,g,d,t,e⟩:=s;exact PySem.W.make_core (PySem.W.makes_of X hm) (PySem.W.looks_findIn X hi) (λb=>PySem.W.bind_fn X b hf) (.inl rfl) h
end
noncomputable def sQ(f:Str)(v:V):L1 (Str×V)->L1 (Str×V)
 |[]=>[(f,v)]
 |(g,x)::r=>if g=f then(g,v)::r else(g,x)::sQ f v r
theorem lC f g v: ∀fs,(sQ f v fs).lookup g=if g=f then pi v else fs.lookup g
 |[]=>by
  show oz g [(f,v)]=_;by_cases h:g=f;have b:(g==f)=qt:=beq_iff_eq.mpr h;simp only[oz,b,if_pos h];have b:(g==f)=qu:=beq_eq_false_iff_ne.mpr h;simp only[oz,b,if_neg h]
 |(k,x)::r=>by
  have c:=lC f g v r;rw[show sQ f v ((k,x)::r)=(if k=f then(k,v)::r else(k,x)::sQ f v r) from rfl];by_cases hk:k=f;rw[if_pos hk];by_cases h:g=k;have b:(g==k)=qt:=beq_iff_eq.mpr h;simp only[oz,b,if_pos (h.trans hk)];have b:(g==k)=qu:=beq_eq_false_iff_ne.mpr h;simp only[oz,b,if_neg (λe:g=f=>h (e.trans hk.symm))];rw[if_neg hk];by_cases h:g=k;have b:(g==k)=qt:=beq_iff_eq.mpr h;simp only[oz,b,if_neg (λe:g=f=>hk (h.symm.trans e))];have b:(g==k)=qu:=beq_eq_false_iff_ne.mpr h;simp only[oz,b];exact c
theorem lD f v: ∀fs,f∈(sQ f v fs).map (·.1)/\∀g,g∈fs.map (·.1)->g∈(sQ f v fs).map (·.1)
 |[]=>⟨by simp[sQ],λg h=>by simp at h⟩
 |(k,x)::r=>by
  obtain⟨c,b⟩:=lD f v r;rw[show sQ f v ((k,x)::r)=(if k=f then(k,v)::r else(k,x)::sQ f v r) from rfl];by_cases hk:k=f;rw[if_pos hk];subst hk;exact⟨by simp,λg h=>by simpa using h⟩;rw[if_neg hk];refine⟨?_,λg h=>?_⟩;rw[mr];exact gw _ c;rw[mr]at h ⊢;rcases av.mp h with e|e;exact av.mpr (.inl e);exact gw _ (b g e)
theorem lE f v: ∀fs,(sQ f v fs).length<=fs.length+1
 |[]=>by simp[sQ]
 |(k,x)::r=>by
  have b:=lE f v r;rw[show sQ f v ((k,x)::r)=(if k=f then(k,v)::r else(k,x)::sQ f v r) from rfl];by_cases hk:k=f;rw[if_pos hk,bq,bq];lia;rw[if_neg hk,bq,bq];lia
def mP.some_of(r:mP (pi v) o): ∃u,o=pi u/\bH v u:=by rcases o with _|u;exact(show False from r).elim;exact⟨u,rfl,r⟩
def mP.none_of(r:mP qr o):o=qr:=by rcases o with _|u;rfl;exact(show False from r).elim
def zD(r:bH v u):PySem.W.handedIn u=qt:=by rcases v with _|b|i|x|b|b|a|n;cases (show u=pc from r);rfl;cases (show u=pd b from r);rfl;obtain⟨t,e⟩:=(show ∃t,u=qb i t from r);cases e;rfl;obtain⟨t,e⟩:=(show ∃t,u=qc x t from r);cases e;rfl;obtain⟨t,e⟩:=(show ∃t,u=Value.bytes b t from r);cases e;rfl;obtain⟨t,e⟩:=(show ∃t,u=Value.float b t from r);cases e;rfl;cases (show u=qe a from r);rfl;cases (show u=pe n from r);rfl
def sU(hok:HOk P w H h)(e:H a=pi (.ins C dx fs)): ∃mA,ObjM h a dx C mA/\(∀f,mP (fs.lookup f) (mA f))/\nu mA (fs.map (·.1))/\fs.length<=1000/\H dx=pi (.own a):=by obtain⟨d,z,b,c,mA,n,r,q⟩:=(show ObjOk P w H h a (.ins C dx fs) from hok a _ e);exact⟨mA,⟨c,n,b⟩,r,q,z,d⟩
structure Cls(K:nq)(C:Addr):Prop where
 pg:jz K C qf=qt
 hd:jf K C=qt
 po:jg K C=qt
 sa:l4 K (.ref C) "__setattr__"=pi (pi (.builtin "object.__setattr__"))
def Cls.get{K}(c:Cls K C)f:jz K C f=qt:=c.pg
def iG(K:nq)(C:Addr)(f:Str):Prop:=l4 K (.ref C) f=pi qr
def iG.taker{K}(n:iG K C f):PySem.W.takerIn K C f=pi qr:=by unfold PySem.W.takerIn;rw[show l4 K (.ref C) f=pi qr from n];rfl
structure Meth(K:nq)(C:Addr)(m:Str)(f:Addr):Prop where
 at_:l4 K (.ref C) m=pi (pi (.ref f))
 fn:og K (.ref f)=qt
 kp:l7 K (.ref f)=qt
section
variable{σ:St}{E:cf}
def xV{Q:cf}(I:Inv X ce σ H s)(e:H a=pi (.ins C dx fs))(c:Cls X.K C)(n:iG X.K C f)(l:fs.lookup f=pi v)(h: ∀u s',Inv X ce σ H s'->bH v u->Q u s'):wpAny (model X.prog X.w) A (getAttr (.ref a) f b) Q E s:=by obtain⟨g,O,r,_,_,_⟩:=sU I.hok e;obtain⟨u,i,d⟩:=mP.some_of (v:=v) (o:=g f) (by rw[<-l];exact r f);exact F7 I.kIn O (c.get f) c.hd n i (zD d) (h u _ (I.tok _) d)
def mX(I:Inv X ce σ H s)(e:H a=pi (.ins C dx fs))(c:Cls X.K C)(k:Meth X.K C m g)(l:fs.lookup m=qr)(h:Q (.ref g,[.ref a]) s):wpAny (model X.prog X.w) A (getMethod (.ref a) m pl) Q E s:=by obtain⟨b,O,r,_,_,_⟩:=sU I.hok e;have d:b m=qr:=mP.none_of (by rw[<-l];exact r m);exact CC I.kIn O (c.get m) k.at_ k.fn d h
def xW(I:Inv X ce σ H s)(e:H a=pi (.ins C dx fs))(c:Cls X.K C)(n:iG X.K C f)(hl:fs.length<1000)(ry:bH y u)(h: ∀s',Inv X ce σ (upd H a (.ins C dx (sQ f y fs))) s'->Q () s'):wpAny (model X.prog X.w) A (setAttr (.ref a) f u) Q E s:=by
 obtain⟨j,O,r,l,_,i⟩:=sU I.hok e;have p:(fs.map (·.1)).length<=sizeLine:=by rw[aq,sizeLine_eq];lia
 refine F8 I.kIn O c.sa c.po n.taker c.hd l p λt d B=>h _ ?_;have hd: ∃o,t.get? dx=pi o:=let ⟨o,_,_,e',_⟩:=d.ns;⟨o,e'⟩;refine I.write (x:=a) (e:=dx) (by rw[e];exact pf) (.inr i) (λb q m z=>(B.2 b m).trans z) hd ?_;refine⟨by rw[aD O.ne];exact i,?_,O.ne,d.obj,_,d.ns,λg=>?_,λg v=>?_⟩
 .have:=lE f y fs;lia
 .show mP ((sQ f y fs).lookup g) (if g=f then pi u else j g);rw[lC];by_cases q:g=f
  .rw[if_pos q,if_pos q];exact ry
  .rw[if_neg q,if_neg q];exact r g
 .by_cases q:g=f
  .rw[q];exact(lD f y fs).1
  .refine(lD f y fs).2 g (l g λz=>v ?_);show(if g=f then pi u else j g)=qr;rw[if_neg q];exact z
def Inv.made(I:Inv X ce σ H s):Inv X ce σ (upd (upd H s.z (.own (s.z+1))) (s.z+1) (.ins C s.z []))
  {s with heap:=(s.heap.push jh).push (ky C s.z)}:=by
 have d:(s.heap.push jh).get? s.z=pi jh:=af s.heap rfl;have h:((s.heap.push jh).push (ky C s.z)).get? (s.z+1)=pi (ky C s.z):=by
  have:=af (s.heap.push jh) (o:=ky C s.z) rfl;rwa [ai]at this
 have g:(s.heap.push jh).Ns s.z (λ_=>qr):=⟨jh, #[],_,d,rfl,(λe f=>absurd f (by simp)),λ_=>rfl⟩;have i:=I.laid (a:=s.z) (o:=.own (s.z+1)) (h':=s.heap.push jh) (t':=s.toks) (λb u q=>ae _ q) (aj _) ⟨_,d⟩;refine i.laid (a:=s.z+1) (o:=.ins C s.z []) (t':=s.toks) (λb u q=>ae _ q) (Nat.le_of_eq (ai _ _)) ?_;have c:s.z≠s.z+1:=bh (j3 _);refine⟨by rw[aD c,aH],bu _,c,h,λ_=>qr,(Heap.Ns1.of_empty g).at λo q=>ae _ q,λ_=>pf,λy j=>absurd rfl j⟩
def F9{Q:cf}(hb:attributeBase e f env (eval e env)=eval e env)(h:wpAny (model prog w) A (eval e env) (λo s₁=>wpAny (model prog w) A (getAttr o f qt) Q E s₁) E s):wpAny (model prog w) A (eval (.Attribute e f pos) env) Q E s:=
 Attribute_any_ h (by rw[arm_eval_Attribute,hb])
end
def Nw(K:nq)(ta:TE)(f:Str):TE:=λσ H Q=>ta σ H λx H1=>∃a C dx fs v,x= .ref a/\H1 a=pi (.ins C dx fs)/\Cls K C/\iG K C f/\fs.lookup f=pi v/\Q v H1
def QB(K:nq)(ta tv:TE)(f:Str):TS:=λD σ H=>tv σ H λy H1=>ta σ H1 λx H2=>∃a C dx fs,x= .ref a/\H2 a=pi (.ins C dx fs)/\Cls K C/\iG K C f/\fs.length<1000/\
 D.nx σ (upd H2 a (.ins C dx (sQ f y fs)))
def iW(he:PE X e ta)(hb:attributeBase e f X.env (eval e X.env)=eval e X.env):PE X (.Attribute e f pos) (Nw X.K ta f):=by intro i s o H Q I h;refine F9 hb (thn (he i s o H _ I h) λu y b=>?_);obtain⟨x,m,d,g,a,C,w,fs,v,ex,r,c,n,l,q⟩:=b;subst ex;obtain rfl:u=qe a:=g;exact xV d r c n l λz t p j=>⟨v,m,p,j,q⟩
def vD(ha:PE X o ta)(hv:PE X value tv)(hs:swapsWith value (pi (.Attribute o f pos')) pos.line X.env=pure qu):PS X (.Assign [.Attribute o f pos'] value pos) (QB X.K ta tv f):=by intro d s b H D I h;refine plainObj_wpAny_Assign_Attribute (thn (hv d s b H _ I h) λu t ⟨y,i,e,m,q⟩=>thn (ha d t b i _ e q) λr z ⟨x,E,p,g,a,C,A,fs,ex,v,c,n,l,j⟩=>?_) hs;subst ex;obtain rfl:r=qe a:=g;exact xW p v c n l m λB w=>⟨b,_,w,j⟩
structure Room(k:Nat)(A:Around):Prop where
 hd:A.handled=qr
 dp:A.depth+3*k+5<recursionLimit
 un:A.units+16*k+200<cLine
def Room.mono(r:Room k A)(h:j<=k):Room j A:=⟨r.hd,by have:=r.dp;lia,by have:=r.un;lia⟩
theorem Room.deeper(r:Room (k+1) A)env:Room k (A.deeper env):=
 ⟨r.hd,by have:=r.dp;show A.depth+1+3*k+5<_;lia,by have:=r.un;show A.units+3+16*k+200<_;lia⟩
def xX{A:Around}:(A.under (.builtin "type.__call__" ⟨.ref C::us,kw⟩)).depth=A.depth+1:=by first|rfl|simp[Around.under,Code.weight,Code.isCreation,Code.isGuard,Code.isCaller,Code.frames,Code.isFrame,guardIds]
def xY{A:Around}:(A.under (.builtin "type.__call__" ⟨.ref C::us,kw⟩)).units=A.units+1:=by first|rfl|simp[Around.under,Code.cUnits,Code.frames,Code.isFrame]
def Room.make(r:Room (k+1) A)C us kw:Room k (A.under (.builtin "type.__call__" ⟨.ref C::us,kw⟩)):=
 ⟨r.hd,by have:=r.dp;rw[xX];lia,by have:=r.un;rw[xY];lia⟩
theorem Room.depth(r:Room k A):A.depth<recursionLimit:=by have:=r.dp;lia
theorem Room.units(r:Room k A):A.units+64<cLine:=by have:=r.un;lia
def JC:TA:=λ_ H Q=>Q [] H
def sV(ta:TE)(tr:TA):TA:=λσ H Q=>ta σ H λx H1=>tr σ H1 λxs H2=>Q (x::xs) H2
section
variable{X:Cx}{e:Expr}{es:L1 Expr}{te:TE}{t:TA}
def dR:PA X [] JC:=λ_ _ _ _ H Q I h=>ji ⟨[],H,I,.nil,h⟩
def cG(ha:PE X e te)(hr:PA X es t)(hs:starEach (e::es) X.env=(qu,eval e X.env)::starEach es X.env:=by rfl):PA X (e::es) (sV te t):=by intro b g s f H Q I h;rw[hs];show wpAny _ _ (spliced ((qu,eval e X.env)::backTo b (starEach es X.env))) _ _ s;refine ix (thn (ha g s f H _ I h) λu o d=>?_);obtain⟨x,m,j,r,q1⟩:=d;exact thn (hr b g o f m _ j q1) λw v c=>by obtain⟨q,p,n,i,l⟩:=c;exact⟨x::q,p,n,.cons r i,l⟩
def QC(t:TA):TE:=λσ H Q=>t σ H λxs H1=>xs.length<=sizeLine/\∀p,H1 p=qr->Q (.ref p) (upd H1 p (.tup xs))
def QD(t:TA):TE:=λσ H Q=>t σ H λxs H1=>xs.length<=sizeLine/\∀p,H1 p=qr->Q (.ref p) (upd H1 p (.lst xs))
def Kr(h:PA X es t):PE X (.Tuple es x1 pos) (QC t):=by intro l s j H Q I m;refine wpAny_Tuple_spliced (thn (h pos l s j H _ I m) λg c ⟨n,f,d,r,z,q⟩=>⟨by rw[<-r.length];exact z,?_⟩);have i:f c.z=qr:=d.hok.fresh (aj _);refine⟨.ref c.z,upd f c.z (.tup n),d.laid (t':=c.toks) (λb u e=>ae _ e) (aj _) ?_,rfl,q _ i⟩;exact⟨z,g,r,⟨_,af _ rfl,rfl,_,rfl⟩,⟨_,af _ rfl,rfl⟩⟩
def vE(h:PA X es t):PE X (.List es pos) (QD t):=by intro l s j H Q I m;refine wpAny_List_spliced (thn (h pos l s j H _ I m) λg c ⟨n,f,d,r,z,q⟩=>⟨by rw[<-r.length];exact z,?_⟩);have i:f c.z=qr:=d.hok.fresh (aj _);refine⟨.ref c.z,upd f c.z (.lst n),d.laid (t':=c.toks) (λb u e=>ae _ e) (aj _) ?_,rfl,q _ i⟩;exact⟨z,g,0,r,af _ rfl⟩
end
abbrev Sp:=L1 V->Hp->VK->XK->Prop
abbrev CXT:=L1 Env->Hp->Shared->XK->Value->Shared->Prop
structure Env0(P:Program)(w:World)(K:nq)(mg:Str->Option Value)(base:Heap)(A:Around)(outer:List Env)(s:Shared)(H:Hp):Prop where
 frames:A.frames=pi outer
 mod:Mod K mg base
 bs: ∀b o,base.get? b=pi o->s.heap.get? b=pi o/\H b=qr
 bsz:base.objs.size<=s.z
 funs:s.heap.FunFrames base outer
 frf: ∀b∈frs outer,H b=qr
 hok:HOk P w H s.heap
 bare:AllBare s.gens
def CE(outer:L1 Env)(P:Program)(w:World)(H:Hp)(s:Shared)(Q:VK)(u:Value)(s':Shared):Prop:=
 ∃v H',s'.os=s.os/\AllBare s'.gens/\Un (frs outer) [] H H' s.heap s'.heap/\HOk P w H' s'.heap/\bH v u/\Q v H'
def CR(CX:CXT)(outer:L1 Env)(P:Program)(w:World)(H:Hp)(s:Shared)(Q:VK)(E:XK)(r:Result)(s':Shared):Prop:=
 match r with
 |.ok (.ret u)=>CE outer P w H s Q u s'
 |.ok _=>False
 |.error e=>CX outer H s E e s'
structure FnOk(P:Program)(w:World)(K:nq)(mg:Str->Option Value)(base:Heap)(CX:CXT)(k:Nat)(f:Addr)(fd:FuncData)(ps:List Str)(sp:Sp):Prop where
 len: ∀vs H Q E,sp vs H Q E->vs.length=ps.length
 run: ∀(A:Around) (outer:List Env) (s:Shared) (H:Hp) (args:Args) (us:List Value) (vs:List V) (Q:VK) (E:XK),Room k A->Env0 P w K mg base A outer s H->BindsTo s fd args (ps.zip us)->bW vs us->sp vs H Q E->
  codeAny (model P w) A (.call (.ref f) args) (CR CX outer P w H s Q E) s
def Env0.make{K}(e:Env0 P w K mg base A outer s H)C us kw:
  Env0 P w K mg base (A.under (.builtin "type.__call__" ⟨.ref C::us,kw⟩)) outer s H:=⟨by first|exact e.frames|(simpa[Around.under,Code.envs,Code.isFrame,pushEnvs]using e.frames),e.mod,e.bs,e.bsz,e.funs,e.frf,e.hok,e.bare⟩
section
variable{σ:St}
def Inv.env0(I:Inv X ce σ H s):Env0 X.prog X.w X.K X.mg X.base X.A X.stack s H:=
 ⟨I.ok.frames,I.ok.mod,I.bs,ny I.ok.bsz I.sz,I.stack,I.stkFree,I.hok,I.bare⟩
def Inv.after(I:Inv X ce σ H s)(h:CE X.stack X.prog X.w H s Q u s'):EP X ce σ Q u s':=by obtain⟨v,i,os,c,un,e,r,q⟩:=h;obtain⟨j,g,d,t,f⟩:=s';obtain rfl:f=s.os:=os;exact⟨v,i,I.call (h':=j) (g':=g) (d':=d) (t':=t) (ch:=[]) un e c (λb z=>absurd z (by simp)),r,q⟩
end
def N8(C:Addr)(sp:Sp)(dvs:L1 V)(E:XK)(t:TA):TE:=λσ H Q=>t σ H λvs H1=>∀x dx,H1 x=qr->H1 dx=qr->dx≠x->
 sp (.ref x::(vs++dvs)) (upd (upd H1 dx (.own x)) x (.ins C dx [])) (λv H2=>v= .non/\Q (.ref x) H2) E
def eE(K:nq)(fd:FuncData)(ps:L1 Str)(ds:L1 Value):Prop:=
 ∀(s:Shared) (us:L1 Value),K.In s.heap->(us++ds).length=ps.length->BindsTo s fd ⟨us,[]⟩ (ps.zip (us++ds))
def eE.all{K}(h: ∀us,us.length=ps.length->bindArgs fd ⟨us,[]⟩=pure (ps.zip us)):eE K fd ps []:=λs us _ b=>by
 rw[k7]at b ⊢;exact .of_eq (h us b)
def EC(CX:CXT)(X:Cx)(E:XK):Prop:= ∀(ce:cg) (σ:St) (H:Hp) (s:Shared) (e:Value) (s':Shared),Inv X ce σ H s->CX X.stack H s E e s'->X.xe e s'
section
variable{X:Cx}{CX:CXT}{k:Nat}{f C:Addr}{fd:FuncData}{ps:L1 Str}{sp:Sp}{dvs:L1 V}{ds:L1 Value}{E:XK}{x:Str}{p pos:Pos}
structure Mk(K:nq)(C f:Addr):Prop where
 makes:PySem.W.makesIn K C=qt
 init:l4 K (.ref C) "__init__"=pi (pi (.ref f))
 fn:og K (.ref f)=qt
 kp:l7 K (.ref C)=qt
def CF{ce}{σ:St}{H}{s}{Q}{us}{vs}(M:Mk X.K C f)(F:FnOk X.prog X.w X.K X.mg X.base CX k f fd ps sp)(hr:Room (k+1) X.A)(hb:eE X.K fd ps ds)(hd:bW dvs ds)(hx:EC CX X E)(I:Inv X ce σ H s)(r:bW vs us)(h: ∀x dx,H x=qr->H dx=qr->dx≠x->sp (.ref x::(vs++dvs)) (upd (upd H dx (.own x)) x (.ins C dx [])) (λv H2=>v= .non/\Q (.ref x) H2) E):
  X.wp (call (.ref C) us) (EP X ce σ Q) X.xe s:=by
 have g:=h (s.z+1) s.z (I.hok.fresh (o3 _)) (I.hok.fresh (aj _)) (bh (j3 _));have c:=Inv.made (C:=C) I;have d:bW (V.ref (s.z+1)::(vs++dvs)) (qe (s.z+1)::(us++ds)):=.cons rfl (r.append hd);have j:(qe (s.z+1)::us++ds).length=ps.length:=by
  have e:=d.length;rw[F.len _ _ _ _ g]at e;exact e.symm
 refine wpAny_call (CD (f:=f) I.kIn M.makes M.init (beq_iff_eq.mp M.fn) (codeAny_mono (F.run _ X.stack _ _ ⟨qe (s.z+1)::us,[]⟩ (qe (s.z+1)::(us++ds)) _ _ E (hr.make C us [])
  (c.env0.make C us []) (hb _ (qe (s.z+1)::us) c.kIn j) d g) λr p b=>?_))
 rcases r with e|l;exact hx ce σ _ _ e p c b;cases l with
 |ret u=>
  obtain⟨v,i,o,m,ev,n⟩:=c.after b;subst ev;exact⟨m,⟨V.ref (s.z+1),i,o,rfl,n⟩⟩
 |next=>exact ba b
 |brk=>exact ba b
 |cont=>exact ba b
def CG(M:Mk X.K C f)(F:FnOk X.prog X.w X.K X.mg X.base CX k f fd ps sp)(hr:Room (k+1) X.A)(hg:Gl X x)(hm:X.mg x=pi (.ref C))(hb:eE X.K fd ps ds)(hd:bW dvs ds)(hx:EC CX X E)
  (hdb:(x==gV)=qu:=by decide):PE X (.Call (.Name x p) [] [] pos) (N8 C sp dvs E JC):=by
 intro c s b H Q I h;refine wpAny_Call_Name_kw (eJ I hg hm ?_ hdb);exact PySem.W.callWith_K0 I.kIn M.kp (CF (us:=[]) M F hr hb hd hx I .nil h)
end
structure FnScope(N P:List Str)(sc:Scope):Prop where
 kind:sc.kind= .function
 co:sc.isCoroutine=qu
 gen:sc.isGenerator=qu
 nd:N.Nodup
 pre:N.take P.length=P
 par: ∀x∈P,sc.names.lookup x=pi .local\/sc.names.lookup x=pi .cell
 nofree: ∀y∈sc.names,y.2≠ .free
theorem pX{kindOf}{x}: ∀{binds} {m},(∀v,(x,v)∉binds)->bindL kindOf binds m x=m x
 |[],_,_=>rfl
 |(n,v)::r,m,h=>by
  unfold bindL;rw[pX λw b=>h w (gw _ b)];split;have:x≠n:=by rintro rfl;exact h v iu
  simp[this];rfl
theorem pY{kindOf}{x}: ∀{binds} {m},(∀v,(x,v)∉binds)->bindC kindOf binds m x=m x
 |[],_,_=>rfl
 |(n,v)::r,m,h=>by
  unfold bindC;rw[pY λw b=>h w (gw _ b)];split;rfl;have:x≠n:=by rintro rfl;exact h v iu
  simp[this]
theorem pZ{kindOf}{x}{v}: ∀{P:L1 Str} {vs} {i:Nat} {m},P.Nodup->P[i]? =pi x->vs[i]? =pi v->kindOf x=pi .local->
  bindL kindOf (P.zip vs) m x=pi v
 |[],_,_,_,_,h,_,_=>by simp at h
 |_::_,[],_,_,_,_,h,_=>by simp at h
 |p::P,w::vs,0,m,nd,h1,h2,hk=>by
  simp at h1 h2;subst h1;subst h2;show bindL kindOf ((p,w)::P.zip vs) m p=_;unfold bindL;rw[pX λv b=>(la.mp nd).1 (lf b).1,if_pos hk];simp
 |p::P,w::vs,i+1,m,nd,h1,h2,hk=>by
  show bindL kindOf ((p,w)::P.zip vs) m x=_;unfold bindL;exact pZ (i:=i) (la.mp nd).2 (by simpa using h1) (by simpa using h2) hk
theorem p5{kindOf}{x}{v}: ∀{P:L1 Str} {vs} {i:Nat} {m},P.Nodup->P[i]? =pi x->vs[i]? =pi v->kindOf x≠pi .local->
  bindC kindOf (P.zip vs) m x=pi v
 |[],_,_,_,_,h,_,_=>by simp at h
 |_::_,[],_,_,_,_,h,_=>by simp at h
 |p::P,w::vs,0,m,nd,h1,h2,hk=>by
  simp at h1 h2;subst h1;subst h2;show bindC kindOf ((p,w)::P.zip vs) m p=_;unfold bindC;rw[pY λv b=>(la.mp nd).1 (lf b).1,if_neg hk];simp
 |p::P,w::vs,i+1,m,nd,h1,h2,hk=>by
  show bindC kindOf ((p,w)::P.zip vs) m x=_;unfold bindC;exact p5 (i:=i) (la.mp nd).2 (by simpa using h1) (by simpa using h2) hk
noncomputable def start(N:L1 Str)(vs:L1 V):St:=vs.map pi++ao (N.length-vs.length) qr
noncomputable def jN(CX:CXT)(P:Program)(w:World)(K:nq)(mg:Str->L7 Value)(base:Heap)(N:L1 Str)(qual:Str)(scope:Scope)(f:Addr)(cd:Value)(A:Around)(outer:L1 Env)(s:Shared)(H:Hp)(E:XK):Cx where
 prog:=P;w:=w;K:=K;mg:=mg;base:=base;A:=A.deeper (envOfC qual scope s.z f cd);N:=N;s₀:=s;H₀:=H;env:=envOfC qual scope s.z f cd;outer:=outer;stack:=envOfC qual scope s.z f cd::outer;ex:=[];calm:=qt;fn:=λ_=>qt;pn:=[];xe:=λe s'=>wpAny (model P w) (A.deeper (envOfC qual scope s.z f cd)) (leaving (envOfC qual scope s.z f cd) e) (λ_ s''=>CX outer H s E e s'') (λe' s''=>CX outer H s E e' s'') s'
def vF{sc:Scope}(h:sc.names.lookup x=pi .cell): ∃c,(cellsFrom n sc.names []).lookup x=pi c:=by have q:=fj sc.names n [] (.inl h);exact ef.mp q
def gG{K}(S:FnScope N ps scope)(hd:A.handled=qr)(e0:Env0 P w K mg base A outer s H)(hl:vs.length=ps.length)(r:bW vs us)(x:InCallC s s.z (bindL (envOfC qual scope s.z f cd).kindOf (ps.zip us) λ_=>qr) (cellsFrom (s.z+1) scope.names []) (bindC (envOfC qual scope s.z f cd).kindOf (ps.zip us) λ_=>qr) s1):
  Inv (jN CX P w K mg base N qual scope f cd A outer s H E) [] (start N vs) H s1:=by
 have B:ps.length<=N.length:=by have:=congrArg o6 S.pre;rw[kc]at this;lia
 obtain⟨o,J,rfl,hk⟩:=x.done;have j: ∀b:Addr,b∉(jN CX P w K mg base N qual scope f cd A outer s H E).ex:=λb z=>absurd (show b∈([]:L1 Addr) from z) (by simp);refine⟨⟨e0.mod,S.kind,rfl,rfl,aj _,λy z c o d=>?_,λy g=>?_,λy c _ h=>?_,λ_=>hd,Around.frames_deeper e0.frames,.inr ⟨rfl,rfl⟩,λb z=>absurd z (j b),e0.bs,e0.bsz,λb _ _=>j b,λb z=>absurd z (j b),e0.funs,e0.frf⟩,
  rfl,e0.bare,Un.kept hk,⟨_,x.toInCall.ns,λi y v o d I=>?_⟩,λy c h=>⟨_,x.cell y c h⟩,e0.hok.fresh (aj _),λy c h=>?_,λp l=>absurd (show p∈([]:cg) from l) (by simp),e0.hok.kept hk,?_⟩
 exact name_of_addr x.apart (ii o) (ii d);have g:scope.names.lookup y=pi .cell\/scope.names.lookup y=pi .free:=g;rcases g with g|g;exact vF g;exact absurd rfl (S.nofree _ (ii g));exact nz (x.above y c (ii h));have hi:i<vs.length:=by
  unfold start at d;by_cases hi:i<vs.length;exact hi;rw[bn (by simpa using hi)]at d;rw[eo]at d;split at d<;>cases d
 have C:vs[i]? =pi v:=by
  unfold start at d;rw[bx (by simpa using hi),jj]at d;rcases e:vs[i]? with _|a;rw[e]at d;cases d;rw[e]at d;cases d;rfl
 obtain⟨u,t,G⟩:=r.get C;have l:ps[i]? =pi y:=by
  rw[<-S.pre,List.getElem?_take_of_lt (by lia)];exact o
 have m:ps.Nodup:=by rw[<-S.pre];exact S.nd.sublist (List.take_sublist _ _)
 refine⟨u,G,?_⟩;rcases S.par y (List.mem_of_getElem? l)with k|k;exact .inl ⟨k,pZ m l t k⟩;obtain⟨c,e⟩:=vF (n:=s.z+1) k;refine .inr ⟨.inl k,c,e,?_⟩;have q:=x.cell y c e;rw[p5 m l t (by show scope.names.lookup y≠_;rw[k];decide)]at q;exact q;exact e0.hok.fresh (nz (x.above y c (ii h)));unfold start;show _=N.length;rw[bo,aq,gf];lia
def CH{K}{dV kV doc pm cdv ct oc}(lk:K.lookup f=pi ⟨oc,od,.func (oj name qual params body scope dV kV doc pm an cdv ct),osl⟩)(hcd:md K cdv qual=qt)(S:FnScope N ps scope)(len: ∀vs H Q E,sp vs H Q E->vs.length=ps.length)(hbody: ∀A outer s H vs Q E,Room k (A.deeper (envOfC qual scope s.z f cdv))->sp vs H Q E->
   ∃t,PSs (jN CX P w K mg base N qual scope f cdv A outer s H E) body t/\t {nx:=λ_ H'=>Q .non H',rt:=Q} (start N vs) H):
  FnOk P w K mg base CX (k+1) f (oj name qual params body scope dV kV doc pm an cdv ct) ps sp:=by
 refine⟨len,λA outer s H args C vs Q E m h O r j=>?_⟩;have U:=len _ _ _ _ j;have z:K.In s.heap:=h.mod.kin.keeps λb o e=>(h.bs b o e).1;have lim:s.heap.NoLimit:=h.mod.nolimit.keeps λb o e=>(h.bs b o e).1;have d: ∀y∈ps.zip C,scope.names.lookup y.1=pi .local\/(scope.names.lookup y.1=pi .cell/\((cellsFrom (s.z+1) scope.names []).lookup y.1).isSome=qt):=λ⟨n,v⟩ G=>by
  rcases S.par n (lf G).1 with q|q;exact .inl q;exact .inr ⟨q,fj _ _ _ (.inl q)⟩
 refine codeAny_call_function m.depth (z _ _ lk) rfl S.co S.gen rfl (iy z hcd) (O _ _ _ _ ?_);refine wpAny_newFunctionEnv_cells S.kind d λM X B x=>?_;subst X;refine⟨lim.keeps x.toInCall.keep,codeAny_func ?_⟩;obtain⟨t,T,Y⟩:=hbody A outer s H vs Q E (m.deeper _) j;have I:Inv (jN CX P w K mg base N qual scope f cdv A outer s H E) [] (start N vs) H B:=gG S m.hd h U r x;refine wpAny_mono (T [] B (start N vs) H _ I Y) (λL l g=>?_) λe l g=>g;have i: ∀{c:St} {H':Hp} {v:V} {u:Value},Inv (jN CX P w K mg base N qual scope f cdv A outer s H E) [] c H' l->bH v u->Q v H'->CE outer P w H s Q u l:=
  λ{c H' v u} J p q=>⟨v,H',J.os,J.bare,J.base,J.hok,p,q⟩
 cases L with
 |ret u=>
  obtain⟨v,c,H',J,p,q⟩:=g;exact i J p q
 |next=>
  obtain⟨c,H',J,q⟩:=g;exact i (v:=V.non) (u:=pc) J rfl q
 |brk=>
  obtain⟨_,_,_,q⟩:=g;exact ba q
 |cont=>
  obtain⟨_,_,_,q⟩:=g;exact ba q
section
variable{X:Cx}{x:Str}{p pos:Pos}{e:Expr}{es:L1 Expr}{t:TA}{id:String}{r:L1 V->Hp->VK->Prop}
def tCB(r:L1 V->Hp->VK->Prop)(t:TA):TE:=λσ H Q=>t σ H λvs H1=>r vs H1 Q
def vG(hc:lA X (.builtin id) r)(hg:Gl X x)(hm:X.mg x=qr)(hv:bootBuiltins x=pi (.builtin id))(ha:PA X (e::es) t)(hn:x≠"__name__":=by decide)(hdb:(x==gV)=qu:=by decide)
  (he:starEach (e::es) X.env=(qu,eval e X.env)::starEach es X.env:=by rfl) (hpl:(backTo pos (starEach es X.env)).any (·.1)=qu:=by rfl):PE X (.Call (.Name x p) (e::es) [] pos) (tCB r t):=by
 intro d s c H Q I h;refine wpAny_Call_Name_kw (gE I hg hm hv ?_ hn hdb);exact dt (thn (ha pos d s c H _ I h) λj f b=>by obtain⟨i,m,g,l,q1⟩:=b;exact hc d f c m i j Q g l q1) he hpl
end
end L2
namespace HT
open PySem PyProof.Rows
section
open PySem.SeqAt
open PySem.AutoSeq1 (wpAny_loadPart')
open PySem.MeetsSeq PySem.MeetsSeq2 PySem.MeetsSeq3
end
noncomputable def sIx(n d:Nat):L7 Int->Nat
 |none=>d
 |some v=>if v<0 then(v+(n:Int)).toNat else min v.toNat n
end HT
namespace L2
open PySem PySem.Spec PyProof.Rows
abbrev TO:=St->Hp->(L7 Int->Hp->Prop)->Prop
section
variable{X:Cx}{lo hi:L7 Expr}
def SlR(X:Cx)(r:V->L7 Int->L7 Int->Hp->VK->Prop):Prop:=
 ∀(ce:cg) (s:Shared) (σ:St) (H:Hp) (x:V) (v vl vu:Value) (lo hi:L7 Int) (sl:Addr) (Q:VK),Inv X ce σ H s->bH x v->s.heap.IsSliceOf sl vl vu .none->IsPart vl lo->IsPart vu hi->r x lo hi H Q->
  ∃T id,typeLookup (.type T) "__getitem__"=pure (pi (.builtin id))/\s.TypeIs v T/\X.wp (getItem v (.ref sl)) (EP X ce σ Q) X.xe s
def Gb(xs:L1 V)(lo hi:L7 Int):L1 V:=(xs.drop (HT.sIx xs.length 0 lo)).take (HT.sIx xs.length xs.length hi-HT.sIx xs.length 0 lo)
def sW xs lo hi:(Gb xs lo hi).length<=xs.length:=by unfold Gb;rw[kc,List.length_drop];lia
end
noncomputable def ixN(n:Nat)(i:Int):L7 Nat:=if 0<=i then(if i<n then pi i.toNat else qr)else if -(n:Int)<=i then pi (i+n).toNat else qr
def atI{α:Type}(xs:L1 α)(i:Int):L7 α:=(ixN xs.length i).bind λj=>xs[j]?
def zE(h:ixN n i=pi j):seqIndex? i n=pi j/\j<n/\ -(n:Int)<=i/\i<n:=by unfold ixN at h;by_cases c:0<=i;rw[if_pos c]at h;by_cases b:i<n;rw[if_pos b]at h;have e:i.toNat=j:=ku h;exact⟨by rw[seqIndex_of c b,e],by lia,by lia,b⟩;rw[if_neg b]at h;cases h;rw[if_neg c]at h;by_cases b: -(n:Int)<=i;rw[if_pos b]at h;have e:(i+n).toNat=j:=ku h;exact⟨by rw[seqIndex_neg (by lia) b,e],by lia,b,by lia⟩;rw[if_neg b]at h;cases h
def sX{xs}{v:α}(h:atI xs i=pi v): ∃j,seqIndex? i xs.length=pi j/\xs[j]? =pi v/\j<xs.length/\ -(xs.length:Int)<=i/\i<xs.length:=by unfold atI at h;rcases e:ixN xs.length i with _|j;rw[e]at h;cases h;rw[e]at h;obtain⟨d,f,c,b⟩:=zE e;exact⟨j,d,h,f,c,b⟩
def zF(b:Expr):Prop:= ∀o i,subscripted b qu o i=operate [o,i] (getItem o i)
def IxR(X:Cx)(r:R2):Prop:=
 ∀(value slice:Expr) (ce:cg) (s:Shared) (σ:St) (H:Hp) (x y:V) (v u:Value) (Q:VK),Inv X ce σ H s->bH x v->bH y u->r x y H Q->
  subscripted slice qu v u=operate [v,u] (getItem v u)->X.wp (subscriptTail value slice v u) (EP X ce σ Q) X.xe s
def MtR(X:Cx)(id:String)(r:V->L1 V->Hp->VK->Prop):Prop:=
 ∀(ce:cg) (s:Shared) (σ:St) (H:Hp) (x:V) (xs:L1 V) (v:Value) (us:L1 Value) (Q:VK),Inv X ce σ H s->bH x v->bW xs us->r x xs H Q->
  X.wp (call (.builtin id) (v::us)) (EP X ce σ Q) X.xe s
section
variable{X:Cx}{a b o e:Expr}{es:L1 Expr}{to:TE}{t:TA}{name:Str}{apos cpos:Pos}{T id:String}{r:V->L1 V->Hp->VK->Prop}
def PV(K:nq):R2:=λx y H Q=>∃p xs i v,x= .ref p/\y= .int i/\SqL K H p xs/\atI xs i=pi v/\Q v H
def PX(K:nq):R2:=λx y H Q=>∃p xs i v,x= .ref p/\y= .int i/\SqT K H p xs/\atI xs i=pi v/\Q v H
def PY:R2:=λx y H Q=>∃z i c,x= .str z/\y= .int i/\z.length<=sizeLine/\atI z.cps.toList i=pi c/\Q (.str ⟨#[c]⟩) H
def Gc:IxR X (PV X.K):=by
 intro d m C s n H x y v u Q I E S h B;obtain⟨p,Z,i,z,rfl,rfl,T,O,q⟩:=h;cases E;obtain⟨t,rfl⟩:=S;obtain⟨l,r,e,U⟩:=I.list T;obtain⟨j,c,N,W,L,G⟩:=sX O;obtain⟨w,o,f⟩:=r.get N;have M:=r.length;have Y:=mW;have b:EP X C n Q w s:=⟨z,H,I,f,q⟩;by_cases A:0<=i;have g:i.toNat=j:=by
  rw[seqIndex_of A G]at c;exact ku c
 exact item_listR e.isList A (by lia) (by rw[g];simpa using o) b B;have g:(i+(l.toArray.size:Int)).toNat=j:=by
  rw[seqIndex_neg (by lia) L]at c;rw[ax, <-M];exact ku c
 exact subscriptTail_builtinR (x:=w) e.isList.typeIs slot_list_getitem.lookup
  (wpAny_getItem_list_neg (Q:=λr J=>r=w/\EP X C n Q r J) e.isList (by lia) (by rw[ax]<;>lia) (by lia) (by rw[g];simpa using o) ⟨rfl,b⟩) B
def Ks:IxR X (PX X.K):=by
 intro b e l s g H x y v u Q I m J h L;obtain⟨p,W,i,z,rfl,rfl,M,G,q⟩:=h;cases m;obtain⟨t,rfl⟩:=J;obtain⟨B,r,f,N⟩:=I.tuple M;obtain⟨j,n,E,O,U,S⟩:=sX G;obtain⟨w,o,c⟩:=r.get E;have C:=r.length;have T:=mW;have d:EP X l g Q w s:=⟨z,H,I,c,q⟩;exact subscriptTail_builtinR (x:=w) f.typeIs slot_tuple_getitem.lookup
  (getItem_tuple (j:=j) (Q:=λr A=>r=w/\EP X l g Q r A) f (by lia) (by lia) (by rw[ax, <-C];exact n) (by simpa using o) ⟨rfl,d⟩) L
def iH:IxR X PY:=by
 intro b d K s J H x y v u Q I f w h A;obtain⟨z,i,c,rfl,rfl,B,p,q⟩:=h;obtain⟨t,rfl⟩:=f;obtain⟨C,rfl⟩:=w;obtain⟨j,e,o,E,m,r⟩:=sX p;have n:z.cps.toList.length=z.length:=by simp[ph]
 rw[n]at e m r;have G:=mW;exact tail_any (typeIs_str s z t) slot_str_getitem.lookup (getItem_str (c:=c) (by
  have g:decide (i< -(2^63:Int))=qu:=decide_eq_false (by lia);have l:decide (i≥2^63)=qu:=decide_eq_false (by lia);rw[g,l,Bool.or_false]) (by rw[e];simpa using o) ⟨.str ⟨#[c]⟩,H,I.tok _,⟨_,rfl⟩,q⟩) A
def rIx(K:nq):R2:=λx y H Q=>PV K x y H Q\/PX K x y H Q\/PY x y H Q
def xZ(its:L1 Value)n j u:pj (·.setIfInBounds j u) {cls:=.type "list",data:=.seq its.toArray n}={cls:=.type "list",data:=.seq (its.set j u).toArray n}:=by simp[pj]
theorem Inv.lst{σ:St}(I:Inv X ce σ H s)(h:H p=pi (.lst xs)):
  ∃(its:L1 Value) (n:Nat),bW xs its/\s.heap.get? p=pi {cls:=.type "list",data:=.seq its.toArray n}/\xs.length<=sizeLine:=by
 obtain⟨z,its,n,r,e⟩:=I.hok p _ h;exact⟨its,n,r,e,z⟩
def Inv.lstUpd{σ:St}{its its':L1 Value}(I:Inv X ce σ H s)(h:H p=pi (.lst xs))(ho:s.heap.get? p=pi {cls:=.type "list",data:=.seq its.toArray n})(hf:f {cls:=.type "list",data:=.seq its.toArray n}={cls:=.type "list",data:=.seq its'.toArray n'})(r:bW ys its')(hz:ys.length<=sizeLine)t:
  Inv X ce σ (upd H p (.lst ys)) {s with heap:=s.heap.update p f,toks:=t}:=by
 have e:(s.heap.update p f).get? p=pi {cls:=.type "list",data:=.seq its'.toArray n'}:=by
  rw[gi f ho (by rw[hf]<;>rfl),hf]
 refine I.write (x:=p) (e:=p) (by rw[h];trivial) (.inl rfl) (λb u c q=>(fq _ _ (qq c)).trans q) ⟨_,e⟩ ?_;exact⟨hz,its',n',r,e⟩
def Kt:V->V->V->Hp->(Hp->Prop)->Prop:=λo i v H Q=>∃p xs k j,o= .ref p/\i= .int k/\H p=pi (.lst xs)/\ixN xs.length k=pi j/\Q (upd H p (.lst (xs.set j v)))
def CI:NY X Kt:=by
 intro E s z H o i v L iv u Q I y B C h;obtain⟨p,G,k,j,rfl,rfl,l,A,q⟩:=h;cases y;obtain⟨t,rfl⟩:=B;obtain⟨b,n,r,d,x⟩:=I.lst l;obtain⟨c,K,f,w⟩:=zE A;have e:=r.length;have J:=mW;have g:Inv X E z (upd H p (.lst (G.set j v))) {s with heap:=s.heap.update p (pj (·.setIfInBounds j u))}:=
  I.lstUpd l d (xZ b n j u) (r.set C j) (by rw[lg];exact x) s.toks
 by_cases m:0<=k;have hk:k.toNat=j:=by
  rw[seqIndex_of m w]at c;exact ku c
 exact PySem.W.ki_setAt d m (by lia) (by rw[ax, <-e];exact w) (by rw[hk];exact⟨_,g,q⟩);have hk:(k+(b.toArray.size:Int)).toNat=j:=by
  rw[seqIndex_neg (by lia) f]at c;rw[ax, <-e];exact ku c
 exact PySem.W.ki_setBack d (by lia) (by rw[ax, <-e];exact f) (by lia) (by rw[hk];exact⟨_,g,q⟩)
def p6 lo hi n:(sliceBounds lo hi qr n).1=((HT.sIx n 0 lo:Nat):Int)/\(sliceBounds lo hi qr n).2.1=((HT.sIx n n hi:Nat):Int)/\(sliceBounds lo hi qr n).2.2=1:=by refine⟨?_,?_,rfl⟩;rcases lo with _|i;simp[sliceBounds,HT.sIx];simp only[sliceBounds,HT.sIx,Option.getD_none,show(1:Int) > 0 by decide,if_true];by_cases h:i<0;simp only[h,if_true]<;>lia;simp only[h,if_false]<;>lia;rcases hi with _|i;simp[sliceBounds,HT.sIx];simp only[sliceBounds,HT.sIx,Option.getD_none,show(1:Int) > 0 by decide,if_true];by_cases h:i<0;simp only[h,if_true]<;>lia;simp only[h,if_false]<;>lia
def n9(its:L1 Value)lo hi:slicePick its.toArray lo hi qr=((its.drop (HT.sIx its.length 0 lo)).take (HT.sIx its.length its.length hi-HT.sIx its.length 0 lo)).toArray:=by obtain⟨b,c,d⟩:=p6 lo hi its.toArray.size;unfold slicePick;rw[b,c,d];simp only[sliceRange_one,pick_run,ax]<;>rfl
def QE(K:nq):V->L7 Int->L7 Int->Hp->VK->Prop:=λx lo hi H Q=>∃a xs,x= .ref a/\SqL K H a xs/\∀p,H p=qr->Q (.ref p) (upd H p (.lst (Gb xs lo hi)))
def Gd:SlR X (QE X.K):=by intro z s u H x v w p lo hi y Q I j n l m h;obtain⟨a,c,rfl,g,q⟩:=h;cases j;obtain⟨i,r,e,f⟩:=I.list g;have d:=r.length;refine⟨"list",_,slot_list_getitem.lookup,e.isList.typeIs,?_⟩;refine wpAny_getItem_list_slice e.isList n l m .none (by simp) ?_ (by rw[ax]<;>lia);rw[n9, <-d];refine⟨.ref s.z,_,I.laid (t':=s.toks) (o:=.lst (Gb c lo hi)) (λb t q=>ae _ q) (aj _) ?_,rfl,q _ (I.hok.fresh (aj _))⟩;exact⟨ny (sW c lo hi) f,_,0,(r.drop (HT.sIx c.length 0 lo)).take (HT.sIx c.length c.length hi-HT.sIx c.length 0 lo),af _ rfl⟩
def p7:lA X (.builtin "len") (λxs H Q=>∃p ys,xs=[.ref p]/\(SqL X.K H p ys\/SqT X.K H p ys)/\Q (.int ys.length) H):=by intro m s n H xs l Q I r h;obtain⟨p,ys,rfl,c,q⟩:=h;obtain⟨u,rfl,i⟩:=lB r;cases i;have j:=mW;rcases c with c|c;obtain⟨d,f,e,g⟩:=I.list c;have b:=f.length;exact Calls.call_len_list e.isList (by simp only[ax]<;>lia) ⟨.int ys.length,H,I.tok _,⟨s.toks+1,by rw[ax,b]⟩,q⟩;obtain⟨d,f,e,g⟩:=I.tuple c;have b:=f.length;exact len_tuple e (by simp only[ax]<;>lia) ⟨.int ys.length,H,I.tok _,⟨s.toks+1,by rw[ax,b]⟩,q⟩
def p8:lA X (.builtin "len") (λxs H Q=>∃z,xs=[.str z]/\z.length<=sizeLine/\Q (.int z.length) H):=by intro f s e H xs d Q I r h;obtain⟨z,rfl,b,q⟩:=h;obtain⟨u,rfl,t,rfl⟩:=lB r;have c:=mW;exact len_str (by lia) ⟨.int z.length,H,I.tok _,⟨_,rfl⟩,q⟩
def p9:lA X (.type "list") (λxs H Q=>∃p ys,xs=[.ref p]/\(SqL X.K H p ys\/SqT X.K H p ys)/\∀l,H l=qr->Q (.ref l) (upd H l (.lst ys))):=by
 intro C s E H xs G Q I r h;obtain⟨p,ys,rfl,v,q⟩:=h;obtain⟨u,rfl,B⟩:=lB r;cases B;have j: ∀(c:L1 Value),bW ys c->ys.length<=sizeLine->∀(d:Heap) (g:Nat),(∀b o',s.heap.get? b=pi o'->d.get? b=pi o')->
   d.get? s.z=pi {cls:=.type "list",dict:=qr,data:=.seq c.toArray g,slots:= #[]}->EP X C E Q (.ref s.z) {s with heap:=d}:=λc f i d g t e=>
  ⟨.ref s.z,_,I.laid (t':=s.toks) t (aj _) (show ObjOk X.prog X.w _ d _ (.lst ys) from⟨i,c,g,f,e⟩),rfl,q _ (I.hok.fresh (aj _))⟩
 rcases v with v|v;obtain⟨c,f,x,i⟩:=I.list v;have m:=f.length;obtain⟨o,y,z,n,A⟩:=x.isList;exact call_list_seq p (.inl rfl) y z A (λd g t e=>j c f i d g t e) (by simp only[ax]<;>lia);obtain⟨c,f,x,i⟩:=I.tuple v;have m:=f.length;obtain⟨o,y,z,n,A⟩:=x;exact call_list_seq p (.inr rfl) y z A (λd g t e=>j c f i d g t e) (by simp only[ax]<;>lia)
def iX:lA X (.type "tuple") (λxs H Q=>∃p ys,xs=[.ref p]/\((SqL X.K H p ys/\∀l,H l=qr->Q (.ref l) (upd H l (.tup ys)))\/(SqT X.K H p ys/\Q (.ref p) H))):=by
 intro m s v H xs A Q I r h;obtain⟨p,ys,rfl,h⟩:=h;obtain⟨u,rfl,x⟩:=lB r;cases x;rcases h with ⟨i,q⟩|⟨i,q⟩;obtain⟨c,g,f,j⟩:=I.list i;have t:=g.length;refine call_tuple_list f.isList (λd z=>?_) (by simp only[ax]<;>lia);have n:Inv X m v H {s with heap:=d}:=I.kept (t':=s.toks) z;have y:Inv X m v (upd H d.objs.size (.tup ys)) {s with heap:=d.push {cls:=.type "tuple",data:=.seq c.toArray} }:=
  n.laid (t':=s.toks) (λb o e=>ae _ e) (aj _) (show ObjOk X.prog X.w _ _ _ (.tup ys) from⟨j,c,g,IsTup.new _ _,⟨_,af _ rfl,rfl⟩⟩)
 exact⟨.ref d.objs.size,_,y,rfl,q _ (n.hok.fresh (aj _))⟩;obtain⟨c,g,f,j⟩:=I.tuple i;exact call_tuple_same f ⟨.ref p,H,I,rfl,q⟩
def tyV(K:nq)(T:String)(x:V)(H:Hp):Prop:=match x with
 |.str _=>T="str"
 |.int _=>T="int"
 |.ref p=>(T="list"/\∃xs,SqL K H p xs)\/(T="tuple"/\∃o,K.lookup p=pi o/\o.cls= .type "tuple"/\o.dict=qr)\/
   (T="dict"/\((∃kvs,H p=pi (.dK kvs))\/∃kvs,H p=pi (.dT kvs)))\/(T="set"/\∃S n,H p=pi (.set S n))
 |_=>False
def Ku{ce}{σ:St}{H}{s}{T}{x}{v}(I:Inv X ce σ H s)(r:bH x v)(ty:tyV X.K T x H):
  s.TypeIs v T/\∀a,v= .ref a->∃ob,s.heap.get? a=pi ob/\ob.dict=qr:=by
 cases x with
 |str z=>
  obtain⟨t,rfl⟩:=r;cases (show T="str" from ty);exact⟨typeIs_str s z t,λ_ e=>nomatch e⟩
 |int i=>
  obtain⟨t,rfl⟩:=r;cases (show T="int" from ty);exact⟨typeIs_int s i t,λ_ e=>nomatch e⟩
 |ref p=>
  cases r;rcases ty with ⟨rfl,l,j⟩|⟨rfl,o,hk,h,d⟩|⟨rfl,hk⟩|⟨rfl,S,n,hk⟩;obtain⟨g,_,f,_⟩:=I.list j;refine⟨f.isList.typeIs,λa e=>?_⟩;cases e;obtain⟨o,n,e,c,d,_⟩:=f;exact⟨o,e,d⟩;refine⟨⟨o,I.kIn p o hk,h⟩,λa e=>?_⟩;cases e;exact⟨o,I.kIn _ o hk,d⟩;have z: ∃o,s.heap.get? p=pi o/\o.ExactDict:=by
   rcases hk with ⟨kvs,hk⟩|⟨kvs,hk⟩;obtain⟨_,_,_,_,o,_,_,e,ex,_⟩:=I.hok p _ hk;exact⟨o,e,ex⟩;obtain⟨_,_,_,_,o,_,_,e,ex,_⟩:=I.hok p _ hk;exact⟨o,e,ex⟩
  obtain⟨o,e,ex⟩:=z;refine⟨⟨o,e,ex.1⟩,λa b=>?_⟩;cases b;exact⟨o,e,ex.2.1⟩;obtain⟨o,_,_,_,e,ex,_⟩:=I.hok p _ hk;refine⟨⟨o,e,ex.1⟩,λa b=>?_⟩;cases b;exact⟨o,e,ex.2.1⟩
 |_=>exact ba ty
def tBM(K:nq)(T:String)(r:V->L1 V->Hp->VK->Prop)(to:TE)(t:TA):TE:=λσ H Q=>to σ H λx H1=>tyV K T x H1/\t σ H1 λxs H2=>r x xs H2 Q
def Ge(pa:PlainAttrs T)(slot:Slot T name id)(hty:typeOf (.builtin id)=pure (.type "method_descriptor"))(hm:MtR X id r)(ho:PE X o to)(ha:PA X (e::es) t)
  (hbase:attributeBase o name X.env (eval o X.env)=eval o X.env:=by rfl)
  (hfew:((backTo cpos (starEach (e::es) X.env)).all (λx=> !x.1)&&(backToKw cpos (keywordEach [] X.env)).all (λx=>x.1.isSome)
   &&decide ((e::es).length+([]:L1 Keyword).length+(if([]:L1 Keyword).isEmpty then 0 else 1)<30))=qt:=by rfl)
  (hline:(apos.endLine==cpos.line)=qt:=by rfl) (hs:starEach (e::es) X.env=(qu,eval e X.env)::starEach es X.env:=by rfl) (hplain:(backTo cpos (starEach es X.env)).any (·.1)=qu:=by rfl):
  PE X (.Call (.Attribute o name apos) (e::es) [] cpos) (tBM X.K T r to t):=by
 intro b s c H Q I h;refine wpAny_Call_method_late hbase hfew hline rfl (thn (ho b s c H _ I h) λv A f=>?_)
 obtain⟨x,u,i,j,ty,q1⟩:=f;obtain⟨z,w⟩:=Ku i j ty;refine⟨T,id,pa,slot,hty,z,w,?_⟩;have g:=ha cpos b A c u _ i q1;rw[hs]at g ⊢;refine fw (by show(qu||(backTo cpos (starEach es X.env)).any (·.1))=qu;rw[hplain]<;>rfl) (gz ?_)
 exact thn g λp m d=>by obtain⟨n,B,y,l,q⟩:=d;exact hm b m c B x n v p Q y j l q
end
def MtM(X:Cx)(id:String)(r:V->L1 V->Hp->VK->Prop):Prop:=
 ∀(ce:cg) (s:Shared) (σ:St) (H:Hp) (x:V) (xs:L1 V) (v:Value) (us:L1 Value) (Q:VK),Inv X ce σ H s->bH x v->bW xs us->r x xs H Q->
  X.wp (call (.builtin id) (v::us)) (EP X ce σ Q) X.xe s
def bW.one: ∀{x} {us},bW [x] us->∃u,us=[u]/\bH x u:=by
 intro x us h;cases h with
 |cons r t=>
  cases t;exact⟨_,rfl,r⟩
def bW.two: ∀{x y} {us},bW [x,y] us->∃u v,us=[u,v]/\bH x u/\bH y v:=by
 intro x y us h;cases h with
 |cons r t=>
  cases t with
  |cons q t=>
   cases t;exact⟨_,_,rfl,r,q⟩
theorem bW.reverse(h:bW xs us):bW xs.reverse us.reverse:=by
 induction h with
 |nil=>exact .nil
 |cons r t b=>rw[jk,jk];exact bW.append b (.cons r .nil)
theorem bW.rep{xs}{us}(h:bW xs us): ∀k,bW (ao k xs).flatten (ao k us).flatten
 |0=>.nil
 |k+1=>by
  rw[ij,ij,jl,jl];exact bW.append h (bW.rep h k)
theorem qA(its:L1 Value): ∀k acc,
  pp (λx1 x2=>x1++x2) acc.toArray (ao k its.toArray)=(acc++(ao k its).flatten).toArray
 |0,acc=>by simp
 |k+1,acc=>by
  have e:acc.toArray++its.toArray=(acc++its).toArray:=by simp
  have b:(acc++its)++(ao k its).flatten=acc++(ao (k+1) its).flatten:=by
   rw[ij,jl,jm]
  rw[<-b, <-qA its k (acc++its), <-e,ij,List.foldl_cons]
section
variable{σ:St}
def Inv.lset{its its':L1 Value}(I:Inv X ce σ H s)(hH:H l=pi (.lst xs))(e:s.heap.get? l=pi {cls:=.type "list",data:=.seq its.toArray n})(hf:f its.toArray=its'.toArray)(hv:bW ys its')(hz:ys.length<=sizeLine):
  Inv X ce σ (upd H l (.lst ys)) {s with heap:=s.heap.update l (pj f),toks:=t'}:=by
 have q:=PySem.IsL.update e f;rw[hf]at q;refine I.write (x:=l) (e:=l) (by rw[hH];exact trivial) (.inl rfl) (λd u b c=>(fq s.heap (pj f) (qq b)).trans c) ⟨_,q⟩ ?_;exact⟨hz,its',_,hv,q⟩
def Inv.lnew(I:Inv X ce σ H s)(hv:bW ys its)(hz:ys.length<=sizeLine):
  Inv X ce σ (upd H s.z (.lst ys)) {s with heap:=s.heap.push {cls:=.type "list",data:=.seq its.toArray},toks:=t'}:=
 I.laid (λ_ _ q=>ae _ q) (aj _) ⟨hz,its,0,hv,af _ rfl⟩
theorem Inv.fresh(I:Inv X ce σ H s):H s.z=qr:=I.hok.fresh (aj _)
def Inv.lstM(I:Inv X ce σ H s)(hH:H l=pi (.lst xs)):xs.length<=sizeLine/\∃its n,bW xs its/\xs.length=its.length/\s.heap.get? l=pi {cls:=.type "list",data:=.seq its.toArray n}:=by obtain⟨z,its,n,r,e⟩:=I.hok l _ hH;exact⟨z,its,n,r,r.length,e⟩
def vH(h:n<=sizeLine):eg n=qu:=by unfold eg;exact decide_eq_false (by lia)
end
def Gf:V->L1 V->Hp->VK->Prop:=λx vs H Q=>∃l xs y,x= .ref l/\vs=[y]/\H l=pi (.lst xs)/\xs.length<sizeLine/\Q .non (upd H l (.lst (xs++[y])))
def lF:MtM X "list.append" Gf:=by intro t s p H x m v j Q I f g h;obtain⟨l,w,y,rfl,rfl,c,i,q⟩:=h;cases f;obtain⟨u,rfl,d⟩:=g.one;obtain⟨z,b,n,r,o,e⟩:=I.lstM c;refine call_meets F.slot_list_append ⟨_,e,rfl⟩ F.entry_list_append (F.args_list_append_2 _ _) (PySem.list_append l b.toArray n u (by rw[ax];lia)) ⟨e,?_⟩;refine⟨.non,_,I.lset (its':=b++[u]) c e (by simp) (r.append (.cons d .nil)) ?_,rfl,q⟩;rw[bo,List.length_singleton];lia
def Gg{α:Type}(xs:L1 α)k:(ao k xs).flatten.length=k*xs.length:=by
 induction k with
 |zero=>simp
 |succ k b=>rw[ij,jl,bo,b,Nat.succ_mul,Nat.add_comm]
end L2
namespace Att
open PySem PySem.W PySem.Calls PyProof.Rows
def lG: ∀ns vs,WellAll P h vs (ns.map WData.int)->IntsAre vs ns:=by
 intro ns;induction ns with
 |nil=>
  intro vs w;rw[om]at w;cases w;exact .nil
 |cons n ns c=>
  intro vs w;rw[mr]at w;cases w with
  |cons a b=>
   cases a;exact .cons _ _ (c _ b)
def zG{l:OpenLaw}(hn:l.most=pi n)(hpre:l.row.toRowW.claim.pre args=qt)(hwl:WellAll P h vals args):
  ∃a vs ns,vals=[qe a]/\args=[WData.list (ns.map WData.int)]/\h.get? a=pi {cls:=.type "list",data:=.seq vs.toArray}/\IntsAre vs ns/\ns.length<=n:=by
 have hsh:WShape.hasAll [] args [.list .int]=qt:=(pre_splitW hpre).1;have g:l.pre.holds [] {args:=args}=qt:=(pre_splitW hpre).2;obtain⟨d,r,rfl,t,p⟩:=hasAllW_cons hsh;obtain rfl:=hasAllW_nil p;obtain⟨u,rfl,i⟩:=hasW_list t;obtain⟨ns,rfl⟩:=items_int i;have c:ns.length<=n:=by
  unfold OpenLaw.pre at g;have e:(WTm.not (.lt (.lit (.int (n:Int))) (.len (.arg 0)))).holds [] {args:=[.list (ns.map .int)]}=qt:=by
   have e:=(holds_andW g).1;rw[hn]at e;exact e
  have f:=condW_of e (w_not (w_lt w_lit (w_len_list (w_arg rfl))));rw[aq]at f;refine Nat.le_of_not_lt λq=>?_;have o:(n:Int)<((ns.length:Nat):Int):=by lia
  first
   |(rw[decide_eq_true o]at f;exact absurd f rfl)
   |(simp at f;lia)
 cases hwl with
 |cons j m=>
  cases m;cases j with
  |list s b=>exact⟨_,_,ns,rfl,rfl,s,lG ns _ b,c⟩
def zH(l:OpenLaw)args:l.row.toRowW.claim.post args (.bool qt) args=qt:=
 postW_of (r:=l.row.toRowW) (X:=(qt==qt))
  (show WShape.has [] (.bool qt) .bool=qt by first|rfl|decide|simp[WShape.has,WShape.arms,WShape.armsAll])
  (show(WTm.eq .res (.lit (.bool qt))).value [] {args:=args,res:=pi (.bool qt),after:=args}=pi (.bool (qt==qt)) from w_eq_bool (w_res rfl) w_lit) rfl
def attach_call{l:OpenLaw}(hn:l.most=pi n)(hdf:d.params.defaults=[])(call: ∀w s₀ s₁ mg mb fa o pm cd doc a vs ns,
   Ground q loose [] XP w s₀ mg mb s₁.heap->YP w s₁.heap->
   s₁.heap.get? fa=pi o->o.data= .func (docDef d.name d.params d.body d.scope pm cd doc)->s₁.heap.CodeRec cd d.name->mg d.name=pi (.ref fa)->
   s₁.heap.get? a=pi {cls:=.type "list",data:=.seq vs.toArray}->IntsAre vs ns->ns.length<=n->s₁.gens= #[]->
   codeAny (model l.prog w) callerA (.call (.ref fa) ⟨[.ref a],[]⟩) (λr s'=>r= .ok (.ret (.bool qt))/\OldK s₁.heap s'.heap/\s'.os=s₁.os/\AllBare s'.gens) s₁):
  WalkO q loose XP YP l.row.toRowW d [] (λf vs=>PySem.call f vs):=by
 intro w s₀ s₁ mg mb G Y fa o pm cd doc t kV u B j hD h x args p H e m E i v;obtain rfl:t= .none:=Dflts.none hD hdf;obtain rfl:kV= .none:=Dflts.noKw hD;obtain⟨a,vs,ns,rfl,rfl,g,b,c⟩:=zG hn e i;refine enter_call (codeAny_mono (call w s₀ s₁ mg mb fa o pm cd doc a vs ns G Y u (fd_plain B) j h g b c x) λr s' C=>?_)
 obtain⟨rfl,z,s,y⟩:=C;exact⟨.inl ⟨.bool qt,.bool qt,[],rfl,λ_=>rfl,.bool qt,zH l _,λ_=>⟨List.Pairwise.nil,λ_ A=>(nomatch A)⟩⟩,z,s,y⟩
noncomputable def PZ(h:Heap)(L d:Addr):cg:=(pb h.objs.size).filterMap λa=>if a=L\/a=d then qr else(h.get? a).map λo=>(a,o)
end Att
namespace L2
open PySem PySem.Spec PyProof.Rows
theorem qB: ∀{vs} {ns},IntsAre vs ns->bW (ns.map V.int) vs
 |_,_,.nil=>.nil
 |_,_,.cons n t h=>.cons ⟨t,rfl⟩ (qB h)
def N9(H:Hp):Prop:= ∀b,H b=qr\/∃o xs,H b=pi (.frz o (.lst xs))
noncomputable abbrev KOf{K:nq}{h:Heap}(_:K.In h):nq:=K
abbrev E0:XK:=λ_ _ _=>False
structure Fun(K:nq)(x qual:Str)(st:Stmt)(f:Addr)(fd:FuncData):Prop where
 ex: ∃(oc:Value) (od:Option Addr) (kV doc pm:Value) (an:Option Addr) (cdv ct:Value) (osl:Array (Option Value)),
  fd=oj x qual (defArgs st) (defBody st) (defScope st) .none kV doc pm an cdv ct/\K.lookup f=pi ⟨oc,od,.func fd,osl⟩/\md K cdv qual=qt
 kp:l7 K (.ref f)=qt
section
variable{K:nq}
def Fun.binds{st}(F:Fun K x qual st f fd)(h: ∀kV doc pm an cdv ct us,us.length=ps.length->bindArgs (oj x qual (defArgs st) (defBody st) (defScope st) .none kV doc pm an cdv ct) ⟨us,[]⟩=pure (ps.zip us)):eE K fd ps []:=by obtain⟨d,e,kV,doc,pm,an,cdv,ct,b,rfl,lk,c⟩:=F.ex;exact .all (h kV doc pm an cdv ct)
def lH{st}{kV doc pm cdv ct}(l:K.lookup f=pi ⟨oc,od,.func (oj x qual (defArgs st) (defBody st) (defScope st) .none kV doc pm an cdv ct),osl⟩)(c:md K cdv qual=qt)(k:l7 K (.ref f)=qt):Fun K x qual st f (oj x qual (defArgs st) (defBody st) (defScope st) .none kV doc pm an cdv ct):=⟨⟨oc,od,kV,doc,pm,an,cdv,ct,osl,rfl,l,c⟩,k⟩
end
def CJ{A B:Prop}(h:B):if qu=qt then A else B:=by rw[if_neg bf];exact h
def Cq{A B:Prop}(h:A):if qt=qt then A else B:=by rw[if_pos rfl];exact h
def Same(H H':Hp):Prop:= ∀b o,H b=pi o->H' b=pi o
def Same.refl H:Same H H:=λ_ _ h=>h
def Same.trans(a:Same H H1)(b:Same H1 H2):Same H H2:=λc o h=>b c o (a c o h)
def Same.free(e:Same H H')(h:H' l=Option.none):H l=Option.none:=by rcases q:H l with _|o;rfl;rw[e l o q]at h;cases h
def Same.seq{K}(e:Same H H')(h:SqL K H a xs):SqL K H' a xs:=by rcases h with (h|⟨o,h⟩)|h;exact .inl (.inl (e _ _ h));exact .inl (.inr ⟨o,e _ _ h⟩);exact .inr h
end L2
namespace SK
open PySem PySem.Spec PyProof.Rows L2
open PySem.AutoSeq1 (wpAny_loadPart' idx_int)
def qC l items n b items2 n2 dd2 sl2(hc0: ¬(!items.isEmpty&&eg (items.size+items2.size))=qt)(hc1:items.size<=sizeLine)(hs2:items.size+items2.size<=sizeLine+1):
  Meets (Builtin.«list.extend» ⟨[.ref l,.ref b],[]⟩) (λ_ R s=>s.heap.get? l=pi {cls:=.type "list",dict:=qr,data:=.seq items n,slots:= #[]}/\s.heap.get? b=pi {cls:=.type "list",dict:=dd2,data:=.seq items2 n2,slots:=sl2}/\R (.ok (.ret pc)) {s with heap:=s.heap.update l (pj λx=>x++items2),toks:=s.toks}):=
 .of_wp λf w A R s h=>by
  obtain⟨o,g,d,t,q⟩:=s;obtain⟨e,i,h⟩:=h;have m:=idx_int;have j:=AutoSeq1.sub_tuple_tuple;have p:=AutoSeq1.sub_list_list;have r:=AutoSeq1.sub_tuple_list;have u:=AutoSeq1.sub_list_tuple;
  have c:(items++items2).size<=sizeLine+1:=by rw[Array.size_append];exact hs2
  wp_walk using (wpAny_updateSeq e rfl (hz:=hc1) (_hz':=c)),wpAny_loadPart' e,wpAny_loadPart' i;exact⟨_,rfl,h⟩
def mR a t l items n T dd sl(hT:T="list"\/T="tuple"):
  Meets (Builtin.«int.__rmul__» ⟨[.int a t,.ref l],[]⟩) (λ_ R s=>s.heap.get? l=pi {cls:=.type T,dict:=dd,data:=.seq items n,slots:=sl}/\R (.ok (.ret Value.notImplemented)) s):=
 .of_wp λb w A R s h=>by
  obtain⟨e,g,d,i,f⟩:=s;obtain⟨c,h⟩:=h;rcases hT with rfl|rfl<;>(wp_walk using wpAny_loadPart' c;exact⟨_,rfl,h⟩)
def zI l items n x u dd sl(hc0: ¬(!Builtin.List.listFitsIndex x)=qt)(hc1: ¬items.size*x.toNat > (2^63-1)/8)(hc2: ¬eg (items.size*x.toNat)=qt):
  Meets (Builtin.«list.__mul__» ⟨[.ref l,.int x u],[]⟩) (λ_ R s=>s.heap.get? l=pi {cls:=.type "list",dict:=dd,data:=.seq items n,slots:=sl}/\R (.ok (.ret (qe s.z))) {s with heap:=s.heap.push {cls:=pe "list",data:=Data.seq (pp (λx1 x2=>x1++x2) #[] (ao (if items.isEmpty=qt then 0 else x.toNat) items))},toks:=s.toks}):=
 .of_wp λc w A R s h=>by
  obtain⟨f,g,d,j,i⟩:=s;obtain⟨e,h⟩:=h;have b:=AutoListH.joined_fits hc2;wp_walk using wpAny_loadPart' e;refine wpAny_ite_false (decide_eq_false (pq.mpr b)) ?_;wp_walk;exact⟨_,rfl,h⟩
open PySem.AutoSeq1 (wpAny_loadPart' idx_int)
set_option genInjectivity true in
inductive D where
 |non|bl (b:Bool)|int (i:Int)|str (x:Str)
 |tup (xs:List D)|lst (xs:List D)
 |exc (c:Nat)|fn (f:Nat)|dct (ks:List Str) (vs:List D)
 deriving Inhabited
noncomputable def b2i(b:Bool):Int:=if b then 1 else 0
mutual
def deq:D->D->Bool
 |.non,.non=>qt
 |.bl a,.bl b=>a==b
 |.bl a,.int j=>b2i a==j
 |.int i,.bl b=>i==b2i b
 |.int i,.int j=>i==j
 |.str x,.str y=>x==y
 |.tup xs,.tup ys=>CK xs ys
 |.lst xs,.lst ys=>CK xs ys
 |_,_=>qu
def CK:L1 D->L1 D->Bool
 |[],[]=>qt
 |x::xs,y::ys=>deq x y&&CK xs ys
 |_,_=>qu
end
mutual
noncomputable def plain:D->Bool
 |.non=>qt
 |.bl _=>qt
 |.int _=>qt
 |.str x=>x.cps.all (· <0x110000)
 |.tup xs=>cS xs
 |.lst xs=>cS xs
 |.exc _=>qu
 |.fn _=>qu
 |.dct _ _=>qu
noncomputable def cS:L1 D->Bool
 |[]=>qt
 |x::xs=>plain x&&cS xs
end
mutual
noncomputable def dep:D->Nat
 |.tup xs=>CL xs+1
 |.lst xs=>CL xs+1
 |_=>0
noncomputable def CL:L1 D->Nat
 |[]=>0
 |x::xs=>max (dep x) (CL xs)
end
def kF(x y:D):Bool:=plain x&&plain y&&decide (min (dep x) (dep y)<=60)
set_option genInjectivity true in
inductive R where
 |ok (d:D)|ow (xs:List D)|ex (c:Nat)|bad
noncomputable def R.bind(r:R)(k:D->R):R:=match r with
 |.ok d=>k d
 |.ow xs=>k (.lst xs)
 |.ex c=>.ex c
 |.bad=>.bad
structure Rk where
 held:List (Str×D)
 done:List D
 undone:List D
set_option genInjectivity true in
inductive RM where
 |pure (x:R)|chg (x:D) (r:Rk)
abbrev FM:=Rk->L1 D->RM
noncomputable def RM.told:RM->R
 |.pure x=>x
 |.chg _ _=>.bad
inductive RR where
 |rk (r:Rk)|ex (c:Nat)|bad
abbrev FR:=L1 D->RR
inductive Slot where
 |no|sh (d:D)|ow (xs:List D)|dc (kvs:List (Str×D))|sd (kvs:List (Str×D))|rk (C:Nat) (r:Rk)
noncomputable def Slot.isRk:Slot->Bool
 |.rk _ _=>qt
 |_=>qu
noncomputable def Slot.owns:Slot->Bool
 |.ow _=>qt
 |.dc _=>qt
 |.sd _=>qt
 |_=>qu
abbrev Rho:=L1 Slot
abbrev F:=Rho->R
inductive Out where
 |nx (ρ:Rho)|rt (r:R)|bk (ρ:Rho)|ct (ρ:Rho)|ex (c:Nat) (ρ:Rho)
abbrev FS:=Rho->Out
abbrev Fn:=L1 D->R
def LIM:Nat:=100000
noncomputable def sml(i:Int):Bool:=decide (-18446744073709551616<i)&&decide (i<18446744073709551616)
def fF(op:Operator)(i j:Int):R:=match op with
 |.Add=>.ok (.int (i+j))
 |.Sub=>.ok (.int (i-j))
 |.Mult=>if sml i||sml j then .ok (.int (i*j))else .bad
 |.FloorDiv=>if 0<j/\j<1073741824 then .ok (.int (i/j))else .bad
 |.Mod=>if 0<j then .ok (.int (i % j))else .bad
 |.LShift=>if 0<=j/\j<=1000/\sml i=qt then .ok (.int (i*2^j.toNat))else .bad
 |_=>.bad
noncomputable def P2(xs:L1 D)(k:Int):L1 D:=(ao k.toNat xs).flatten
def j9(op:Operator)(x y:D):R:=match x,y with
 |.int i,.int j=>(match op with
  |.BitAnd=>.ok (.int (Builtin.bitAnd i j))
  |.BitOr=>.ok (.int (Builtin.bitOr i j))
  |.BitXor=>.ok (.int (Builtin.bitXor i j))
  |op=>fF op i j)
 |.lst xs,.lst ys=>(match op with
  |.Add=>if xs.length+ys.length<=LIM then .ow (xs++ys)else .bad
  |_=>.bad)
 |.str x,.str y=>(match op with
  |.Add=>if x.length<=LIM/\y.length<=LIM then .ok (.str (x++y))else .bad
  |_=>.bad)
 |.lst xs,.int k=>(match op with
  |.Mult=>if -1000000<k/\k<1000000/\xs.length*k.toNat<=LIM then .ow (P2 xs k)else .bad
  |_=>.bad)
 |_,_=>.bad
noncomputable def items:D->L7 (L1 D)
 |.tup xs=>pi xs
 |.lst xs=>pi xs
 |_=>qr
noncomputable def sY(x:Str):L1 D:=x.cps.toList.map λc=>D.str ⟨#[c]⟩
def iI:D->L7 (L1 D)
 |.tup xs=>pi xs
 |.lst xs=>pi xs
 |.str x=>if x.cps.size<=1000 then pi (sY x)else qr
 |.dct ks _=>if ks.length<=1000 then pi (ks.map D.str)else qr
 |_=>qr
noncomputable def qD:D->Bool
 |.non=>qt
 |_=>qu
noncomputable def Ra(b:Bool):D->Bool
 |.bl a=>a==b
 |_=>qu
def Gh(x:D)(ys:L1 D):Bool:=ys.all λy=>kF y x
noncomputable def inS(x y:D)(neg:Bool):R:=match x,y with
 |.str a,.dct ks _=>.ok (.bl (neg != ks.contains a))
 |_,_=>.bad
noncomputable def bK(kvs:L1 (Str×D))(x:Str):L7 D:=(kvs.find? λp=>decide (p.1=x)).map (·.2)
def Kv(a b:L1 (Str×D)):Bool:=a.length==b.length&&a.all λp=>match bK b p.1 with|some w=>deq p.2 w|none=>qu
def qF(neg:Bool)(x y:D):R:=match x,y with
 |.dct ks vs,.dct ls ws=>if(vs.all λd=>ws.all λe=>kF d e)=qt then .ok (.bl (neg != Kv (ks.zip vs) (ls.zip ws)))else .bad
 |_,_=>.bad
def fK(op:CmpOp)(x y:D):R:=match op with
 |.Eq=>if kF x y then .ok (.bl (deq x y))else qF qu x y
 |.NotEq=>if kF x y then .ok (.bl (!deq x y))else qF qt x y
 |.Lt=>(match x,y with|.int i,.int j=>.ok (.bl (decide (i<j)))|_,_=>.bad)
 |.LtE=>(match x,y with|.int i,.int j=>.ok (.bl (decide (i<=j)))|.str i,.str j=>.ok (.bl (!decide (j.cps.toList<i.cps.toList)))|_,_=>.bad)
 |.Gt=>(match x,y with|.int i,.int j=>.ok (.bl (decide (j<i)))|_,_=>.bad)
 |.GtE=>(match x,y with|.int i,.int j=>.ok (.bl (decide (j<=i)))|_,_=>.bad)
 |.Is=>(match y with
  |.non=>.ok (.bl (qD x))
  |_=>.bad)
 |.IsNot=>(match y with
  |.non=>.ok (.bl (!qD x))
  |_=>.bad)
 |.In=>inS x y qu
 |.NotIn=>inS x y qt
noncomputable def ixD(n:Nat)(i:Int):L7 Nat:=if 0<=i then(if i<n then pi i.toNat else qr)else if -(n:Int)<=i then pi (i+n).toNat else qr
def ixS(x y:D):R:=match x,y with
 |.str z,.int i=>if z.length<=LIM then(match(ixD z.cps.toList.length i).bind λj=>z.cps.toList[j]? with|some c=>.ok (.str ⟨#[c]⟩)|none=>.bad)else .bad
 |.dct ks vs,.str k=>(match bK (ks.zip vs) k with|some d=>.ok d|none=>.bad)
 |_,_=>.bad
def dIx(x y:D):R:=match items x,y with
 |some xs,.int i=>(match(ixD xs.length i).bind λj=>xs[j]? with|some d=>.ok d|none=>.bad)
 |some _,_=>.bad
 |none,_=>ixS x y
noncomputable def cH(n d:Nat):L7 Int->Nat
 |none=>d
 |some v=>if v<0 then(v+n).toNat else min v.toNat n
def x6(xs:L1 D)(lo hi:L7 Int):L1 D:=(xs.drop (cH xs.length 0 lo)).take (cH xs.length xs.length hi-cH xs.length 0 lo)
def sZ(xs:L1 Nat)(lo hi:L7 Int):L1 Nat:=(xs.drop (cH xs.length 0 lo)).take (cH xs.length xs.length hi-cH xs.length 0 lo)
def vI(x:D)(lo hi:L7 Int):R:=match x with
 |.lst xs=>.ow (x6 xs lo hi)
 |.str z=>if z.length<=LIM then .ok (.str ⟨(sZ z.cps.toList lo hi).toArray⟩)else .bad
 |_=>.bad
noncomputable def vJ:D->(Int->R)->R
 |.int i,k=>k i
 |_,_=>.bad
noncomputable def aB(i:Nat):F:=λρ=>match ρ[i]? with|some (.sh d)=>.ok d|_=>.bad
noncomputable def aC(i:Nat):F:=λρ=>match ρ[i]? with|some (.sh d)=>.ok d|some (.ow xs)=>.ok (.lst xs)|_=>.bad
noncomputable def rK(d:D):F:=λ_=>.ok d
def aR(op:Operator)(a b:F):F:=λρ=>(a ρ).bind λx=>(b ρ).bind λy=>j9 op x y
def Gi(a:F):F:=λρ=>(a ρ).bind λx=>match x with|.int i=>.ok (.int (-i))|_=>.bad
def kG(a:F):F:=λρ=>(a ρ).bind λx=>match x with|.bl b=>.ok (.bl (!b))|_=>.bad
def lI(a b:F):F:=λρ=>(a ρ).bind λx=>match x with|.bl qt=>b ρ|.bl qu=>.ok (.bl qu)|_=>.bad
def rOr(a b:F):F:=λρ=>(a ρ).bind λx=>match x with|.bl qt=>.ok (.bl qt)|.bl qu=>b ρ|_=>.bad
def bR(op:CmpOp)(a b:F):F:=λρ=>(a ρ).bind λx=>(b ρ).bind λy=>fK op x y
def fN(op op':CmpOp)(a b c:F):F:=λρ=>(a ρ).bind λx=>(b ρ).bind λy=>(fK op x y).bind λz=>match z with
 |.bl qt=>(c ρ).bind λw=>fK op' y w
 |.bl qu=>.ok (.bl qu)
 |_=>.bad
inductive RA where
 |ok (ds:List D)|ex (c:Nat)|bad
noncomputable def RA.cons(x:D):RA->RA
 |.ok ds=>.ok (x::ds)
 |.ex c=>.ex c
 |.bad=>.bad
noncomputable def RA.then(r:RA)(k:L1 D->R):R:=match r with
 |.ok ds=>k ds
 |.ex c=>.ex c
 |.bad=>.bad
def args:L1 F->Rho->RA
 |[],_=>.ok []
 |f::fs,ρ=>match f ρ with
  |.ok x=>(args fs ρ).cons x
  |.ow xs=>(args fs ρ).cons (.lst xs)
  |.ex c=>.ex c
  |.bad=>.bad
def lJ(fs:L1 F)(ρ:Rho)(k:L1 D->R):R:=(args fs ρ).then k
def fD(fs:L1 F):F:=λρ=>lJ fs ρ λxs=>.ok (.tup xs)
def gZ(fs:L1 F):F:=λρ=>lJ fs ρ λxs=>.ow xs
def rIx(a b:F):F:=λρ=>(a ρ).bind λx=>(b ρ).bind λy=>dIx x y
def dS(a:F)(lo hi:L7 F):F:=λρ=>(a ρ).bind λx=>match lo,hi with
 |none,qr=>vI x qr qr
 |some l,qr=>(l ρ).bind λy=>vJ y λi=>vI x (pi i) qr
 |none,pi h=>(h ρ).bind λz=>vJ z λj=>vI x qr (pi j)
 |some l,pi h=>(l ρ).bind λy=>vJ y λi=>(h ρ).bind λz=>vJ z λj=>vI x (pi i) (pi j)
def aF(f:Fn)(fs:L1 F):F:=λρ=>lJ fs ρ f
def oA(r:Fn)(a b:F):F:=λρ=>(a ρ).bind λx=>match x with|.lst ds=>(b ρ).bind λy=>r [.lst ds,y]|_=>.bad
def rIs(p:D->L7 Bool)(a:F):F:=λρ=>(a ρ).bind λx=>match p x with|some b=>.ok (.bl b)|none=>.bad
noncomputable def bE(f:D->L7 (L7 D)):L1 D->L7 (L1 D)
 |[]=>pi []
 |d::r=>match f d with
  |none=>qr
  |some qr=>bE f r
  |some (pi x)=>(bE f r).map (x:: ·)
noncomputable def tgt(n:Nat)(d:D):L7 (L1 Slot):=match n with
 |0=>pi [.sh d]
 |n=>match d with
  |.tup ds=>if ds.length=n then pi (ds.map Slot.sh)else qr
  |_=>qr
noncomputable def jP(cs:L1 Nat)(ρ:Rho):L1 Slot:=cs.map λi=>(ρ[i]?).getD .no
def dJ(n:Nat)(cs:L1 Slot)(c:L7 F)(e:F)(d:D):L7 (L7 D):=match tgt n d with
 |none=>qr
 |some ts=>match c with
  |none=>(match e (ts++cs)with|.ok x=>pi (pi x)|.ow xs=>pi (pi (.lst xs))|_=>qr)
  |some c=>match c (ts++cs)with
   |.ok (.bl qt)=>(match e (ts++cs)with|.ok x=>pi (pi x)|.ow xs=>pi (pi (.lst xs))|_=>qr)
   |.ok (.bl qu)=>pi qr
   |_=>qr
def aY(n:Nat)(cs:L1 Nat)(it:F)(c:L7 F)(e:F):F:=λρ=>(it ρ).bind λx=>match iI x with
 |some ds=>(match bE (dJ n (jP cs ρ) c e) ds with|some xs=>.ow xs|none=>.bad)
 |none=>.bad
noncomputable def x8(n:Nat):L1 D:=(pb n).map λ(i:Nat)=>D.int (i:Int)
def eW(a:F):F:=λρ=>(a ρ).bind λx=>vJ x λi=>if -100000<=i/\i<=100000 then .ok (.lst (x8 i.toNat))else .bad
def qG(a b:F):F:=λρ=>(a ρ).bind λx=>(b ρ).bind λy=>match x,y with
 |.tup xs,.tup ys=>.ok (.lst ((xs.zip ys).map λp=>D.tup [p.1,p.2]))
 |_,_=>.bad
noncomputable def P3:D->R|.str z=>if z.length<=100000 then .ok (.int z.length)else .bad|_=>.bad
def pN:Fn|[x]=>(match items x with|some xs=>.ok (.int xs.length)|none=>P3 x)|_=>.bad
def ED:Fn|[.int i]=>.ok (.int i)|[.bl b]=>.ok (.int (b2i b))|[.str x]=>(match x.cps.toList with|[c]=>if 48<=c/\c<58 then .ok (.int ((c-48:Nat):Int))else .bad|_=>.bad)|_=>.bad
noncomputable def zJ:Fn|[.int i]=>if 0<=i/\i<10 then .ok (.str ⟨#[48+i.toNat]⟩)else .bad|_=>.bad
noncomputable def oB:L1 D->L7 (L1 Str)
 |[]=>pi []
 |.str x::r=>(oB r).map (x:: ·)
 |_::_=>qr
def zK(sep:Str)(x:D):R:=match x with
 |.lst ds=>(match oB ds with|some ts=>if JoinOk sep ts then .ok (.str (qj sep ts))else .bad|none=>.bad)
 |_=>.bad
def lK(sep:Str)(f:F):F:=λρ=>(f ρ).bind (zK sep)
def EE(x y:D):R:=match x,y with
 |.str a,.str b=>if b.length=1/\a.length<=LIM then .ow ((qg a b).map D.str)else .bad
 |_,_=>.bad
def gH(f g:F):F:=λρ=>(f ρ).bind λx=>match x with|.str a=>(g ρ).bind λy=>EE (.str a) y|_=>.bad
noncomputable def jQ(a b:Str):L1 D:=match er a b 0 a.length 1 with
 |i::_=>[.str (iz a 0 i),.str b,.str (iz a (i+b.length) a.length)]
 |[]=>[.str a,.str qf,.str qf]
def Oa(x y:D):R:=match x,y with
 |.str a,.str b=>if(b.length==0)=qu/\a.length<=LIM then .ok (.tup (jQ a b))else .bad
 |_,_=>.bad
def zL(f g:F):F:=λρ=>(f ρ).bind λx=>match x with|.str a=>(g ρ).bind λy=>Oa (.str a) y|_=>.bad
noncomputable def Ob(kvs:L1 (Str×D))(x:D):R:=match x with
 |.str a=>.ok ((kvs.lookup a).getD .non)
 |_=>.bad
def Gj(kvs:L1 (Str×D))(f:F):F:=λρ=>(f ρ).bind (Ob kvs)
def fO:Fn|[x]=>(match items x with|some xs=>.ok (.tup xs)|none=>.bad)|_=>.bad
def x9:Fn|[x]=>(match items x with|some xs=>.ow xs|none=>.bad)|_=>.bad
noncomputable def iN:L1 D->L7 (L1 Int)
 |[]=>pi []
 |.int i::r=>(iN r).map (i:: ·)
 |_::_=>qr
noncomputable def eP:L1 D->L7 (L1 Bool)
 |[]=>pi []
 |.bl b::r=>(eP r).map (b:: ·)
 |_::_=>qr
def EF:Fn|[x]=>(match(items x).bind iN with|some xs=>.ok (.int xs.sum)|none=>.bad)|_=>.bad
def JD:Fn|[x]=>(match(items x).bind eP with|some xs=>.ok (.bl (xs.all id))|none=>.bad)|_=>.bad
def Rb:Fn|[x]=>(match(items x).bind eP with|some xs=>.ok (.bl (xs.any id))|none=>.bad)|_=>.bad
noncomputable def Rc:Fn|[.int i,.int j]=>.ok (.int (if j > i then j else i))|_=>.bad
noncomputable def Re:Fn|[.int i,.int j]=>.ok (.int (if j<i then j else i))|_=>.bad
noncomputable def P4:Int->L1 Int->Int
 |m,[]=>m
 |m,i::r=>P4 (if m<i then i else m) r
noncomputable def P5:Int->L1 Int->Int
 |m,[]=>m
 |m,i::r=>P5 (if i<m then i else m) r
def QF:Fn|[x]=>(match(items x).bind iN with|some (n::ns)=>.ok (.int (P4 n ns))|_=>.bad)|_=>.bad
noncomputable def Rf:Fn|[.int i]=>.ok (.int (if i<0 then -i else i))|_=>.bad
noncomputable def P6:L1 Int->L1 Int->Bool
 |[],[]=>qu
 |[],_::_=>qt
 |_::_,[]=>qu
 |a::r,b::t=>if a=b then P6 r t else decide (a<b)
mutual
noncomputable def same:D->D->Bool
 |.int _,.int _=>qt
 |.tup xs,.tup ys=>Kw xs ys
 |_,_=>qu
noncomputable def Kw:L1 D->L1 D->Bool
 |[],[]=>qt
 |x::xs,y::ys=>same x y&&Kw xs ys
 |_,_=>qu
end
mutual
noncomputable def Oc:D->L1 Int
 |.int i=>[i]
 |.tup xs=>Kx xs
 |_=>[]
noncomputable def Kx:L1 D->L1 Int
 |[]=>[]
 |x::xs=>Oc x++Kx xs
end
def ltD(x y:D):Bool:=P6 (Oc x) (Oc y)
def P7(d:D):L1 D->D
 |[]=>d
 |e::r=>P7 (if ltD e d then e else d) r
noncomputable def Ky:D->Bool
 |.tup (_::_)=>qt
 |_=>qu
noncomputable def Kz:D->Bool
 |.tup _=>qt
 |_=>qu
def Od:L1 D->Bool
 |[]=>qu
 |d::r=>Kz d&&(r.isEmpty||Ky d)&&decide (dep d<=8)&&same d d&&r.all (same d)
def Oe(ds:L1 D):R:=if Od ds then(match ds with|d::r=>.ok (P7 d r)|[]=>.bad)else .bad
def Of(ds:L1 D):R:=match iN ds with
 |some ns=>(match ns with|n::r=>.ok (.int (P5 n r))|[]=>.bad)
 |none=>Oe ds
def QG:Fn|[x]=>(match items x with|some ds=>Of ds|none=>.bad)|_=>.bad
noncomputable def QH(ns:L1 Int):L1 Int:=((pb 17).filter λ(k:Nat)=>ns.contains (k:Int)).map λ(k:Nat)=>(k:Int)
noncomputable def QI(ns:L1 Int):Bool:=ns.all λn=>decide (0<=n/\n<17)
def QJ(ds:L1 D):R:=match iN ds with|some ns=>if QI ns then .ok (.int ((QH ns).length:Nat))else .bad|none=>.bad
def dLS:Fn|[x]=>(match x with|.lst ds=>QJ ds|_=>.bad)|_=>.bad
def vK:Fn|[.lst ys,x]=>if Gh x ys then .ok (.int ((ys.countP λy=>deq y x):Nat))else .bad|_=>.bad
def vL:Fn|[.lst ys,x]=>if Gh x ys then(match ys.findIdx? λy=>deq y x with|some k=>.ok (.int (k:Nat))|none=>.bad)else .bad|_=>.bad
noncomputable def JE(x:D):R:=match x with|.lst xs=>.ow xs.reverse|_=>.bad
def KA(a:F):F:=λρ=>(a ρ).bind JE
noncomputable def Og{α:Type}(xs:L1 α)(lo:Nat):L1 α:=(pb ((xs.length-lo+1)/2)).filterMap λk=>xs[lo+2*k]?
def Oh(x y:D):R:=match x with|.tup xs=>(match y with|.int i=>if 0<=i then .ok (.tup (Og xs i.toNat))else .bad|_=>.bad)|_=>.bad
def QK(a b:F):F:=λρ=>(a ρ).bind λx=>(b ρ).bind λy=>Oh x y
noncomputable def orP(p q:D->L7 Bool):D->L7 Bool:=λd=>match p d,q d with|some a,pi b=>pi (a||b)|_,_=>qr
def QL(kvs:L1 (D×D))(k:D):Bool:=kvs.any λp=>deq p.1 k
def putK(kvs:L1 (D×D))(k d:D):L1 (D×D):=if QL kvs k then kvs.map (λp=>if deq p.1 k then(p.1,d)else p)else kvs++[(k,d)]
noncomputable def inK(op:CmpOp)(b:Bool):R:=match op with
 |.In=>.ok (.bl b)
 |.NotIn=>.ok (.bl !b)
 |_=>.bad
noncomputable def put(ρ:Rho)(i:Nat)(s:Slot):Rho:=ρ.set i s
noncomputable def frz1(i:Nat)(ρ:Rho):Rho:=match ρ[i]? with|some (.ow xs)=>ρ.set i (.sh (.lst xs))|some (.dc kvs)=>ρ.set i (.sh (.dct (kvs.map (·.1)) (kvs.map (·.2))))|_=>ρ
def frz(is:L1 Nat)(ρ:Rho):Rho:=is.foldl (λρ i=>frz1 i ρ) ρ
def JF(is:L1 Nat)(s:FS):FS:=λρ=>s (frz is ρ)
noncomputable def fC(ρ:Rho)(r:R)(k:D->Out):Out:=match r with
 |.ok d=>k d
 |.ow xs=>k (.lst xs)
 |.ex c=>.ex c ρ
 |.bad=>.rt .bad
def fL(i:Nat)(e:F):FS:=λρ=>fC ρ (e ρ) λd=>.nx (ρ.set i (.sh d))
noncomputable def yU(i:Nat)(e:F):FS:=λρ=>match e ρ with
 |.ok d=>.nx (ρ.set i (.sh d))
 |.ow xs=>.nx (ρ.set i (.ow xs))
 |.ex c=>.ex c ρ
 |.bad=>.rt .bad
noncomputable def QM(j i:Nat):FS:=λρ=>match ρ[j]? with
 |some (.ow xs)=>.nx ((ρ.set j .no).set i (.ow xs))
 |_=>.rt .bad
noncomputable def setN:L1 Nat->L1 D->Rho->Rho
 |i::is,d::ds,ρ=>setN is ds (ρ.set i (.sh d))
 |_,_,ρ=>ρ
def iE(is:L1 Nat)(e:F):FS:=λρ=>fC ρ (e ρ) λd=>match d with
 |.tup ds=>if ds.length=is.length then .nx (setN is ds ρ)else .rt .bad
 |.lst ds=>if ds.length=is.length then .nx (setN is ds ρ)else .rt .bad
 |_=>.rt .bad
def Rg(i:Nat)(op:Operator)(e:F):FS:=λρ=>match ρ[i]? with
 |some (.sh (.int a))=>fC ρ (e ρ) λd=>(match d,op with
  |.int b,.Add=>.nx (ρ.set i (.sh (.int (a+b))))
  |.int b,.Sub=>.nx (ρ.set i (.sh (.int (a-b))))
  |_,_=>.rt .bad)
 |_=>.rt .bad
def iF(e:F):FS:=λρ=>fC ρ (e ρ) λ_=>.nx ρ
noncomputable def dM(e:F):FS:=λρ=>match e ρ with
 |.ok d=>.rt (.ok d)
 |.ow xs=>.rt (.ow xs)
 |.ex c=>.ex c ρ
 |.bad=>.rt .bad
def bC:FS:=λρ=>.nx ρ
noncomputable def aT(a b:FS):FS:=λρ=>match a ρ with|.nx ρ'=>b ρ'|o=>o
noncomputable def sIf(c:F)(a b:FS):FS:=λρ=>match c ρ with
 |.ok (.bl qt)=>a ρ
 |.ok (.bl qu)=>b ρ
 |.ex c=>.ex c ρ
 |_=>.rt .bad
noncomputable def gI(c:Nat):FS:=λρ=>.ex c ρ
def CM(i:Nat)(e:F):FS:=λρ=>match ρ[i]? with
 |some (.ow xs)=>fC ρ (e ρ) λd=>if xs.length<LIM then .nx (ρ.set i (.ow (xs++[d])))else .rt .bad
 |_=>.rt .bad
def Gk(i:Nat)(e:F):FS:=λρ=>match ρ[i]? with
 |some (.ow xs)=>fC ρ (e ρ) λd=>(match d with
  |.lst ys=>if xs.length+ys.length<=LIM then .nx (ρ.set i (.ow (xs++ys)))else .rt .bad
  |_=>.rt .bad)
 |_=>.rt .bad
noncomputable def fE(kvs:L1 (Str×D))(x:Str)(d:D):L1 (Str×D):=if(kvs.any λp=>decide (p.1=x))=qt then kvs.map (λp=>if p.1=x then(p.1,d)else p)else kvs++[(x,d)]
def Cr(i:Nat)(k e:F):FS:=λρ=>fC ρ (e ρ) λd=>match ρ[i]? with
 |some (.ow xs)=>fC ρ (k ρ) λy=>(match y with
  |.int j=>(match ixD xs.length j with|some m=>.nx (ρ.set i (.ow (xs.set m d)))|none=>.rt .bad)
  |_=>.rt .bad)
 |some (.dc kvs)=>fC ρ (k ρ) λy=>(match y with
  |.str x=>if kvs.length<LIM then .nx (ρ.set i (.dc (fE kvs x d)))else .rt .bad
  |_=>.rt .bad)
 |_=>.rt .bad
def mY(i:Nat)(e:F):FS:=λρ=>fC ρ (e ρ) λd=>match d with
 |.dct ks vs=>.nx (ρ.set i (.dc (ks.zip vs)))
 |_=>.rt .bad
noncomputable def QN:L1 D->L7 (D×D)
 |[a,b]=>pi (a,b)
 |_=>qr
def QO:D->L7 (D×D)
 |.tup ds=>QN ds
 |_=>qr
def QP(i:Nat)(k l e:F):FS:=λρ=>fC ρ (e ρ) λd=>(match QO d with
 |some (d1,d2)=>(match ρ[i]? with
  |some (.ow xs)=>fC ρ (k ρ) λy=>(match y with
   |.int j=>(match ixD xs.length j with
    |some m=>fC (ρ.set i (.ow (xs.set m d1))) (l (ρ.set i (.ow (xs.set m d1)))) λz=>(match z with
     |.int j2=>(match ixD (xs.set m d1).length j2 with
      |some m2=>.nx ((ρ.set i (.ow (xs.set m d1))).set i (.ow ((xs.set m d1).set m2 d2)))
      |none=>.rt .bad)
     |_=>.rt .bad)
    |none=>.rt .bad)
   |_=>.rt .bad)
  |_=>.rt .bad)
 |none=>.rt .bad)
def QQ(i:Nat)(k e:F):FS:=λρ=>match ρ[i]? with
 |some (.ow xs)=>fC ρ (k ρ) λy=>(match y with
  |.int j=>(match ixD xs.length j with
   |some m=>(match xs[m]? with
    |some (.int a)=>fC ρ (e ρ) λd=>(match d with
     |.int b=>.nx (ρ.set i (.ow (xs.set m (.int (a+b)))))
     |_=>.rt .bad)
    |_=>.rt .bad)
   |none=>.rt .bad)
  |_=>.rt .bad)
 |_=>.rt .bad
noncomputable def mZ:D->L7 (L1 D)
 |.lst xs=>pi xs
 |_=>qr
def m7(is:L1 Nat)(one:Bool)(d:D)(ρ:Rho):L7 Rho:=match one,is with
 |true,[i]=>pi (ρ.set i (.sh d))
 |false,is=>(match d with
  |.tup ds=>if ds.length=is.length then pi (setN is ds ρ)else qr
  |_=>qr)
 |_,_=>qr
noncomputable def eK(t:D->Rho->L7 Rho)(b:FS):L1 D->Rho->Out
 |[],ρ=>.nx ρ
 |d::r,ρ=>match t d ρ with
  |none=>.rt .bad
  |some ρ1=>match b ρ1 with
   |.nx ρ2=>eK t b r ρ2
   |.ct ρ2=>eK t b r ρ2
   |.bk ρ2=>.nx ρ2
   |.rt r=>.rt r
   |.ex c ρ2=>.ex c ρ2
def vM(is:L1 Nat)(one:Bool)(it:F)(b:FS):FS:=λρ=>fC ρ (it ρ) λx=>match mZ x with
 |some ds=>eK (m7 is one) b ds ρ
 |none=>.rt .bad
noncomputable def Nx:FS:=λ_=>.rt .bad
noncomputable def Rh(i j:Nat)(hit:Nat->Bool)(b:FS):FS:=λρ=>match b ρ with
 |.ex c ρ'=>if hit c then .nx ((ρ'.set i .no).set j (.sh (.exc c)))else .ex c ρ'
 |o=>o
def fnOf(n:Nat)(b:FS):Fn:=λds=>match b (ds.map Slot.sh++ao (n-ds.length) .no)with
 |.rt (.ok d)=>.ok d
 |.rt (.ow xs)=>.ow xs
 |.rt _=>.bad
 |.nx _=>.ok .non
 |.ex c _=>.ex c
 |_=>.bad
inductive Py where
 |len|range|enum|zip|isin|int|bool|str|tuple|list|sum|all|any|sorted|min|max|abs|set|dict
 deriving DecidableEq
inductive Gl where
 |fn (k n:Nat) (f:Fn)|exc (c:Nat)|verr|val (d:D)|py (p:Py)|tbl (kvs:List (Str×D))|cls (a:Nat) (ms:List (Str×Nat×FM))|rfn (a:Nat) (M:FM)|rmk (a n:Nat) (M:FR)
noncomputable def hit(c e:Nat):Bool:=c==e||c==0||c==100
structure Ctx where
 tab:List (Str×Gl)
 fns:List (Nat×Fn)
 sc:Scope
 N:List Str
 bs:List Str
noncomputable def idx(x:Str):L1 Str->L7 Nat
 |[]=>qr
 |y::r=>if x=y then pi 0 else(idx x r).map (· +1)
def loc(C:Ctx)(x:Str):L7 Nat:=match C.sc.names.lookup x with
 |some .local=>idx x C.N
 |some .cell=>idx x C.N
 |some .free=>idx x C.N
 |_=>qr
def eF(C:Ctx)(x:Str):L7 Nat:=match C.sc.names.lookup x with
 |some .cell=>idx x C.N
 |some .free=>idx x C.N
 |_=>qr
noncomputable def glo(C:Ctx)(x:Str):L7 Gl:=match C.sc.names.lookup x with
 |some .globalImplicit=>C.tab.lookup x
 |_=>qr
def isP:Gl->L7 (D->L7 Bool)
 |.py .int=>pi λd=>match d with|.int _=>pi qt|.bl _=>pi qt|.exc _=>qr|.fn _=>qr|.dct _ _=>qr|_=>pi qu
 |.py .bool=>pi λd=>match d with|.bl _=>pi qt|.exc _=>qr|.fn _=>qr|.dct _ _=>qr|_=>pi qu
 |.py .tuple=>pi λd=>match d with|.tup _=>pi qt|.exc _=>qr|.fn _=>qr|.dct _ _=>qr|_=>pi qu
 |.py .list=>pi λd=>match d with|.lst _=>pi qt|.exc _=>qr|.fn _=>qr|.dct _ _=>qr|_=>pi qu
 |.py .str=>pi λd=>match d with|.str _=>pi qt|.exc _=>qr|.fn _=>qr|.dct _ _=>qr|_=>pi qu
 |.exc c=>pi λd=>match d with|.exc e=>pi (hit c e)|_=>qr
 |.verr=>pi λd=>match d with|.exc e=>pi (hit 100 e)|_=>qr
 |_=>qr
noncomputable def kD:Const->L7 D
 |.int i=>pi (.int i)
 |.bool b=>pi (.bl b)
 |.none=>pi .non
 |.str x=>pi (.str x)
 |_=>qr
noncomputable def eL{α β:Type}(f:α->L7 β):L1 α->L7 (L1 β)
 |[]=>pi []
 |x::r=>match f x with
  |none=>qr
  |some y=>(eL f r).map (y:: ·)
def bT:Expr->L7 (L1 Str×Nat)
 |.Name x _=>pi ([x],0)
 |.Tuple es _ _=>(eL (λ(e:Expr)=>match e with|.Name x _=>pi x|_=>qr) es).bind λxs=>if 2<=xs.length then pi (xs,xs.length)else qr
 |_=>qr
noncomputable def aN(sc:Scope):L1 Str:=(sc.names.filter λp=>p.2== .free).map (·.1)
noncomputable def oC(sc:Scope):L1 Str:=(sc.names.filter λp=>p.2== .cell).map (·.1)
def iY(sc:Scope)(xs:L1 Str):Bool:=
 sc.kind== .function&&((oC sc).isEmpty||(decide (oC sc=xs)&&decide (xs.length=1)))&&xs.all (λx=>sc.names.lookup x==pi (if(oC sc).isEmpty then .local else .cell))&&
  sc.names.all (λp=>p.2 != .local||sc.names.lookup p.1==pi .local)&&decide (xs++aN sc).Nodup&&(xs++aN sc).all (λx=>x != gV&&x != hZ)&&(aN sc).all (λx=>sc.names.lookup x==pi .free)
noncomputable def KB:Expr->Bool
 |.Name _ _=>qt
 |.Subscript _ _ _=>qt
 |.List _ _=>qt
 |_=>qu
noncomputable def one:L1 Expr->L7 Expr
 |[a]=>pi a
 |_=>qr
noncomputable def two:L1 Expr->L7 (Expr×Expr)
 |[a,b]=>pi (a,b)
 |_=>qr
noncomputable def cF:Expr->L7 (Str×Pos)
 |.Name x p=>pi (x,p)
 |_=>qr
noncomputable def Gm:Expr->L7 (L1 Expr×Nat×Pos)
 |.Tuple es k p=>pi (es,k,p)
 |_=>qr
noncomputable def EG:Expr->L7 (L7 Expr×L7 Expr)
 |.Slice lo hi st _=>(match st with|none=>pi (lo,hi)|some _=>qr)
 |_=>qr
noncomputable def Gn:Expr->Bool
 |.Constant c _ _=>(match c with|.int i=>i==1|_=>qu)
 |_=>qu
def P8:Expr->Bool
 |.UnaryOp op e _=>(match op with|.USub=>Gn e|_=>qu)
 |_=>qu
noncomputable def Oi:Expr->Bool
 |.Name _ _=>qt
 |_=>qu
noncomputable def P9:Expr->Bool
 |.Subscript _ _ _=>qt
 |_=>qu
noncomputable def Oj:Expr->Bool
 |.Constant c _ _=>(match c with|.int i=>i==2|_=>qu)
 |_=>qu
def QR:Expr->L7 Expr
 |.Slice lo hi st _=>if hi.isNone&&(match st with|none=>qu|some e=>Oj e)then lo else qr
 |_=>qr
def Qa:Expr->Bool
 |.Slice lo hi st _=>lo.isNone&&hi.isNone&&(match st with|none=>qu|some e=>P8 e)
 |_=>qu
def QS(e:Expr):L7 (Str×Str):=(Gm e).bind λ(es,_)=>(two es).bind λ(u,v)=>(cF u).bind λ(x,_)=>(cF v).map λ(y,_)=>(x,y)
noncomputable def Go:Expr->Bool
 |.Constant c _ _=>(match c with|.str _=>qt|_=>qu)
 |_=>qu
def KC(dE:Expr->L7 F)(C:Ctx)(a:Expr):L7 F:=match a with
 |.Call f as kws _=>if kws.isEmpty then(cF f).bind λ(x,_)=>(one as).bind λb=>(match loc C x,glo C x with
  |none,pi (.py .range)=>dE b
  |_,_=>qr)else qr
 |_=>qr
def Gp(dE:Expr->L7 F)(C:Ctx)(a:Expr):L7 F:=match a with
 |.Call f as kws _=>if kws.isEmpty then(cF f).bind λ(x,_)=>(two as).bind λ(b,c)=>(match loc C x,glo C x with
  |none,pi (.py .zip)=>(dE b).bind λf=>(dE c).map λg=>qG f g
  |_,_=>qr)else qr
 |_=>qr
noncomputable def Ol(b:Bool)(r:Rk):L1 D:=if b then r.done else r.undone
noncomputable def zM(A i:Nat)(k:Rk->R):F:=λρ=>match ρ[i]? with
 |some (.rk C r)=>if C=A then k r else .bad
 |_=>.bad
def JG(neg:Bool)(A i:Nat)(f:F):F:=λρ=>(f ρ).bind λd=>zM A i (λr=>match d with
 |.str x=>.ok (.bl (neg != (bK r.held x).isSome))
 |_=>.bad) ρ
def CN(A i:Nat)(f:F):F:=λρ=>zM A i (λr=>(f ρ).bind λd=>match d with
 |.str x=>(match bK r.held x with|some d=>.ok d|none=>.bad)
 |_=>.bad) ρ
def CO(A i:Nat)(f:F):F:=λρ=>zM A i (λr=>(f ρ).bind λd=>match d with
 |.str x=>.ok ((bK r.held x).getD .non)
 |_=>.bad) ρ
def dQ(A i:Nat)(m:FM)(fs:L1 F):F:=λρ=>zM A i (λr=>lJ fs ρ λds=>(m r ds).told) ρ
noncomputable def ltS(x y:Str):Bool:=decide (x.cps.toList<y.cps.toList)
def Gq(x:Str):L1 Str->L1 Str
 |[]=>[x]
 |y::l=>if ltS y x then y::Gq x l else x::y::l
def gJ:L1 Str->L1 Str
 |[]=>[]
 |x::l=>Gq x (gJ l)
def vN:Fn
 |[.dct ks _]=>if ks.length<64 then .ow ((gJ ks).map D.str)else .bad
 |_=>.bad
def vO(k1 k2:Str)(f1 f2:F):F:=λρ=>(f1 ρ).bind λx=>(f2 ρ).bind λy=>if k1=k2 then .bad else .ok (.dct [k1,k2] [x,y])
noncomputable def m8:F:=λ_=>.ok (.dct [] [])
def qH(f g h:F):F:=λρ=>(f ρ).bind λx=>match x with
 |.dct ks vs=>(g ρ).bind λy=>(h ρ).bind λz=>(match y with
  |.str k=>.ok ((bK (ks.zip vs) k).getD z)
  |_=>.bad)
 |_=>.bad
def Gr(A i:Nat):F:=zM A i λr=>if r.held.length<64 then .ow ((gJ (r.held.map (·.1))).map D.str)else .bad
noncomputable def CQ:Expr->L7 (Expr×Str×Pos)
 |.Attribute o f p=>pi (o,f,p)
 |_=>qr
def atF(C:Ctx)(f:Str)(e:Expr):L7 Nat:=(CQ e).bind λ(o,g,_)=>if g=f then(cF o).bind λ(x,_)=>loc C x else qr
def Om(C:Ctx)(e:Expr):L7 (Nat×Bool):=match atF C "done" e with
 |some i=>pi (i,qt)
 |none=>(atF C "undone" e).map λi=>(i,qu)
noncomputable def rkc(C:Ctx):L7 (Nat×L1 (Str×Nat×FM)):=match C.tab.lookup ("Rack":Str)with
 |some (.cls a ms)=>pi (a,ms)
 |_=>qr
noncomputable def On:CmpOp->L7 Bool
 |.In=>pi qu
 |.NotIn=>pi qt
 |_=>qr
def KD(dE:Expr->L7 F)(C:Ctx)(A:Nat)(op:CmpOp)(a b:Expr):L7 F:=match On op with
 |some neg=>(atF C "held" b).bind λi=>(dE a).map λf=>JG neg A i f
 |none=>qr
def KG(dE:Expr->L7 F)(C:Ctx)(A:Nat)(ms:L1 (Str×Nat×FM))(o:Expr)(m:Str)(as:L1 Expr):L7 F:=match cF o with
 |some (x,_)=>(loc C x).bind λi=>(ms.lookup m).bind λ(n,M)=>if as.length<20 then(eL dE as).bind λfs=>if fs.length=n then pi (dQ A i M fs)else qr else qr
 |none=>if m="get" then(atF C "held" o).bind λi=>(one as).bind λa=>(dE a).map λg=>CO A i g else qr
def Qb(C:Ctx)(A:Nat)(x:Str)(a:Expr):L7 F:=match glo C x with
 |some (.py .sorted)=>(atF C "held" a).map λi=>Gr A i
 |some (.rfn B M)=>if B=A then(cF a).bind λ(y,_)=>(loc C y).map λi=>dQ A i M []else qr
 |_=>qr
def Ny(dE:Expr->L7 F)(C:Ctx)(e:Expr):L7 F:=match rkc C with
 |none=>qr
 |some (A,ms)=>(match e with
  |.Compare a [op] cs _=>(one cs).bind λb=>KD dE C A op a b
  |.Subscript a b _=>(atF C "held" a).bind λi=>(dE b).map λg=>CN A i g
  |.Call f as kws cp=>if kws.isEmpty then(match f with
   |.Attribute o m ap=>if(ap.endLine==cp.line)=qt then KG dE C A ms o m as else qr
   |.Name x _=>(one as).bind λa=>Qb C A x a
   |_=>qr)else qr
  |_=>qr)
noncomputable def kA:L1 D->L7 (L1 (Str×D))
 |[]=>pi []
 |d::r=>match d with
  |.tup [.str k,x]=>(kA r).map ((k,x):: ·)
  |_=>qr
def tD(ps:L1 (Str×D)):L1 (Str×D):=ps.foldl (λacc p=>fE acc p.1 p.2) []
def m9(x:D):R:=match x with
 |.lst ds=>(match kA ds with
  |some ps=>if ps.length<=1000 then .ok (.dct ((tD ps).map (·.1)) ((tD ps).map (·.2)))else .bad
  |none=>.bad)
 |_=>.bad
def zN(f:F):F:=λρ=>(f ρ).bind m9
noncomputable def Nz(o:L7 Expr):L7 Str:=o.bind λe=>match e with
 |.Constant c _ _=>(match c with|.str x=>pi x|_=>qr)
 |_=>qr
noncomputable def Oo:L1 (L7 Expr)->L7 (L7 Expr×L7 Expr)
 |[a,b]=>pi (a,b)
 |_=>qr
def dkD(dE:Expr->L7 F)(ks:L1 (L7 Expr))(vs:L1 Expr):L7 F:=if ks.isEmpty&&vs.isEmpty then pi m8 else
 (Oo ks).bind λ(k1,k2)=>(two vs).bind λ(v1,v2)=>(Nz k1).bind λx=>(Nz k2).bind λy=>(dE v1).bind λf=>(dE v2).map λg=>vO x y f g
def dkE(dE:Expr->L7 F)(C:Ctx)(e:Expr):L7 F:=match e with
 |.Call f as kws cp=>if kws.isEmpty then(match f with
  |.Attribute o m ap=>if m="get"/\Oi o=qt/\(ap.endLine==cp.line)=qt then(two as).bind λ(a,b)=>(dE o).bind λf=>(dE a).bind λg=>(dE b).map λh=>qH f g h else qr
  |.Name x _=>(one as).bind λa=>(match loc C x,glo C x with
   |none,pi (.py .dict)=>(dE a).map λf=>zN f
   |_,_=>qr)
  |_=>qr)else qr
 |_=>qr
def rkE(dE:Expr->L7 F)(C:Ctx)(e:Expr):L7 F:=match Ny dE C e with
 |some f=>pi f
 |none=>dkE dE C e
def CS(C:Ctx)(e:Expr):L7 Expr:=match e with
 |.Call f as kws _=>if kws.isEmpty then(cF f).bind λ(x,_)=>(one as).bind λa=>(match loc C x,glo C x with
  |none,pi (.py .dict)=>pi a
  |_,_=>qr)else qr
 |_=>qr
noncomputable def bsN(C:Ctx)(e:Expr):Bool:=match e with|.Name x _=>C.bs.contains x|_=>qu
def txN(dE:Expr->L7 F)(C:Ctx)(x:Str)(p:Pos)(m:Str)(a:Expr):L7 F:=match loc C x with
 |some _=>if m="split" then(dE (.Name x p)).bind λf=>(dE a).map λg=>gH f g else if m="partition" then(dE (.Name x p)).bind λf=>(dE a).map λg=>zL f g else qr
 |none=>if m="get" then(match glo C x with
  |some (.tbl kvs)=>(dE a).map λg=>Gj kvs g
  |_=>qr)else qr
def txA(dE dL:Expr->L7 F)(C:Ctx)(o:Expr)(m:Str)(as:L1 Expr):L7 F:=(one as).bind λa=>(match o with
 |.Constant c _ _=>(match c with
  |.str s=>if m="join" then(dL a).map λg=>lK s g else qr
  |_=>qr)
 |.Name x p=>txN dE C x p m a
 |_=>qr)
def Gu(dE dL:Expr->L7 F)(C:Ctx)(p:Py)(as:L1 Expr):L7 F:=match p with
 |.len=>(one as).bind λa=>(dL a).map λf=>aF pN [f]
 |.int=>(one as).bind λa=>(dL a).map λf=>aF ED [f]
 |.str=>(one as).bind λa=>(dL a).map λf=>aF zJ [f]
 |.tuple=>(one as).bind λa=>(dL a).map λf=>aF fO [f]
 |.list=>(one as).bind λa=>(match dL a with
  |some f=>pi (aF x9 [f])
  |none=>(Gp dE C a).map λf=>aF x9 [f])
 |.sum=>(one as).bind λa=>(dL a).map λf=>aF EF [f]
 |.all=>(one as).bind λa=>(dL a).map λf=>aF JD [f]
 |.any=>qr
 |.abs=>qr
 |.sorted=>qr
 |.min=>qr
 |.max=>qr
 |.isin=>(two as).bind λ(a,b)=>(cF b).bind λ(t,_)=>(if bsN C a then dL a else dE a).bind λf=>(glo C t).bind λg=>(isP g).map λP=>rIs P f
 |_=>qr
def zO(dE:Expr->L7 F)(C:Ctx)(tt:Bool)(x:Str)(as:L1 Expr):L7 F:=match glo C x,as with
 |some (.py .range),[a]=>(dE a).map eW
 |some (.py .zip),[a,b]=>if tt then(dE a).bind λf=>(dE b).map λg=>qG f g else qr
 |_,_=>qr
noncomputable def EH(x:Str):Str:=x++"{}"
mutual
def bN:Nat->Ctx->Expr->L7 F
 |0,_,_=>qr
 |n+1,C,e=>match e with
  |.Name x _=>(match loc C x with
   |some i=>pi (aB i)
   |none=>match glo C x with
    |some (.val d)=>pi (rK d)
    |some (.fn k _ _)=>pi (rK (.fn k))
    |_=>qr)
  |.Constant c _ _=>(kD c).map rK
  |.BinOp a op b _=>(bN n C a).bind λf=>(bN n C b).map λg=>aR op f g
  |.UnaryOp op a _=>(bN n C a).bind λf=>(match op with|.Not=>pi (kG f)|.USub=>pi (Gi f)|_=>qr)
  |.BoolOp op es p=>(match es with
   |[a,b]=>(bN n C a).bind λf=>(bN n C b).map λg=>(match op with|.And=>lI f g|.Or=>rOr f g)
   |a::b::c::r=>(bN n C a).bind λf=>(bN n C (.BoolOp op (b::c::r) p)).map λg=>(match op with|.And=>lI f g|.Or=>rOr f g)
   |_=>qr)
  |.Compare a ops cs q=>(match rkE (bN n C) C (.Compare a ops cs q)with
   |some f=>pi f
   |none=>match ops with
   |[op]=>(one cs).bind λb=>(bN n C a).bind λf=>(bN n C b).map λg=>bR op f g
   |[op,op']=>(two cs).bind λ(b,c)=>(bN n C a).bind λf=>(bN n C b).bind λg=>(bN n C c).map λh=>fN op op' f g h
   |_=>qr)
  |.Dict ks vs _=>dkD (bN n C) ks vs
  |.Tuple es _ _=>if es.length<=1000 then(eL (bN n C) es).map fD else qr
  |.List es _=>if es.length<=1000 then(eL (bN n C) es).map gZ else qr
  |.Subscript a b q=>(match rkE (bN n C) C (.Subscript a b q)with
   |some f=>pi f
   |none=>(yA n C a).bind λf=>(match EG b with
   |some (lo,hi)=>(match lo with
    |none=>pi qr
    |some l=>(bN n C l).map pi).bind λl=>(match hi with
    |none=>pi qr
    |some h=>(bN n C h).map pi).map λh=>dS f l h
   |none=>if Qa b then pi (KA f)else(bN n C b).map λg=>rIx f g))
  |.ListComp elt gens sc _=>(match gens with
   |[⟨tg,it,ifs,as⟩]=>if as=0 then(bT tg).bind λ(xs,k)=>(Cs n C (k != 0) it).bind λfi=>if iY sc xs then
     (eL (λx=>eF C x) (aN sc)).bind λcs=>(match ifs with
     |[]=>pi qr
     |[c]=>(bN n {C with sc:=sc,N:=xs++aN sc} c).map pi
     |_=>qr).bind λc=>(bN n {C with sc:=sc,N:=xs++aN sc} elt).map λe=>aY k cs fi c e
    else qr else qr
   |_=>qr)
  |.Call f as kws cp=>(match rkE (bN n C) C (.Call f as kws cp)with
   |some f=>pi f
   |none=>(if kws.isEmpty then(match f with
   |.Name x _=>(match loc C x with
    |some _=>qr
    |none=>(match glo C x with
     |some (.fn _ k f)=>if as.isEmpty then qr else(eL (bN n C) as).bind λfs=>if fs.length=k then pi (aF f fs)else qr
     |some (.py p)=>Gu (bN n C) (yA n C) C p as
     |_=>qr))
   |.Attribute o m ap=>(match txA (bN n C) (yA n C) C o m as with
    |some f=>if ap.endLine==cp.line then pi f else qr
    |none=>(one as).bind λa=>if KB o&&ap.endLine==cp.line then(yA n C o).bind λf=>(bN n C a).bind λg=>
     if m="count" then pi (oA vK f g)else if m="index" then pi (oA vL f g)else qr else qr)
   |_=>qr)else qr))
  |_=>qr
def yA:Nat->Ctx->Expr->L7 F
 |0,_,_=>qr
 |n+1,C,e=>match e with
  |.Name x p=>(match loc C x with
   |some i=>pi (aC i)
   |none=>bN n C (.Name x p))
  |e=>bN n C e
def Cs:Nat->Ctx->Bool->Expr->L7 F
 |0,_,_,_=>qr
 |n+1,C,tt,e=>match e with
  |.Call f as kws q=>(match f with
   |.Name x p=>(match loc C x,glo C x,kws with
    |none,pi (.py .range),[]=>zO (bN n C) C tt x as
    |none,pi (.py .zip),[]=>zO (bN n C) C tt x as
    |none,pi (.py .enum),[]=>zO (bN n C) C tt x as
    |_,_,_=>bN n C (.Call (.Name x p) as kws q))
   |f=>bN n C (.Call f as kws q))
  |e=>yA n C e
end
def gv:Expr->L1 Str
 |.Name x _=>[x]
 |.Tuple es _ _=>es.filterMap λe=>(cF e).map (·.1)
 |_=>[]
def jR(C:Ctx)(e:Expr):L1 Nat:=match C.bs with
 |[]=>[]
 |_=>((gv e).filter λx=>C.bs.contains x).filterMap λx=>loc C x
def dU(is:L1 Nat)(s:FS):FS:=match is with
 |[]=>s
 |is=>JF is s
def zP:Nat->L1 Stmt->L1 Str
 |0,_=>[]
 |n+1,ss=>ss.flatMap λs=>match s with
  |.Assign [.Subscript (.Name x _) _ _] _ _=>[x]
  |.Assign [.Name x _] (.Dict [] [] _) _=>[EH x]
  |.Assign [.Tuple [_,.Name x _] _ _] (.Tuple [_,.Dict [] [] _] _ _) _=>[EH x]
  |.AugAssign (.Subscript (.Name x _) _ _) _ _ _=>[x]
  |.Assign [.Tuple [.Subscript (.Name x _) _ _,_] _ _] _ _=>[x]
  |.Expr (.Call (.Attribute (.Name x _) m _) _ _ _) _=>if m="append"\/m="extend"\/m="remove" then [x]else []
  |.If _ a b _=>zP n a++zP n b
  |.For _ _ b _ _=>zP n b
  |.While _ b _ _=>zP n b
  |.Return (pi (.Name x _)) _=>if x="numbers" then [x]else []
  |_=>[]
noncomputable def zQ:Expr->Bool
 |.Call _ _ _ _=>qt
 |.Name _ _=>qt
 |.Subscript _ _ _=>qt
 |.ListComp _ _ _ _=>qt
 |_=>qu
noncomputable def qI(C:Ctx)(x y:Str)(px py:Pos)(a b:Expr):Bool:=
 C.sc.names.lookup x==pi .local&&C.sc.names.lookup y==pi .local&&x != y&&px.line==py.line&& !([a,b].all (foldedForSure 8))&& !([a,b].all (constantsAlone 8))&& !C.bs.contains x&& !C.bs.contains y
noncomputable def Ri:Operator->Bool
 |.Add=>qt
 |_=>qu
noncomputable def Qc:Operator->Bool
 |.Add=>qt
 |.Sub=>qt
 |_=>qu
def Qd(C:Ctx)(tt:Bool)(it:Expr):L7 F:=match it with
 |.Name x p=>bN 50 C (.Name x p)
 |it=>Cs 50 C tt it
structure Par where
 x:Str
 px:Pos
 y:Str
 py:Pos
 a:Expr
 b:Expr
def KH(es:L1 Expr)(e:Expr):L7 Par:=(two es).bind λ(u,v)=>(cF u).bind λ(x,px)=>(cF v).bind λ(y,py)=>(Gm e).bind λ(vs,_)=>(two vs).map λ(a,b)=>⟨x,px,y,py,a,b⟩
structure Par3 where
 x:Str
 px:Pos
 y:Str
 py:Pos
 z:Str
 pz:Pos
 a:Expr
 b:Expr
 c:Expr
noncomputable def CT:L1 Expr->L7 (Expr×Expr×Expr)
 |[a,b,c]=>pi (a,b,c)
 |_=>qr
def Rj(es:L1 Expr)(e:Expr):L7 Par3:=(CT es).bind λ(u,v,w)=>(cF u).bind λ(x,px)=>(cF v).bind λ(y,py)=>(cF w).bind λ(z,pz)=>(Gm e).bind λ(vs,_)=>(CT vs).map λ(a,b,c)=>⟨x,px,y,py,z,pz,a,b,c⟩
noncomputable def Qe(C:Ctx)(q:Par3):Bool:=
 C.sc.names.lookup q.x==pi .local&&C.sc.names.lookup q.y==pi .local&&C.sc.names.lookup q.z==pi .local&&q.x != q.y&&q.x != q.z&&q.y != q.z&&q.px.line==q.py.line&&q.px.line==q.pz.line&& !([q.a,q.b,q.c].all (foldedForSure 8))&& !([q.a,q.b,q.c].all (constantsAlone 8))&& !C.bs.contains q.x&& !C.bs.contains q.y&& !C.bs.contains q.z
def Qf:Expr->L7 (Str×Expr)
 |.Subscript o k _=>(cF o).map λ(x,_)=>(x,k)
 |_=>qr
def Rl(es:L1 Expr)(e:Expr):L7 (Str×Expr×Expr):=(two es).bind λ(u,v)=>(Qf u).bind λ(x,k)=>(Qf v).bind λ(y,l)=>(Gm e).bind λ(vs,_)=>(two vs).bind λ_=>if x=y then pi (x,k,l)else qr
noncomputable def KI:L1 Stmt->L7 Stmt
 |[s]=>pi s
 |_=>qr
def QT:Stmt->L7 (Str×Str)
 |.Assign ts e _=>(one ts).bind λt=>(cF t).bind λ(x,_)=>(cF e).map λ(y,_)=>(x,y)
 |_=>qr
def Rm(C:Ctx)(hs:L1 ExceptHandler):L7 (Nat×Nat):=match hs with
 |[.ExceptHandler ty nm b _]=>ty.bind λte=>nm.bind λe=>(cF te).bind λ(cx,_)=>(KI b).bind λs=>(QT s).bind λ(x,e')=>(match loc C cx,glo C cx with
  |none,pi (.exc c)=>if c=0/\e=e' then(loc C e).bind λi=>(loc C x).bind λj=>if C.sc.names.lookup e==pi .local&&i != j&&C.bs.isEmpty then pi (i,j)else qr else qr
  |_,_=>qr)
 |_=>qr
mutual
def Ct:Nat->Bool->Ctx->Stmt->L7 FS
 |0,_,_,_=>qr
 |n+1,t,C,s=>match s with
  |.Pass _=>pi bC
  |.Return v _=>(match v with
   |none=>qr
   |some e=>(match cF e with
    |some (x,_)=>(match loc C x with
     |some i=>pi (dM (aB i))
     |none=>(bN 50 C e).map dM)
    |none=>(bN 50 C e).map λf=>dU (jR C e) (dM f)))
  |.Assign ts e _=>(one ts).bind λtg=>(match tg with
   |.Name x _=>(loc C x).bind λi=>(match if C.bs.contains x then CS C e else qr with
    |some a=>(bN 50 C a).map λf=>dU (jR C a) (mY i f)
    |none=>(bN 50 C e).map λf=>dU (jR C e) (if C.bs.contains x then yU i f else fL i f))
   |.Tuple es a b=>(match KH es e with
    |some ⟨x,px,y,py,a,b⟩=>if qI C x y px py a b then(loc C x).bind λi=>(loc C y).bind λj=>(bN 50 C a).bind λf=>(bN 50 C b).map λg=>dU (jR C e) (iE [i,j] (fD [f,g]))else qr
    |none=>(if zQ e then pi ()else qr).bind λ_=>(bT (.Tuple es a b)).bind λ(xs,_)=>(eL (λx=>loc C x) xs).bind λis=>if xs.all (λx=> !C.bs.contains x)then
     (bN 50 C e).map λf=>dU (jR C e) (iE is f)else qr)
   |.Subscript o k _=>(cF o).bind λ(x,_)=>(loc C x).bind λi=>if C.bs.contains x then(bN 50 C e).bind λf=>(bN 50 C k).map λg=>dU (jR C e++jR C k) (Cr i g f)else qr
   |_=>qr)
  |.Expr e _=>(match e with
   |.Call f as kws cp=>if kws.isEmpty then(match f with
    |.Attribute o m ap=>(cF o).bind λ(x,_)=>(one as).bind λe=>(loc C x).bind λi=>if C.bs.contains x&&ap.endLine==cp.line then(bN 50 C e).bind λf=>
      if m="append" then pi (dU (jR C e) (CM i f))else if m="extend" then pi (dU (jR C e) (Gk i f))else qr else qr
    |.Name x p=>(bN 50 C (.Call (.Name x p) as [] cp)).map λf=>dU (jR C (.Call (.Name x p) as [] cp)) (iF f)
    |_=>qr)else qr
   |_=>qr)
  |.If c a b _=>(bN 50 C c).bind λf=>(kH n t C a).bind λg=>(kH n t C b).map λh=>dU (jR C c) (sIf f g h)
  |.For tg it b els _=>if t|| !els.isEmpty||(cF it).isSome then qr else((bT tg).bind λ(xs,k)=>(Cs 50 C qu it).bind λf=>(eL (λx=>loc C x) xs).bind λis=>if xs.all (λx=> !C.bs.contains x)then
    (kH n t C b).map λg=>dU (jR C it) (vM is (k==0) f g)else qr)
  |.Raise x c _=>if t||c.isSome then qr else x.bind λe=>(match e with
   |.Call f as kws _=>if kws.isEmpty then(cF f).bind λ(x,_)=>(one as).bind λa=>if Go a then(match loc C x,glo C x with
    |none,pi (.exc c)=>pi (gI c)
    |_,_=>qr)else qr else qr
   |_=>qr)
  |_=>qr
def kH:Nat->Bool->Ctx->L1 Stmt->L7 FS
 |0,_,_,_=>qr
 |n+1,t,C,ss=>match ss with
  |[]=>pi bC
  |[a]=>pi ((Ct n t C a).getD Nx)
  |a::r=>(kH n t C r).map λg=>aT ((Ct n t C a).getD Nx) g
end
noncomputable def cT(a:Arguments):L7 (L1 Str):=if a.posonlyargs.isEmpty&&a.vararg.isNone&&a.kwonlyargs.isEmpty&&a.kwarg.isNone&&a.defaults.isEmpty then pi (a.args.map (·.arg))else qr
noncomputable def aA(sc:Scope):L1 Str:=(sc.names.filter λp=>p.2== .local||p.2== .cell).map (·.1)
noncomputable def bO(N P:L1 Str)(sc:Scope):Bool:=
 sc.kind== .function&& !sc.isCoroutine&& !sc.isGenerator&&decide N.Nodup&&decide (N.take P.length=P)&&
  P.all (λx=>sc.names.lookup x==pi .local||sc.names.lookup x==pi .cell)&&sc.names.all (λp=>p.2 != .free)&&N.all (λx=>x != gV&&x != hZ)
def Gv(tab:L1 (Str×Gl))(fns:L1 (Nat×Fn))(s:Stmt):L7 (Nat×Fn):=match s with
 |.FunctionDef _ as b _ _ _ sc _ _ _=>(cT as).bind λP=>if bO (aA sc) P sc then
   (kH 100 qu ⟨tab,fns,sc,aA sc,zP 50 b⟩ b).map λg=>(P.length,fnOf (aA sc).length g)else qr
 |_=>qr
def JH(g:Gl):D->L7 Bool:=(isP g).getD λ_=>qr
def KJ:D->L7 Bool:=JH (.py .int)
def Gw:D->L7 Bool:=JH (.py .bool)
def oE:D->L7 Bool:=JH (.py .tuple)
def zR:D->L7 Bool:=JH (.py .str)
def mT:Nat->D->L7 Bool
 |100=>JH .verr
 |c=>JH (.exc c)
mutual
noncomputable def eR:D->PyData
 |.non=>.none
 |.bl b=>.bool b
 |.int i=>.int i
 |.str x=>.str x
 |.tup xs=>.tuple (gA xs)
 |.lst xs=>.list (gA xs)
 |.exc _=>.none
 |.fn _=>.none
 |.dct _ _=>.none
noncomputable def gA:L1 D->L1 PyData
 |[]=>[]
 |x::xs=>eR x::gA xs
end
mutual
theorem kB: ∀{d:D},plain d=qt->(eR d).canLay0=qt
 |.non,_=>by simp[eR,mf]
 |.bl _,_=>by simp[eR,mf]
 |.int _,_=>by simp[eR,mf]
 |.str x,h=>by
  unfold plain at h;simp only[eR,mf];exact h
 |.tup xs,h=>by
  simp only[eR,mf];exact tF (by simpa[plain]using h)
 |.lst xs,h=>by
  simp only[eR,mf];exact tF (by simpa[plain]using h)
 |.exc _,h=>by simp[plain]at h
 |.fn _,h=>by simp[plain]at h
 |.dct _ _,h=>by simp[plain]at h
theorem tF: ∀{ds:L1 D},cS ds=qt->jo (gA ds)=qt
 |[],_=>by simp[gA,jo]
 |d::ds,h=>by
  have b:plain d=qt/\cS ds=qt:=by simpa[cS]using h
  simp only[gA,jo,kB b.1,tF b.2,Bool.and_self]
end
mutual
theorem lL: ∀(d:D),(eR d).depth=dep d
 |.non=>by simp[eR,oo,dep]
 |.bl _=>by simp[eR,oo,dep]
 |.int _=>by simp[eR,oo,dep]
 |.str x=>by simp[eR,oo,dep]
 |.tup b=>by simp[eR,oo,dep,tG b]
 |.lst b=>by simp[eR,oo,dep,tG b]
 |.exc _=>by simp[eR,oo,dep]
 |.fn _=>by simp[eR,oo,dep]
 |.dct _ _=>by simp[eR,oo,dep]
theorem tG: ∀(ds:L1 D),PyData.depthAll (gA ds)=CL ds
 |[]=>by simp[gA,PyData.depthAll,CL]
 |d::ds=>by simp[gA,PyData.depthAll,CL,lL d,tG ds]
end
def EI b:b2i b=if b then 1 else 0:=rfl
mutual
theorem lN: ∀(x y:D),plain x=qt->plain y=qt->pw (eR x) (eR y)=deq x y
 |.non,y,_,h=>by cases y<;>simp[plain]at h<;>simp[eR,pw,deq]
 |.bl a,y,_,h=>by cases y<;>simp[plain]at h<;>simp[eR,pw,deq,EI]
 |.int a,y,_,h=>by cases y<;>simp[plain]at h<;>simp[eR,pw,deq,EI]
 |.str a,y,_,h=>by cases y<;>simp[plain]at h<;>simp[eR,pw,deq]
 |.tup xs,y,g,h=>by
  cases y with
  |tup b=>simpa[eR,pw,deq]using oF xs b (by simpa[plain]using g) (by simpa[plain]using h)
  |_=>simp[plain]at h<;>simp[eR,pw,deq]
 |.lst xs,y,g,h=>by
  cases y with
  |lst b=>simpa[eR,pw,deq]using oF xs b (by simpa[plain]using g) (by simpa[plain]using h)
  |_=>simp[plain]at h<;>simp[eR,pw,deq]
 |.exc _,_,g,_=>by simp[plain]at g
 |.fn _,_,g,_=>by simp[plain]at g
 |.dct _ _,_,g,_=>by simp[plain]at g
theorem oF: ∀(xs ys:L1 D),cS xs=qt->cS ys=qt->mx (gA xs) (gA ys)=CK xs ys
 |[],[],_,_=>by simp[gA,mx,CK]
 |[],_::_,_,_=>by simp[gA,mx,CK]
 |_::_,[],_,_=>by simp[gA,mx,CK]
 |x::xs,y::ys,g,h=>by
  have b:plain x=qt/\cS xs=qt:=by simpa[cS]using g
  have c:plain y=qt/\cS ys=qt:=by simpa[cS]using h
  simp only[gA,mx,CK,lN x y b.1 c.1,oF xs ys b.2 c.2]
end
abbrev St:=L2.St
structure Ad where
 cls:Nat->Addr
 fnA:Nat->Addr
 nb:Nat
def oG(h:Heap)(x C:Addr):Prop:= ∃o vs,h.get? x=pi o/\o.cls= .ref C/\o.data= .fields vs
noncomputable def EJ(C a:Addr):HO:=.ext λh=>oG h a C
section
variable (K:nq) (ad:Ad)
mutual
noncomputable def Rep(G:Hp):D->V->Prop
 |.non,v=>v= .non
 |.bl b,v=>v= .bl b
 |.int i,v=>v= .int i
 |.str x,v=>v= .str x
 |.tup ds,v=>∃a vs,v= .ref a/\SqT K G a vs/\aI G ds vs
 |.lst ds,v=>∃a vs,v= .ref a/\SqL K G a vs/\aI G ds vs
 |.exc c,v=>∃a,v= .ref a/\G a=pi (EJ (ad.cls c) a)
 |.fn k,v=>v= .ref (ad.fnA k)
 |.dct ks ds,v=>∃a o es,v= .ref a/\G a=pi (.frz o (.dK es))/\es.map (·.1)=ks.map qo/\aI G ds (es.map (·.2))
noncomputable def aI(G:Hp):L1 D->L1 V->Prop
 |[],vs=>vs=[]
 |d::ds,vs=>∃v r,vs=v::r/\Rep G d v/\aI G ds r
end
end
section
variable{K:nq}{ad:Ad}{G G' H H':Hp}
def _root_.L2.Same.seqT{K}{H H'}(e:Same H H')(h:SqT K H a xs):SqT K H' a xs:=by rcases h with (h|⟨o,h⟩)|h;exact .inl (.inl (e _ _ h));exact .inl (.inr ⟨o,e _ _ h⟩);exact .inr h
mutual
theorem Rep.mono(e:Same G G'): ∀{d:D} {v:V},Rep K ad G d v->Rep K ad G' d v
 |.non,_,h=>h
 |.bl _,_,h=>h
 |.int _,_,h=>h
 |.str _,_,h=>h
 |.tup ds,v,h=>by
  unfold Rep at h ⊢;obtain⟨a,g,b,c,f⟩:=h;exact⟨a,g,b,e.seqT c,aI.mono e f⟩
 |.lst ds,v,h=>by
  unfold Rep at h ⊢;obtain⟨a,g,b,c,f⟩:=h;exact⟨a,g,b,e.seq c,aI.mono e f⟩
 |.exc _,_,h=>by
  unfold Rep at h ⊢;obtain⟨a,b,c⟩:=h;exact⟨a,b,e _ _ c⟩
 |.fn _,_,h=>h
 |.dct ks ds,v,h=>by
  unfold Rep at h ⊢;obtain⟨a,o,j,b,c,f,i⟩:=h;exact⟨a,o,j,b,e _ _ c,f,aI.mono e i⟩
theorem aI.mono(e:Same G G'): ∀{ds:L1 D} {vs:L1 V},aI K ad G ds vs->aI K ad G' ds vs
 |[],_,h=>h
 |d::ds,vs,h=>by
  unfold aI at h ⊢;obtain⟨v,r,c,f,b⟩:=h;exact⟨v,r,c,Rep.mono e f,aI.mono e b⟩
end
theorem aI.length: ∀{ds} {vs},aI K ad G ds vs->vs.length=ds.length
 |[],_,h=>by
  unfold aI at h;subst h;rfl
 |d::ds,vs,h=>by
  unfold aI at h;obtain⟨v,r,rfl,_,b⟩:=h;simp[aI.length b]
def aI.nil:aI K ad G [] []:=by unfold aI;rfl
def aI.cons{d}{v}{ds}{vs}(h:Rep K ad G d v)(t:aI K ad G ds vs):aI K ad G (d::ds) (v::vs):=by unfold aI;exact⟨v,vs,rfl,h,t⟩
theorem aI.get: ∀{ds} {vs} {i:Nat} {d},aI K ad G ds vs->ds[i]? =pi d->∃v,vs[i]? =pi v/\Rep K ad G d v
 |[],_,_,_,_,e=>by simp at e
 |d::ds,vs,i,d',h,e=>by
  unfold aI at h;obtain⟨v,r,rfl,f,c⟩:=h;rcases i with _|i;simp at e;subst e;exact⟨v,rfl,f⟩;obtain⟨w,a,b⟩:=aI.get (i:=i) (d:=d') c (by simpa using e);exact⟨w,by simpa using a,b⟩
theorem aI.append: ∀{ds es} {vs ws},aI K ad G ds vs->aI K ad G es ws->aI K ad G (ds++es) (vs++ws)
 |[],_,_,_,h,t=>by
  unfold aI at h;subst h;exact t
 |d::ds,es,vs,ws,h,t=>by
  unfold aI at h;obtain⟨v,r,rfl,c,b⟩:=h;exact aI.cons c (aI.append b t)
theorem aI.drop: ∀n {ds} {vs},aI K ad G ds vs->aI K ad G (ds.drop n) (vs.drop n)
 |0,_,_,h=>h
 |n+1,[],_,h=>by
  unfold aI at h;subst h;exact aI.nil
 |n+1,d::ds,vs,h=>by
  unfold aI at h;obtain⟨v,r,rfl,c,b⟩:=h;exact aI.drop n b
theorem aI.take: ∀n {ds} {vs},aI K ad G ds vs->aI K ad G (ds.take n) (vs.take n)
 |0,_,_,_=>aI.nil
 |n+1,[],_,h=>by
  unfold aI at h;subst h;exact aI.nil
 |n+1,d::ds,vs,h=>by
  unfold aI at h;obtain⟨v,r,rfl,c,b⟩:=h;exact aI.cons c (aI.take n b)
theorem aI.set{d}{v}(q:Rep K ad G d v): ∀n {ds} {vs},aI K ad G ds vs->aI K ad G (ds.set n d) (vs.set n v)
 |_,[],_,h=>by
  unfold aI at h;subst h;exact aI.nil
 |0,_::ds,vs,h=>by
  unfold aI at h;obtain⟨w,r,rfl,c,b⟩:=h;exact aI.cons q b
 |n+1,e::ds,vs,h=>by
  unfold aI at h;obtain⟨w,r,rfl,c,b⟩:=h;exact aI.cons c (aI.set q n b)
theorem aI.rep{ds}{vs}(h:aI K ad G ds vs): ∀k,aI K ad G (ao k ds).flatten (ao k vs).flatten
 |0=>aI.nil
 |k+1=>by
  simp only[ij,jl];exact aI.append h (aI.rep h k)
theorem aI.map_int: ∀{ns:L1 Int},aI K ad G (ns.map D.int) (ns.map V.int)
 |[]=>aI.nil
 |_::_=>aI.cons (by unfold Rep;rfl) aI.map_int
structure Step(G H G' H':Hp):Prop where
 sg:Same G G'
 gh:Same G' H'
 sh:Same H H'
 nw: ∀b,G b=qr->G' b≠qr->H b=qr
def qJ(e:Same H H')(h:H' b=qr):H b=qr:=e.free h
theorem Step.refl(h:Same G H):Step G H G H:=⟨Same.refl _,h,Same.refl _,λb c d=>absurd c d⟩
theorem Step.trans(a:Step G H G1 H1)(b:Step G1 H1 G2 H2):Step G H G2 H2:=
 ⟨a.sg.trans b.sg,b.gh,a.sh.trans b.sh,λx c d=>by
  rcases q:G1 x with _|o;exact a.sh.free (b.nw x q d);exact a.nw x c (by rw[q];exact λz=>nomatch z)⟩
def Same.upd_new(h:H p=qr):Same H (upd H p o):=λb u e=>by rw[aD (aQ e h)];exact e
def Step.new(h:Same G H)(n:H p=qr):Step G H (upd G p o) (upd H p o):=by have f:G p=qr:=h.free n;refine⟨Same.upd_new f,λb u e=>?_,Same.upd_new n,λb d c=>?_⟩;by_cases q:b=p;subst q;rw[aH]at e ⊢;exact e;rw[aD q]at e ⊢;exact h b u e;by_cases q:b=p;subst q;exact n;rw[aD q]at c;exact absurd d c
def Step.own(h:Same G H)(n:H p=qr):Step G H G (upd H p o):=
 ⟨Same.refl _,h.trans (Same.upd_new n),Same.upd_new n,λb c d=>absurd c d⟩
def Step.shareO(s:Step G H G' H')(n:H p=qr)(m:G' p=qr)(e:H' p=pi o):Step G H (upd G' p o) H':=by refine⟨s.sg.trans (Same.upd_new m),λb u q=>?_,s.sh,λb d c=>?_⟩;by_cases z:b=p;subst z;rw[aH]at q;rw[e];exact q;rw[aD z]at q;exact s.gh b u q;by_cases z:b=p;subst z;exact n;rw[aD z]at c;exact s.nw b d c
def Step.share(s:Step G H G' H')(n:H p=qr)(m:G' p=qr)(e:H' p=pi (.lst vs)):Step G H (upd G' p (.lst vs)) H':=s.shareO n m e
mutual
noncomputable def hD:D->Int
 |.non=>0xFCA86420
 |.int i=>hashInt i
 |.tup xs=>reduceHash (Builtin.Tuple.tupleHashOf (hDs xs))
 |_=>0
noncomputable def hDs:L1 D->L1 Int
 |[]=>[]
 |x::xs=>hD x::hDs xs
end
def HR(K:nq)(ad:Ad)(G:Hp):L1 (Str×D)->L1 (Key×V)->Prop:=Paired λp q=>q.1=qo p.1/\Rep K ad G p.2 q.2
noncomputable def dcO(_:Addr)(es:L1 (Key×V)):HO:=.dK es
noncomputable def sdO(_:Addr)(es:Obj×L1 (Key×V)):HO:=.frz es.1 (.dK es.2)
abbrev DR:=HR
def KOk(_:L1 (Str×D)):Prop:=True
theorem HR.mono{K}{ad}{G G'}(h:HR K ad G ps qs)(e:Same G G'):HR K ad G' ps qs:=Paired.mapP h λ_ _ z=>⟨z.1,z.2.mono e⟩
structure RackIn(K:nq)(ad:Ad)(C:Addr)(G H:Hp)(p:Addr)(r:Rk)(dx d l1 l2:Addr):Prop where
 ins:H p=pi (.ins C dx [("held",.ref d),("done",.ref l1),("undone",.ref l2)])
 own:H dx=pi (.own p)
 held: ∃kvs,H d=pi (.dK kvs)/\HR K ad G r.held kvs
 done: ∃vs,H l1=pi (.lst vs)/\aI K ad G r.done vs
 undone: ∃vs,H l2=pi (.lst vs)/\aI K ad G r.undone vs
 ne:l1≠l2
 gp:G p=qr
 gx:G dx=qr
 gd:G d=qr
 g1:G l1=qr
 g2:G l2=qr
def Step.gnone{G H G' H'}(st:Step G H G' H')(g:G b=qr)(h:H b=pi o):G' b=qr:=by rcases q:G' b with _|c;rfl;have:=st.nw b g (by rw[q];exact λz=>nomatch z);rw[h]at this;cases this
def RackIn.step{K}{ad}{G H G' H'}(h:RackIn K ad C G H p r dx d l1 l2)(st:Step G H G' H'):RackIn K ad C G' H' p r dx d l1 l2:=by obtain⟨kvs,c,g⟩:=h.held;obtain⟨i,b,l⟩:=h.done;obtain⟨j,e,f⟩:=h.undone;exact⟨st.sh _ _ h.ins,st.sh _ _ h.own,⟨kvs,st.sh _ _ c,g.mono st.sg⟩,⟨i,st.sh _ _ b,l.mono st.sg⟩,⟨j,st.sh _ _ e,f.mono st.sg⟩,h.ne,st.gnone h.gp h.ins,st.gnone h.gx h.own,st.gnone h.gd c,st.gnone h.g1 b,st.gnone h.g2 e⟩
def RackIn.up{K}{ad}{G H H'}(h:RackIn K ad C G H p r dx d l1 l2)(s:Same H H'):RackIn K ad C G H' p r dx d l1 l2:=by obtain⟨kvs,e,g⟩:=h.held;obtain⟨i,b,l⟩:=h.done;obtain⟨j,f,c⟩:=h.undone;exact⟨s _ _ h.ins,s _ _ h.own,⟨kvs,s _ _ e,g⟩,⟨i,s _ _ b,l⟩,⟨j,s _ _ f,c⟩,h.ne,h.gp,h.gx,h.gd,h.g1,h.g2⟩
def SLi(K:nq)(ad:Ad)(G H:Hp):Slot->L7 V->Prop
 |.no,_=>True
 |.sh d,ov=>∃v,ov=pi v/\Rep K ad G d v
 |.ow xs,ov=>∃a vs,ov=pi (.ref a)/\G a=qr/\H a=pi (.lst vs)/\aI K ad G xs vs
 |.dc kvs,ov=>∃a es,ov=pi (.ref a)/\G a=qr/\H a=pi (dcO a es)/\DR K ad G kvs es/\KOk kvs
 |.sd kvs,ov=>∃a es,ov=pi (.ref a)/\G a=qr/\H a=pi (sdO a es)/\DR K ad G kvs es.2/\KOk kvs
 |.rk C r,ov=>∃p dx d l1 l2,ov=pi (.ref p)/\RackIn K ad C G H p r dx d l1 l2
structure SL(K:nq)(ad:Ad)(G H:Hp)(ρ:Rho)(σ:St):Prop where
 len:ρ.length=σ.length
 at_: ∀(i:Nat) (s:Slot),ρ[i]? =pi s->∃ov,σ[i]? =pi ov/\SLi K ad G H s ov
theorem SLi.step(st:Step G H G' H'): ∀{s} {ov},SLi K ad G H s ov->SLi K ad G' H' s ov
 |.no,_,_=>trivial
 |.sh d,_,⟨v,h1,h2⟩=>⟨v,h1,h2.mono st.sg⟩
 |.ow xs,_,⟨a,vs,h1,h2,h3,h4⟩=>by
  refine⟨a,vs,h1,?_,st.sh _ _ h3,h4.mono st.sg⟩;rcases q:G' a with _|o;rfl;have:=st.nw a h2 (by rw[q];exact λz=>nomatch z);rw[h3]at this;cases this
 |.dc kvs,_,⟨a,es,h1,h2,h3,h4,h5⟩=>by
  refine⟨a,es,h1,?_,st.sh _ _ h3,h4.mono st.sg,h5⟩;rcases q:G' a with _|o;rfl;have:=st.nw a h2 (by rw[q];exact λz=>nomatch z);rw[h3]at this;cases this
 |.sd kvs,_,⟨a,es,h1,h2,h3,h4,h5⟩=>by
  refine⟨a,es,h1,?_,st.sh _ _ h3,h4.mono st.sg,h5⟩;rcases q:G' a with _|o;rfl;have:=st.nw a h2 (by rw[q];exact λz=>nomatch z);rw[h3]at this;cases this
 |.rk C r,_,⟨p,dx,d,l1,l2,h1,h2⟩=>⟨p,dx,d,l1,l2,h1,h2.step st⟩
theorem SL.step(h:SL K ad G H ρ σ)(st:Step G H G' H'):SL K ad G' H' ρ σ:=
 ⟨h.len,λi s e=>let ⟨ov,h1,h2⟩:=h.at_ i s e;⟨ov,h1,h2.step st⟩⟩
theorem SL.sh{i:Nat}(h:SL K ad G H ρ σ)(e:ρ[i]? =pi (.sh d)): ∃v,σ[i]? =pi (pi v)/\Rep K ad G d v:=by obtain⟨f,c,v,rfl,b⟩:=h.at_ i _ e;exact⟨v,c,b⟩
theorem SL.ow{i:Nat}(h:SL K ad G H ρ σ)(e:ρ[i]? =pi (.ow xs)): ∃a vs,σ[i]? =pi (pi (.ref a))/\G a=qr/\H a=pi (.lst vs)/\aI K ad G xs vs:=by obtain⟨d,c,a,vs,rfl,b⟩:=h.at_ i _ e;exact⟨a,vs,c,b⟩
theorem SL.dc{i:Nat}(h:SL K ad G H ρ σ)(e:ρ[i]? =pi (.dc kvs)): ∃a es,σ[i]? =pi (pi (.ref a))/\G a=qr/\H a=pi (dcO a es)/\DR K ad G kvs es/\KOk kvs:=by obtain⟨d,c,a,es,rfl,b⟩:=h.at_ i _ e;exact⟨a,es,c,b⟩
theorem SL.rk{i C:Nat}(h:SL K ad G H ρ σ)(e:ρ[i]? =pi (.rk C r)): ∃p dx d l1 l2,σ[i]? =pi (pi (.ref p))/\RackIn K ad C G H p r dx d l1 l2:=by obtain⟨f,c,p,dx,d,l1,l2,rfl,b⟩:=h.at_ i _ e;exact⟨p,dx,d,l1,l2,c,b⟩
def RK(K:nq)(ad:Ad)(G H:Hp)(r:R)(Q:VK)(E:Nat->Hp->Prop):Prop:=match r with
 |.ok d=>∀v G' H',Step G H G' H'->Rep K ad G' d v->Q v H'
 |.ow xs=>∀p vs G' H',Step G H G' H'->H p=qr->G' p=qr->H' p=pi (.lst vs)->aI K ad G' xs vs->Q (.ref p) H'
 |.ex c=>∀G' H',Step G H G' H'->E c H'
 |.bad=>False
def RK.step(h:RK K ad G H r Q E)(st:Step G H G' H'):RK K ad G' H' r Q E:=by rcases r with d|j|c|_;exact λv f g b q=>h v f g (st.trans b) q;exact λp i f g b n m e q=>h p i f g (st.trans b) (st.sh.free n) m e q;exact λf g b=>h f g (st.trans b);exact h
def RK.ok_now(h:RK K ad G H (.ok d) Q E)(e:Same G H)(q:Rep K ad G d v):Q v H:=h v G H (Step.refl e) q
def RK.ow_new(h:RK K ad G H (.ow xs) Q E)(e:Same G H)(q:aI K ad G xs vs)(n:H p=qr):Q (.ref p) (upd H p (.lst vs)):=
 h p vs G (upd H p (.lst vs)) (Step.own e n) n (e.free n) aH q
def RK.tup_new(h:RK K ad G H (.ok (.tup xs)) Q E)(e:Same G H)(q:aI K ad G xs vs)(n:H p=qr):Q (.ref p) (upd H p (.tup vs)):=by refine h (.ref p) (upd G p (.tup vs)) (upd H p (.tup vs)) (Step.new e n) ?_;unfold Rep;exact⟨p,vs,rfl,SqT.of aH,q.mono (Same.upd_new (e.free n))⟩
end
def CXe(P:Program)(w:World):CXT:=λouter H s E e s'=>
 ∃(ea:Addr) (cls a0:Value) (H':Hp) (B:Heap),e= .ref ea/\s'.os=s.os/\AllBare s'.gens/\Heap.FlyingW B outer ea cls a0 s'.heap/\Un (frs outer) [] H H' s.heap s'.heap/\
  HOk P w H' s'.heap/\H' ea=qr/\(∀b o,s.heap.get? b=pi o->b∉frs outer->∃o',B.get? b=pi o')/\(∀b o,H' b=pi o->∃o',B.get? b=pi o')/\E cls qr H'
def xk(ad:Ad)(E:Nat->Hp->Prop):XK:=λcls _ H'=>∃c,cls= .ref (ad.cls c)/\E c H'
def XP(X:Cx)(ad:Ad)(σ:St)(E:Nat->Hp->Prop):Prop:=
 ∀(ce:cg) (H:Hp) (s:Shared) (e:Value) (s':Shared),Inv X ce σ H s->CXe X.prog X.w X.stack H s (xk ad E) e s'->X.xe e s'
def tE(X:Cx)(ad:Ad)(f:F):TE:=λσ H Q=>∃G ρ E,Same G H/\SL X.K ad G H ρ σ/\XP X ad σ E/\RK X.K ad G H (f ρ) Q E
abbrev ME(X:Cx)(ad:Ad)(e:Expr)(f:F):Prop:=PE X e (tE X ad f)
def lO(r:R):Prop:=(∃b,r= .ok (.bl b))\/∃c,r= .ex c
def tT(X:Cx)(ad:Ad)(f:F):TT:=λσ H Q=>∃G ρ E,Same G H/\SL X.K ad G H ρ σ/\XP X ad σ E/\lO (f ρ)/\RK X.K ad G H (f ρ) (λv H'=>∃b,v= .bl b/\Q b H') E
def tE.el{ad}{σ:St}{P:Prop}(h:tE X ad f σ H Q)(k: ∀G ρ E,Same G H->SL X.K ad G H ρ σ->XP X ad σ E->RK X.K ad G H (f ρ) Q E->P):P:=by obtain⟨G,ρ,E,d,e,c,b⟩:=h;exact k G ρ E d e c b
def tT.el{ad}{σ:St}{P:Prop}(h:tT X ad f σ H Q)(k: ∀G ρ E,Same G H->SL X.K ad G H ρ σ->XP X ad σ E->lO (f ρ)->RK X.K ad G H (f ρ) (λv H'=>∃b,v= .bl b/\Q b H') E->P):P:=by obtain⟨G,ρ,E,e,i,d,g,c⟩:=h;exact k G ρ E e i d g c
abbrev MT(X:Cx)(ad:Ad)(e:Expr)(f:F):Prop:=PT X e (tT X ad f)
abbrev MW(X:Cx)(ad:Ad)(e:Expr)(f:F):Prop:=PW X e (tT X ad f)
def AK(K:nq)(ad:Ad)(G H:Hp)(r:RA)(Q:L1 V->Hp->Prop)(E:Nat->Hp->Prop):Prop:=match r with
 |.ok ds=>∀vs G' H',Step G H G' H'->aI K ad G' ds vs->Q vs H'
 |.ex c=>∀G' H',Step G H G' H'->E c H'
 |.bad=>False
def tA(X:Cx)(ad:Ad)(fs:L1 F):TA:=λσ H Q=>∃G ρ E,Same G H/\SL X.K ad G H ρ σ/\XP X ad σ E/\AK X.K ad G H (args fs ρ) Q E
abbrev MA(X:Cx)(ad:Ad)(es:L1 Expr)(fs:L1 F):Prop:=PA X es (tA X ad fs)
section
variable{X:Cx}{ad:Ad}{ce:cg}{s:Shared}{σ:St}{H G:Hp}{ρ:Rho}{Q:VK}{E:Nat->Hp->Prop}{pos:Pos}{a:Expr}{f:F}
def dW(st:Step G H G1 H1)(n:H p=qr)(m:G1 p=qr)(e:H1 p=pi (.lst vs))(q:aI X.K ad G1 xs vs):
  ∃G2,Step G H G2 H1/\Rep X.K ad G2 (.lst xs) (.ref p):=by
 refine⟨upd G1 p (.lst vs),st.share n m e,?_⟩;unfold Rep;exact⟨p,vs,rfl,SqL.of aH,q.mono (Same.upd_new m)⟩
def dX{σ}{H}{Q Q'}(hG:Same G H)(hS:SL X.K ad G H ρ σ)(hx:XP X ad σ E)(hr:RK X.K ad G H ((f ρ).bind k) Q E)(q: ∀v d G1 H1,Step G H G1 H1->Rep X.K ad G1 d v->RK X.K ad G1 H1 (k d) Q E->Q' v H1):tE X ad f σ H Q':=by refine⟨G,ρ,E,hG,hS,hx,?_⟩;rcases e:f ρ with d|l|c|_;rw[e]at hr;exact λv G1 H1 b r=>q v d G1 H1 b r (RK.step hr b);rw[e]at hr;intro p j G1 H1 b n m i r;obtain⟨h,st2,g⟩:=dW (X:=X) (ad:=ad) b n m i r;exact q _ _ h H1 st2 g (RK.step hr st2);rw[e]at hr;exact hr;rw[e]at hr;exact hr
theorem ME.thn(ha:ME X ad a f)(I:Inv X ce σ H s)(hG:Same G H)(hS:SL X.K ad G H ρ σ)(hx:XP X ad σ E)(hr:RK X.K ad G H ((f ρ).bind k) Q E):
  X.wp (eval a X.env) (λu s1=>∃v d G1 H1,Inv X ce σ H1 s1/\bH v u/\Step G H G1 H1/\Rep X.K ad G1 d v/\RK X.K ad G1 H1 (k d) Q E) X.xe s:=by
 exact L2.thn (ha ce s σ H _ I (dX (Q':=λv H1=>∃d G1,Step G H G1 H1/\Rep X.K ad G1 d v/\RK X.K ad G1 H1 (k d) Q E) hG hS hx hr λv d G1 H1 c q z=>⟨d,G1,c,q,z⟩)) λu s1 b=>by obtain⟨v,H1,e,g,d,G1,c,q,z⟩:=b;exact⟨v,d,G1,H1,e,g,c,q,z⟩
def bU:Rep X.K ad G (.int i) (.int i):=by unfold Rep;rfl
def dN:Rep X.K ad G (.bl i) (.bl i):=by unfold Rep;rfl
def Gx:Rep X.K ad G .non .non:=by unfold Rep;rfl
def eM:Rep X.K ad G (.str i) (.str i):=by unfold Rep;rfl
abbrev mU(X:Cx)(i:Nat)(x:Str):Prop:=X.N[i]? =pi x/\Vis X.env.scope x/\(x==gV)=qu/\(x==hZ)=qu
def bZ{X}{pos}(h:mU X i x):PE X (.Name x pos) (JA i):=y0 h.1 h.2.1 h.2.2.1 h.2.2.2
def zS(hV:mU X i x):ME X ad (.Name x pos) (aB i):=by refine λn s j H Q I f=>f.el λG c E l g p b=>?_;unfold aB at b;rcases e:c[i]? with _|o;rw[e]at b;exact b.elim;rw[e]at b;rcases o with _|d|q|kvs|kvs|⟨_,_⟩;exact b.elim;obtain⟨v,m,h⟩:=g.sh e;exact bZ hV n s j H Q I ⟨v,m,b.ok_now l h⟩;exact b.elim;exact b.elim;exact b.elim;exact b.elim
def MLk(X:Cx)(ad:Ad)(e:Expr)(f:F):Prop:=
 ∀(ce:cg) (s:Shared) (σ:St) (H G:Hp) (ρ:Rho) (k:D->R) (Q:VK) (E:Nat->Hp->Prop),Inv X ce σ H s->Same G H->SL X.K ad G H ρ σ->XP X ad σ E->RK X.K ad G H ((f ρ).bind k) Q E->
  X.wp (eval e X.env) (λu s1=>∃v d G1 H1,Inv X ce σ H1 s1/\bH v u/\Step G H G1 H1/\(Rep X.K ad G1 d v\/∃a vs ds,d= .lst ds/\v= .ref a/\G1 a=qr/\H1 a=pi (.lst vs)/\aI X.K ad G1 ds vs)/\RK X.K ad G1 H1 (k d) Q E) X.xe s
def iZ(e:kD k=pi d):ME X ad (.Constant k j pos) (rK d):=by
 refine λg s b H Q I h=>h.el λG l E c m n f=>?_;cases k with
 |int i=>cases e;exact JV g s b H Q I (f.ok_now c bU)
 |bool i=>cases e;exact NS g s b H Q I (f.ok_now c dN)
 |none=>cases e;exact JW g s b H Q I (f.ok_now c Gx)
 |str i=>cases e;exact Ey g s b H Q I (f.ok_now c eM)
 |float _=>cases e
 |complex _ _=>cases e
 |bytes _=>cases e
 |ellipsis=>cases e
def zT{x}{d}{u}{v}(hg:L2.Gl X x)(hm:X.mg x=pi u)(r:bH v u)(q: ∀G,Rep X.K ad G d v)(hd:(x==gV)=qu):ME X ad (.Name x pos) (rK d):=by refine λg s b H Q I f=>f.el λG h E c i j e=>?_;exact F2 hg hm r hd g s b H Q I (e.ok_now c (q G))
def DOp(X:Cx)(ad:Ad)(t:Value->Value->Sem Value)(r:D->D->R):Prop:=
 ∀(ce:cg) (s:Shared) (σ:St) (H G:Hp) (x y:D) (v w:V) (u z:Value) (Q:VK) (E:Nat->Hp->Prop),Inv X ce σ H s->Same G H->Rep X.K ad G x v->Rep X.K ad G y w->bH v u->bH w z->
  RK X.K ad G H (r x y) Q E->X.wp (t u z) (EP X ce σ Q) X.xe s
def zU(ho:DOp X ad t r)(ha:ME X ad a f)(hb:ME X ad b g)(I:Inv X ce σ H s)(hG:Same G H)(hS:SL X.K ad G H ρ σ)(hx:XP X ad σ E)(hr:RK X.K ad G H ((f ρ).bind λx=>(g ρ).bind λy=>r x y) Q E):
  X.wp (eval a X.env) (λv s₁=>X.wp (eval b X.env) (λu s₂=>X.wp (t v u) (EP X ce σ Q) X.xe s₂) X.xe s₁) X.xe s:=by
 refine L2.thn (ha.thn I hG hS hx hr) λu L c=>?_;obtain⟨v,d,J,C,m,B,st1,q1,i⟩:=c;refine L2.thn (hb.thn m st1.gh (hS.step st1) hx i) λz l c=>?_;obtain⟨w,e,p,q,o,j,st2,n,h⟩:=c;exact ho ce l σ q p d e v w u z Q E o st2.gh (q1.mono st2.sg) n B j h
end
section
variable{ad:Ad}{σ:St}
def EK(h:n<=LIM):n<=sizeLine:=ny h (by decide)
def tH(h:sml i=qt): -(2^64)<i/\i<2^64:=by unfold sml at h;rw[aw]at h;exact⟨of_decide_eq_true h.1,of_decide_eq_true h.2⟩
def oH(h:sml i=qt):i.natAbs<2^64:=by obtain⟨b,c⟩:=tH h;lia
def yB(its:L1 Value)m:pp (λx1 x2=>x1++x2) #[] (ao m its.toArray)=(ao m its).flatten.toArray:=by have:=qA its m [];rw[lh]at this;exact this
def Gy(I:Inv X ce σ H s)(hl:SqL X.K H l xs)(hb:SqL X.K H b ys)(hz:xs.length+ys.length<=sizeLine)(q: ∀p,H p=qr->Q (.ref p) (upd H p (.lst (xs++ys)))):
  X.wp (binaryOp .Add (.ref l) (.ref b)) (EP X ce σ Q) X.xe s:=by
 obtain⟨d,z,⟨⟨C,dd,x,G⟩,n,u,v,m,y⟩,_⟩:=I.list hl;obtain⟨c,t,⟨⟨B,j,r,o⟩,E,f,i,g,h⟩,_⟩:=I.list hb;simp only at v y i h m g;subst v y i h;have e:d.toArray++c.toArray=(d++c).toArray:=by simp
 refine concat_meets ⟨_,u,rfl⟩ ⟨_,f,rfl⟩ noFill_list_add seq_list_add PySem.F.slot_list_add PySem.F.entry_list_add (PySem.F.args_list_add_2 _ _)
   (list_addW l b d.toArray c.toArray n E dd j G o (by rw[ax,ax, <-z.length, <-t.length];exact hz)) ⟨u,f,?_⟩
 rw[e];exact⟨.ref _,_,I.lnew (t':=s.toks) (z.append t) (by rw[bo];exact hz),rfl,q _ I.fresh⟩
def Gz(I:Inv X ce σ H s)(hl:SqL X.K H l xs)(h0: -1000000<k)(h1:k<1000000)(hz:xs.length*k.toNat<=sizeLine)(q: ∀p,H p=qr->Q (.ref p) (upd H p (.lst (ao k.toNat xs).flatten))):
  X.wp (binaryOp .Mult (.ref l) (.int k u)) (EP X ce σ Q) X.xe s:=by
 obtain⟨b,r,⟨⟨y,dd,m,t⟩,n,e,j,i,o⟩,_⟩:=I.list hl;simp only at j o i;subst j o;have h:b.toArray.size*k.toNat<=sizeLine:=by rw[ax, <-r.length];exact hz
 have f: ¬b.toArray.size*k.toNat > (2^63-1)/8:=by
  have:(sizeLine:Nat)<=(2^63-1)/8:=by decide
  lia
 have g: ¬(!Builtin.List.listFitsIndex k)=qt:=by
  rw[fitsIndex_both (by lia) (by lia)];exact bf
 have c: ¬eg (b.toArray.size*k.toNat)=qt:=by
  rw[vH h];exact bf
 have d:pp (λv x=>v++x) #[] (ao (if b.toArray.isEmpty=qt then 0 else k.toNat) b.toArray)=(ao k.toNat b).flatten.toArray:=by
  rw[yB];rcases b with _|⟨a,B⟩;simp;rw[if_neg (by simp)]
 refine wpAny_binaryOp_repeat_ref (T:="list") (U:="int") rfl ⟨_,e,rfl⟩ (λz=>typeIs_int z k u) noFill_list_mul F.fills_int_mul F.slot_int_rmul repeat_list F.slot_int_index.lookup
  (call_meets F.slot_int_rmul (typeIs_int s k u) F.entry_int_rmul (F.args_int_rmul_2 _ _) (mR k u l b.toArray n "list" dd t (.inl rfl))
   ⟨e,rfl,⟨_,e,rfl⟩,call_meets F.slot_list_mul ⟨_,e,rfl⟩ F.entry_list_mul (F.args_list_mul_2 _ _) (zI l b.toArray n k u dd t g f c) ⟨e,?_⟩⟩)
 rw[d];exact⟨.ref _,_,I.lnew (t':=s.toks) (r.rep k.toNat) (by rw[Gg,Nat.mul_comm];exact hz),rfl,q _ I.fresh⟩
def GA:j9 op x y= .bad\/(∃i j,x= .int i/\y= .int j)\/(∃a b,x= .lst a/\y= .lst b)\/(∃a b,x= .str a/\y= .str b)\/∃a k,x= .lst a/\y= .int k:=by
 cases x<;>try exact .inl rfl
 all_goals cases y<;>try exact .inl rfl
 exact .inr (.inl ⟨_,_,rfl,rfl⟩);exact .inr (.inr (.inr (.inl ⟨_,_,rfl,rfl⟩)));exact .inr (.inr (.inr (.inr ⟨_,_,rfl,rfl⟩)));exact .inr (.inr (.inl ⟨_,_,rfl,rfl⟩))
def GB op:DOp X ad (binaryOp op) (j9 op):=by
 intro m s n H G x y v w u z Q E I f o r l g d;rcases GA (op:=op) (x:=x) (y:=y)with e|⟨i,j,rfl,rfl⟩|⟨xs,ys,rfl,rfl⟩|⟨x,y,rfl,rfl⟩|⟨xs,k,rfl,rfl⟩;rw[e]at d;exact d.elim;unfold Rep at o r;subst o;subst r;cases op with
 |Add=>exact Kg m s n H _ _ u z Q I l g ⟨i,j,rfl,rfl,d.ok_now f bU⟩
 |Sub=>exact Kh m s n H _ _ u z Q I l g ⟨i,j,rfl,rfl,d.ok_now f bU⟩
 |Mult=>
  have b:RK X.K ad G H (if sml i||sml j then R.ok (.int (i*j))else .bad) Q E:=d;by_cases c:(sml i||sml j)=qt;rw[if_pos c]at b;refine Ki m s n H _ _ u z Q I l g ⟨i,j,rfl,rfl,?_,b.ok_now f bU⟩;rcases(Bool.or_eq_true _ _).mp c with h|h;exact .inl (tH h);exact .inr (tH h);rw[if_neg c]at b;exact b.elim
 |FloorDiv=>
  have b:RK X.K ad G H (if 0<j/\j<1073741824 then R.ok (.int (i/j))else .bad) Q E:=d;by_cases c:0<j/\j<1073741824;rw[if_pos c]at b;exact F5 m s n H _ _ u z Q I l g ⟨i,j,rfl,rfl,c,b.ok_now f bU⟩;rw[if_neg c]at b;exact b.elim
 |Mod=>
  have b:RK X.K ad G H (if 0<j then R.ok (.int (i % j))else .bad) Q E:=d;by_cases c:0<j;rw[if_pos c]at b;exact Kj m s n H _ _ u z Q I l g ⟨i,j,rfl,rfl,c,b.ok_now f bU⟩;rw[if_neg c]at b;exact b.elim
 |LShift=>
  have b:RK X.K ad G H (if 0<=j/\j<=1000/\sml i=qt then R.ok (.int (i*2^j.toNat))else .bad) Q E:=d;by_cases c:0<=j/\j<=1000/\sml i=qt;rw[if_pos c]at b;exact Kk m s n H _ _ u z Q I l g ⟨i,j,rfl,rfl,⟨c.1,by lia,oH c.2.2⟩,b.ok_now f bU⟩;rw[if_neg c]at b;exact b.elim
 |BitAnd=>exact Kl m s n H _ _ u z Q I l g ⟨i,j,rfl,rfl,d.ok_now f bU⟩
 |BitOr=>exact N3 m s n H _ _ u z Q I l g ⟨i,j,rfl,rfl,d.ok_now f bU⟩
 |BitXor=>exact Km m s n H _ _ u z Q I l g ⟨i,j,rfl,rfl,d.ok_now f bU⟩
 |_=>exact ba d
 unfold Rep at o;obtain⟨p,L,rfl,B,A⟩:=o;unfold Rep at r;obtain⟨q,N,rfl,M,J⟩:=r;cases op with
 |Add=>
  have b:RK X.K ad G H (if xs.length+ys.length<=LIM then R.ow (xs++ys)else .bad) Q E:=d;by_cases c:xs.length+ys.length<=LIM;rw[if_pos c]at b;cases (show u=qe p from l);cases (show z=qe q from g);exact Gy I (f.seq B) (f.seq M) (by rw[A.length,J.length];exact EK c) λa C=>b.ow_new f (A.append J) C;rw[if_neg c]at b;exact b.elim
 |_=>exact ba d
 unfold Rep at o r;subst o;subst r;cases op with
 |Add=>
  have b:RK X.K ad G H (if x.length<=LIM/\y.length<=LIM then R.ok (.str (x++y))else .bad) Q E:=d;by_cases c:x.length<=LIM/\y.length<=LIM;rw[if_pos c]at b;exact xU m s n H _ _ u z Q I l g ⟨x,y,rfl,rfl,ny (Nat.add_le_add c.1 c.2) (by decide),b.ok_now f eM⟩;rw[if_neg c]at b;exact b.elim
 |_=>exact ba d
 unfold Rep at o r;obtain⟨p,L,rfl,B,A⟩:=o;subst r;cases op with
 |Mult=>
  have b:RK X.K ad G H (if -1000000<k/\k<1000000/\xs.length*k.toNat<=LIM then R.ow (P2 xs k)else .bad) Q E:=d;by_cases c: -1000000<k/\k<1000000/\xs.length*k.toNat<=LIM;rw[if_pos c]at b;cases (show u=qe p from l);obtain⟨t,rfl⟩:=g;exact Gz I (f.seq B) c.1 c.2.1 (by rw[A.length];exact EK c.2.2) λa C=>b.ow_new f (A.rep k.toNat) C;rw[if_neg c]at b;exact b.elim
 |_=>exact ba d
def EL(ha:ME X ad a f)(hb:ME X ad b g):ME X ad (.BinOp a op b pos) (aR op f g):=by refine λm s j H Q I e=>e.el λG l E c h i d=>?_;exact wpAny_BinOp (zU (GB op) ha hb I c h i d)
end
end SK
namespace L2
open PySem PySem.Spec PyProof.Rows
section
variable {κ:Type} [DecidableEq κ]
noncomputable def lP(kvs:L1 (κ×V))(k:κ):L7 V:=(kvs.find? λkv=>decide (kv.1=k)).map (·.2)
def putK(kvs:L1 (κ×V))(k:κ)(v:V):L1 (κ×V):=
 if(kvs.any λkv=>decide (kv.1=k))=qt then kvs.map (λkv=>if kv.1=k then(kv.1,v)else kv)else kvs++[(k,v)]
noncomputable def dropK(kvs:L1 (κ×V))(k:κ):L1 (κ×V):=kvs.filter λkv=>decide (kv.1≠k)
def CU{k:κ}:lP ([]:L1 (κ×V)) k=qr:=rfl
def i4{p:κ×V}{r:L1 (κ×V)}{k:κ}(e:p.1=k):lP (p::r) k=pi p.2:=by simp[lP,li,e]
def g0{p:κ×V}{r:L1 (κ×V)}{k:κ}(e: ¬p.1=k):lP (p::r) k=lP r k:=by simp[lP,li,e]
theorem vP(k:κ): ∀kvs:L1 (κ×V),(kvs.any λkv=>decide (kv.1=k))=(lP kvs k).isSome
 |[]=>rfl
 |p::r=>by
  rw[mz];by_cases e:p.1=k;simp only[i4 e,decide_eq_true e,Bool.true_or,Option.isSome_some];rw[g0 e,decide_eq_false e,Bool.false_or];exact vP k r
def fT(kvs:L1 (κ×V))(k:κ)(v:V):(putK kvs k v).length<=kvs.length+1:=by unfold putK;split;rw[aq];lia;rw[bo,bq,lj];lia
def mP.isSome_eq{o}{u}(r:mP o u):o.isSome=u.isSome:=by rcases o with _|_;rcases u with _|_;rfl;exact(show False from r).elim;rcases u with _|_;exact(show False from r).elim;rfl
theorem mP.getD{o}{u}{d}{d'}(r:mP o u)(rd:bH d d'):bH (o.getD d) (u.getD d'):=by rcases o with _|_;rcases u with _|_;exact rd;exact(show False from r).elim;rcases u with _|_;exact(show False from r).elim;exact r
def KV.val{kvs:L1 (κ×V)}{vs:L1 (κ×Value)}(r:KV kvs vs)(k:κ):mP (lP kvs k) (valueAt vs k):=by
 unfold KV at r;induction r with
 |nil=>exact pf
 |@cons p q j c h t i=>
  obtain⟨f,g⟩:=h;by_cases e:p.1=k;have d:q.1=k:=f.symm.trans e;have b:valueAt (q::c) k=pi q.2:=by simp[valueAt,li,d]
  rw[i4 e,b];exact g;have d: ¬q.1=k:=λz=>e (f.trans z);have b:valueAt (q::c) k=valueAt c k:=by simp[valueAt,li,d]
  rw[g0 e,b];exact i
theorem KV.any{kvs:L1 (κ×V)}{vs:L1 (κ×Value)}(r:KV kvs vs)(k:κ):(kvs.any λkv=>decide (kv.1=k))=vs.any λkv=>decide (kv.1=k):=by
 unfold KV at r;induction r with
 |nil=>rfl
 |cons h t b=>rw[mz,mz,b,h.1]
def KV.repl{kvs:L1 (κ×V)}{vs:L1 (κ×Value)}(r:KV kvs vs)(k:κ){y:V}{u:Value}(ry:bH y u):
  KV (kvs.map λkv=>if kv.1=k then(kv.1,y)else kv) (vs.map λkv=>if kv.1=k then(kv.1,u)else kv):=by
 unfold KV at r ⊢;induction r with
 |nil=>exact .nil
 |@cons p q f g h t d=>
  rw[mr,mr];refine .cons ?_ d;obtain⟨b,c⟩:=h;by_cases e:p.1=k;rw[if_pos e,if_pos (b.symm.trans e)];exact⟨b,ry⟩;rw[if_neg e,if_neg (λz=>e (b.trans z))];exact⟨b,c⟩
def KV.put{kvs:L1 (κ×V)}{vs:L1 (κ×Value)}(r:KV kvs vs)(k:κ){y:V}{u:Value}(ry:bH y u):KV (putK kvs k y) (stored vs k u):=by unfold putK stored;rw[r.any k];by_cases e:(vs.any λb=>decide (b.1=k))=qt;rw[if_pos e,if_pos e];exact r.repl k ry;rw[if_neg e,if_neg e];exact Paired.snoc r ⟨rfl,ry⟩
def KV.drop{kvs:L1 (κ×V)}{vs:L1 (κ×Value)}(r:KV kvs vs)(k:κ):KV (dropK kvs k) (without vs k):=by
 unfold KV at r ⊢;unfold dropK without;induction r with
 |nil=>exact .nil
 |@cons p q i j h t d=>
  obtain⟨c,g⟩:=h;rw[kd,kd];by_cases e:p.1=k;have a: ¬decide (p.1≠k)=qt:=by simp[e]
  have b: ¬decide (q.1≠k)=qt:=by simp[c.symm.trans e]
  rw[if_neg a,if_neg b];exact d;have f: ¬q.1=k:=λz=>e (c.trans z);have a:decide (p.1≠k)=qt:=by simp[e]
  have b:decide (q.1≠k)=qt:=by simp[f]
  rw[if_pos a,if_pos b];exact .cons ⟨c,g⟩ d
def KV.keys{kvs:L1 (κ×V)}{vs}(r:KV kvs vs):kvs.map (·.1)=vs.map (·.1):=by
 unfold KV at r;induction r with
 |nil=>rfl
 |cons h t b=>rw[mr,mr,b,h.1]
theorem KV.length{kvs:L1 (κ×V)}{vs}(r:KV kvs vs):kvs.length=vs.length:=mo r
def CV(kvs:L1 (κ×V))(k:κ):(dropK kvs k).length<=kvs.length:=List.length_filter_le _ _
end
def mV(r:bH (kV k) u):(bI P w).is k u=qt:=by rcases k with i|x;obtain⟨t,e⟩:=(show ∃t,u=qb i t from r);subst e;exact sS P w i t;obtain⟨t,e⟩:=(show ∃t,u=qc x t from r);subst e;exact kX P w x t
theorem qK{P}{w}: ∀{ks} {us},bW (ks.map kV) us->ItemsAre (bI P w) ks us
 |[],_,r=>by rw[om]at r;cases r;exact .nil
 |k::ks,_,r=>by
  rw[mr]at r;cases r with
  |cons h t=>exact .cons (mV h) (qK t)
abbrev KT(H:Hp):L1 (L1 Key×V)->L1 (L1 Key×Addr×Value)->Prop:=Paired λp q=>p.1=q.1/\H q.2.1=pi (.tup (p.1.map kV))/\bH p.2 q.2.2
def KT.val(r:KT H kvs xs)k:mP (lP kvs k) ((atKey xs k).map (·.2)):=by
 induction r with
 |nil=>exact pf
 |@cons p q j c h t i=>
  obtain⟨f,_,g⟩:=h;by_cases e:p.1=k;have d:q.1=k:=f.symm.trans e;have b:atKey (q::c) k=pi q.2:=by simp[atKey,li,d]
  rw[i4 e,b];exact g;have d: ¬q.1=k:=λz=>e (f.trans z);have b:atKey (q::c) k=atKey c k:=by simp[atKey,li,d]
  rw[g0 e,b];exact i
def KT.repl(r:KT H kvs xs)k(ry:bH y u):
  KT H (kvs.map λkv=>if kv.1=k then(kv.1,y)else kv) (xs.map (putAt k u)):=by
 induction r with
 |nil=>exact .nil
 |@cons p q g i h t f=>
  rw[mr,mr];refine .cons ?_ f;obtain⟨b,c,d⟩:=h;unfold putAt;by_cases e:p.1=k;rw[if_pos e,if_pos (b.symm.trans e)];exact⟨b,c,ry⟩;rw[if_neg e,if_neg (λz=>e (b.trans z))];exact⟨b,c,d⟩
def KT.put(r:KT H kvs xs)k(hb:H b=pi (.tup (k.map kV)))(ry:bH y u):
  KT H (putK kvs k y) (storedH xs k b u):=by
 have e:(kvs.any λc=>decide (c.1=k))=(atKey xs k).isSome:=by
  rw[vP,(r.val k).isSome_eq,jp]
 unfold putK storedH;rw[e];by_cases q:(atKey xs k).isSome=qt;rw[if_pos q,if_pos q];exact r.repl k ry;rw[if_neg q,if_neg q];exact Paired.snoc r ⟨rfl,hb,ry⟩
def KT.keeps(r:KT H kvs xs)(ht: ∀b ys,H b=pi (.tup ys)->H' b=pi (.tup ys)):KT H' kvs xs:=
 Paired.mapP r λ_ _ z=>⟨z.1,ht _ _ z.2.1,z.2.2⟩
def KL(ok:HOk P w H h)(e:Rd H a u):ObjOk P w H h a u:=e.ok ok
def jS(ok:HOk P w H h)(e:Rd H a (.dK kvs)):kvs.length<=sizeLine/\(a==sysModules)=qu/\∃vs,KV kvs vs/\h.DictOf (bI P w) a vs:=
 show ObjOk P w H h a (.dK kvs) from KL ok e
def zV(ok:HOk P w H h)(e:H a=pi (.dK kvs)):kvs.length<=sizeLine/\(a==sysModules)=qu/\∃vs,KV kvs vs/\h.DictOf (bI P w) a vs:=jS ok (.inl e)
def lQ(ok:HOk P w H h)(e:H a=pi (.tup (ks.map kV))):(tupleKind (bI P w)).is h ks a:=by obtain⟨_,b,r,⟨o,d,f,n,c⟩,_⟩:=(show ObjOk P w H h a (.tup (ks.map kV)) from ok a _ e);exact⟨o,b.toArray,n,d,f,c,by simpa using qK r⟩
def qM(ok:HOk P w H h)(e:Rd H a (.dT kvs)):kvs.length<=sizeLine/\(a==sysModules)=qu/\
  ∃xs,KT H kvs xs/\h.DictOfH (tupleKind (bI P w)) a xs:=by
 obtain⟨z,y,xs,r,o,g,s,n,i,d,f,j⟩:=(show ObjOk P w H h a (.dT kvs) from KL ok e);refine⟨z,y,xs,r,o,g,s,n,i,d,f,λx b=>?_,j⟩;have all: ∀{l:L1 (L1 Key×V)} {m:L1 (L1 Key×Addr×Value)},KT H l m->∀x∈m,(tupleKind (bI P w)).is h x.1 x.2.1:=by
  intro l m q;induction q with
  |nil=>intro x b;exact nomatch b
  |@cons p q v A c t u=>
   intro x b;rcases av.mp b with e|b;subst e;exact lQ ok (by rw[<-c.1];exact c.2.1);exact u x b
 exact all r x b
def Op(ok:HOk P w H h)(e:H a=pi (.dT kvs)):kvs.length<=sizeLine/\(a==sysModules)=qu/\
  ∃xs,KT H kvs xs/\h.DictOfH (tupleKind (bI P w)) a xs:=qM ok (.inl e)
def pO(H:Hp)(a:Addr)(y:V)(r:L7 V):Prop:=
 (∃kvs k,Rd H a (.dK kvs)/\y=kV k/\r=lP kvs k)\/∃kvs k b,Rd H a (.dT kvs)/\y= .ref b/\H b=pi (.tup (k.map kV))/\r=lP kvs k
def GC(H:Hp)(a:Addr)(y v:V)(H':Hp):Prop:=
 (∃kvs k,H a=pi (.dK kvs)/\y=kV k/\kvs.length<sizeLine/\H'=upd H a (.dK (putK kvs k v)))\/
 ∃kvs k b,H a=pi (.dT kvs)/\y= .ref b/\H b=pi (.tup (k.map kV))/\kvs.length<sizeLine/\H'=upd H a (.dT (putK kvs k v))
theorem pO.k{k}(e:H a=pi (.dK kvs)):pO H a (kV k) (lP kvs k):=.inl ⟨kvs,k,.inl e,rfl,rfl⟩
theorem GC.k{k}(e:H a=pi (.dK kvs))(hl:kvs.length<sizeLine):GC H a (kV k) v (upd H a (.dK (putK kvs k v))):=.inl ⟨kvs,k,e,rfl,hl,rfl⟩
section
variable{σ:St}{E:cf}
def Inv.bigK(I:Inv X ce σ H s):sysModules<s.z:=by have h:mainGlobals<s.z:=(I.mod.glob.keeps I.bk).lt;exact Nat.lt_trans (by decide) h
def zW{Q:cf}(hu:A.units+1<cLine)(I:Inv X ce σ H s)(g:pO H a y (pi v))(ry:bH y u)(h: ∀w' s',Inv X ce σ H s'->bH v w'->Q w' s'):
  wpAny (model X.prog X.w) A (getItem (.ref a) u) Q E s:=by
 rcases g with ⟨kvs,k,e,j,l⟩|⟨kvs,k,b,e,j,q,l⟩;subst j;obtain⟨z,r,m,d,dd⟩:=jS I.hok e;obtain⟨w',f,c⟩:=mP.some_of (v:=v) (o:=valueAt m k) (by rw[l];exact d.val k);exact wpAny_getItem_of (mV ry) dd.mapOf f (h w' _ (I.tok _) c);subst j;cases (show u=qe b from ry);obtain⟨z,r,t,d,dd⟩:=qM I.hok e;obtain⟨w',f,c⟩:=mP.some_of (v:=v) (o:=(atKey t k).map (·.2)) (by rw[l];exact d.val k);obtain⟨p,n,i⟩:=zMd f;refine wpAny_getItem_heap (tupleKind_room_in1 hu) (lQ I.hok q) dd n ?_;rw[i];exact h w' _ (I.tok _) c
def Qg{Q:cf}(hu:A.units+1<cLine)(I:Inv X ce σ H s)(g:pO H a y o)(ry:bH y u)(h: ∀s',Inv X ce σ H s'->Q (.bool o.isSome) s'):
  wpAny (model X.prog X.w) A (compareOp .In u (.ref a)) Q E s:=by
 rcases g with ⟨kvs,k,e,d,l⟩|⟨kvs,k,b,e,d,i,l⟩;subst d;obtain⟨z,f,j,c,dd⟩:=jS I.hok e;refine wpAny_in_of (mV ry) f dd.mapOf ?_;rw[<-(c.val k).isSome_eq, <-l];exact h _ (I.tok _);subst d;cases (show u=qe b from ry);obtain⟨z,f,m,c,dd⟩:=qM I.hok e;refine wpAny_in_heap (tupleKind_room_in1 hu) (lQ I.hok i) f dd ?_;have q:=(c.val k).isSome_eq;rw[jp]at q;rw[<-q, <-l];exact h _ (I.tok _)
def zX{Q:cf}(hu:A.units+1<cLine)(I:Inv X ce σ H s)(g:pO H a y o)(ry:bH y u)(h: ∀s',Inv X ce σ H s'->Q (.bool (!o.isSome)) s'):
  wpAny (model X.prog X.w) A (compareOp .NotIn u (.ref a)) Q E s:=by
 rcases g with ⟨kvs,k,e,d,l⟩|⟨kvs,k,b,e,d,i,l⟩;subst d;obtain⟨z,f,j,c,dd⟩:=jS I.hok e;refine wpAny_notIn_of (mV ry) f dd.mapOf ?_;rw[<-(c.val k).isSome_eq, <-l];exact h _ (I.tok _);subst d;cases (show u=qe b from ry);obtain⟨z,f,m,c,dd⟩:=qM I.hok e;refine wpAny_notIn_heap (tupleKind_room_in1 hu) (lQ I.hok i) f dd ?_;have q:=(c.val k).isSome_eq;rw[jp]at q;rw[<-q, <-l];exact h _ (I.tok _)
def jT(I:Inv X ce σ H s)(mu:Mut (H a))(hs:n5 a s.heap h')(he: ∃q,h'.get? a=pi q)(new:ObjOk X.prog X.w (upd H a ob) h' a ob):
  Inv X ce σ (upd H a ob) {s with heap:=h',toks:=t'}:=
 I.write (x:=a) (e:=a) mu (.inl rfl) (λb q c z=>(hs.2 b c).trans z) he new
def nA(z:kvs.length<=sizeLine)(hd:(a==sysModules)=qu)(rel:KV kvs vs)(dd:h'.DictOf (bI P w) a vs):
  ObjOk P w H' h' a (.dK kvs):=⟨z,hd,vs,rel,dd⟩
def qN(hu:A.units+1<cLine)(I:Inv X ce σ H s)(g:GC H a y v H')(ry:bH y u)(rv:bH v r)(h: ∀s',Inv X ce σ H' s'->Q () s'):
  wpAny (model X.prog X.w) A (setItem (.ref a) u r) Q E s:=by
 rcases g with ⟨kvs,k,e,t,l,n⟩|⟨kvs,k,b,e,t,C,l,n⟩;subst t n;obtain⟨z,p,J,d,dd⟩:=zV I.hok e;have j:J.length<=sizeLine:=by rw[<-d.length];exact z
 have m:(putK kvs k v).length<=sizeLine:=by have:=fT kvs k v;lia
 refine wpAny_setItem_pairs (hsz:=j) (mV ry) dd λB f o=>h _ ?_;have N: ∃q,B.get? a=pi q:=let ⟨q,_,_,i,_⟩:=f;⟨q,i⟩;exact jT I (by rw[e];exact pf) o N (nA m p (d.put k rv) f);subst t n;cases (show u=qe b from ry);obtain⟨z,p,T,d,dd⟩:=Op I.hok e;have j:T.length<=sizeLine:=by rw[<-mo d];exact z
 have m:(putK kvs k v).length<=sizeLine:=by have:=fT kvs k v;lia
 refine wpAny_setItem_heap (hsz:=j) (tupleKind_room_in1 hu) (lQ I.hok C) dd λB f o=>h _ ?_;obtain⟨q,L,S,i,M,G,K,_,O⟩:=f;refine jT I (by rw[e];exact pf) o ⟨q,i⟩ ⟨m,p,_,(d.put k C rv).keeps λc U x=>?_,q,L,S,i,M,G,K,O⟩;rw[aD (NR x e (λz=>nomatch z))];exact x
end
section
variable{σ:St}{E:cf}
def Oq{Q:cf}(I:Inv X ce σ H s)(e:H a=pi (.dK kvs))(ry:bH (kV k) u)(l:lP kvs k=pi v)(hm:more=[]\/∃x,more=[x])(h: ∀w' s',Inv X ce σ (upd H a (.dK (dropK kvs k))) s'->bH v w'->Q w' s'):wpAny (model X.prog X.w) A (call (.builtin "dict.pop") (.ref a::u::more)) Q E s:=by
 obtain⟨z,y,f,b,dd⟩:=zV I.hok e;obtain⟨w',p,d⟩:=mP.some_of (v:=v) (o:=valueAt f k) (by rw[<-l];exact b.val k);have j:(keyPart u).isSome=qt:=by
  rcases k with i|x;obtain⟨t,q⟩:=(show ∃t,u=qb i t from ry);subst q;rfl;obtain⟨t,q⟩:=(show ∃t,u=qc x t from ry);subst q;rfl
 have n:argsOk "dict.pop" ⟨.ref a::u::more,[]⟩:=by
  rcases hm with q|⟨x,q⟩;subst q;exact PySem.F.args_dict_pop_2 _ _;subst q;exact PySem.F.args_dict_pop_3 _ _ _
 refine call_meetsIn PySem.F.slot_dict_pop dd.typeIs PySem.F.entry_dict_pop n (meets_dict_pop_there (bI X.prog X.w) a (mV ry) more hm j)
  ⟨f,w',dd,by rw[<-b.length];exact z,p,λm c r=>h w' _ ?_ d⟩
 have g: ∃q,m.get? a=pi q:=let ⟨q,_,_,hq,_⟩:=c;⟨q,hq⟩;exact jT I (by rw[e];exact pf) r g (nA (ny (CV kvs k) z) y (b.drop k) c)
end
def Os(i:Expr):Prop:= ∀ov iv,subscripted i qu ov iv=operate [ov,iv] (getItem ov iv)
def GD{E:cf}{T id}{Q:cf}(hl:typeLookup (.type T) "__getitem__"=pure (pi (.builtin id)))(hs:Os slice)(h:wpAny (model prog w) A (eval value env) (λo s₁=>wpAny (model prog w) A (eval slice env) (λi s₂=>s₂.TypeIs o T/\wpAny (model prog w) A (getItem o i) Q E s₂) E s₁) E s):
  wpAny (model prog w) A (eval (.Subscript value slice pos) env) Q E s:=by
 refine Subscript_ (wpAny_mono h (λo s₁ e=>wpAny_mono e (λi s₂ b=>?_) λ_ _ x=>x) λ_ _ x=>x);obtain⟨g,b⟩:=b;unfold subscriptTail;refine aa ?_;rw[getitemInPython_of_ne g.not_modules];refine aa (wpAny_specialOf g hl ?_);have d:wpAny (model prog w) A (subscripted slice qu o i) (λr c=>wpAny (model prog w) A (letTemporaryGo value o r >>= λ_=>pure r) Q E c) E s₂:=by
  rw[hs o i];exact wpAny_operating (wpAny_mono b (λr c f=>aa (wpAny_letTemporaryGo (ac f))) λ_ _ x=>x)
 first
  |exact ac (aa d)
  |exact aa (ac (aa d))
  |exact aa d
def tJ{σ:St}(I:Inv X ce σ H s)(g:pO H a y o):s.TypeIs (.ref a) "dict":=by rcases g with ⟨kvs,k,e,_,_⟩|⟨kvs,k,b,e,_,_,_⟩;obtain⟨_,_,c,_,dd⟩:=jS I.hok e;exact dd.typeIs;obtain⟨_,_,d,_,dd⟩:=qM I.hok e;exact dd.typeIs
def Ot(td ty:TE):TE:=λσ H Q=>td σ H λx H1=>ty σ H1 λy H2=>∃a v,x= .ref a/\pO H2 a y (pi v)/\Q v H2
def QU(ty td:TE):TE:=λσ H Q=>ty σ H λy H1=>td σ H1 λx H2=>∃a o,x= .ref a/\pO H2 a y o/\Q (.bl o.isSome) H2
def GE(ty td:TE):TE:=λσ H Q=>ty σ H λy H1=>td σ H1 λx H2=>∃a o,x= .ref a/\pO H2 a y o/\Q (.bl (!o.isSome)) H2
def Ou(td ty tv:TE):TS:=λD σ H=>tv σ H λv H1=>td σ H1 λx H2=>ty σ H2 λy H3=>∃a H4,x= .ref a/\GC H3 a y v H4/\D.nx σ H4
def GF(hu:X.A.units+1<cLine)(ho:PE X o td)(hi:PE X i ty)(hs:Os i):PE X (.Subscript o i pos) (Ot td ty):=by intro e s c H Q I h;refine GD PySem.F.slot_dict_getitem.lookup hs (thn (ho e s c H _ I h) λu p ⟨x,l,f,j,q1⟩=>thn (hi e p c l _ f q1) λiv t ⟨y,q,d,n,a,v,ex,g,m⟩=>?_);subst ex;obtain rfl:u=qe a:=j;exact⟨tJ d g,zW hu d g n λw z r b=>⟨v,q,r,b,m⟩⟩
def KM(hu:X.A.units+1<cLine)(hi:PE X i ty)(ho:PE X o td):PC X .In i o (QU ty td):=by intro c s b H Q I h;refine thn (hi c s b H _ I h) λiv p ⟨y,f,d,l,q1⟩=>thn (ho c p b f _ d q1) λu t ⟨x,q,m,e,a,n,ex,g,j⟩=>?_;subst ex;obtain rfl:u=qe a:=e;exact Qg hu m g l λv r=>⟨.bl n.isSome,q,r,rfl,j⟩
def zY(hu:X.A.units+1<cLine)(hi:PE X i ty)(ho:PE X o td):PC X .NotIn i o (GE ty td):=by intro c s b H Q I h;refine thn (hi c s b H _ I h) λiv p ⟨y,f,d,l,q1⟩=>thn (ho c p b f _ d q1) λu t ⟨x,q,m,e,a,n,ex,g,j⟩=>?_;subst ex;obtain rfl:u=qe a:=e;exact zX hu m g l λv r=>⟨.bl (!n.isSome),q,r,rfl,j⟩
def zZ(hu:X.A.units+1<cLine)(ho:PE X o td)(hi:PE X i ty)(hv:PE X value tv)(hs:swapsWith value (pi (.Subscript o i pos')) pos.line X.env=pure qu):
  PS X (.Assign [.Subscript o i pos'] value pos) (Ou td ty tv):=by
 intro c s b H D I h;refine wpAny_Assign_Subscript (thn (hv c s b H _ I h) λr q ⟨v,j,e,t,q1⟩=>thn (ho c q b j _ e q1) λu d ⟨x,z,n,f,l⟩=>thn (hi c d b z _ n l) λiv G ⟨y,E,B,m,a,p,ex,g,w⟩=>?_) hs;subst ex;obtain rfl:u=qe a:=f;exact qN hu B g m t λJ C=>⟨b,p,C,w⟩
def oI(h:Heap)(hb:sysModules<h.objs.size):ObjOk P w H (h.push {cls:=.type "dict",data:=.dict #[]}) h.objs.size (.dK []):=
 ⟨bu _,beq_eq_false_iff_ne.mpr (qq (bh hb)),[],.nil,Heap.DictOf.new h⟩
def KN:TE:=λ_ H Q=>∀p,H p=qr->Q (.ref p) (upd H p (.dK []))
def vQ:PE X (.Dict [] [] pos) KN:=λc s b H Q I h=>
 wpAny_Dict_empty ⟨.ref s.z,_,I.laid (a:=s.z) (o:=.dK []) (t':=s.toks) (λ_ _ q=>ae _ q) (aj _) (oI s.heap I.bigK),rfl,h _ (I.hok.fresh (aj _))⟩
def z9:L1 (TE×TE)->St->Hp->(L1 (V×V)->Hp->Prop)->Prop
 |[],_,H,Q=>Q [] H
 |(tk,tv)::r,σ,H,Q=>tk σ H λx H1=>tv σ H1 λy H2=>z9 r σ H2 λps H3=>Q ((x,y)::ps) H3
abbrev VV:L1 (V×V)->L1 (Value×Value)->Prop:=Paired λp q=>bH p.1 q.1/\bH p.2 q.2
def PPs(X:Cx)(pos:Pos)(keys:L1 (L7 Expr))(values:L1 Expr)(trs:L1 (TE×TE)):Prop:=
 ∀(ce:cg) (s:Shared) (σ:St) (H:Hp) (Q:L1 (V×V)->Hp->Prop),Inv X ce σ H s->z9 trs σ H Q->
  X.wp (evalPairs (pairTrees keys values X.env pos)) (λvs s'=>∃ps H',Inv X ce σ H' s'/\VV ps vs/\Q ps H') X.xe s
def GG:PPs X pos [] [] []:=λc s b H Q I h=>pairTrees_nil_walk ⟨[],H,I,.nil,h⟩
def vR(hk:PE X k tk)(hv:PE X v tv)(hr:PPs X pos ks vs trs):
  PPs X pos (pi k::ks) (v::vs) ((tk,tv)::trs):=λd s b H Q I h=>
 pairTrees_cons_walk (thn (hk d s b H _ I h) λu q ⟨x,m,g,i,q1⟩=>thn (hv d q b m _ g q1) λz j ⟨y,t,p,o,n⟩=>
  thn (hr d j b t _ p n) λB A c=>by obtain⟨f,l,w,e,r⟩:=c;exact⟨(x,y)::f,l,w,.cons ⟨i,o⟩ e,r⟩)
def i5(kvs more:L1 (Key×V)):L1 (Key×V):=more.foldl (λacc kv=>putK acc kv.1 kv.2) kvs
def KV.merge: ∀{more} {rs} {kvs} {vs},KV more rs->KV kvs vs->KV (i5 kvs more) (merged vs rs):=by
 intro more rs kvs vs r;unfold KV at r;induction r generalizing kvs vs with
 |nil=>intro q;exact q
 |@cons p q d f h t c=>
  intro b;have e:KV (putK kvs p.1 p.2) (stored vs q.1 q.2):=by
   have:=b.put p.1 h.2;rw[<-h.1];exact this
  exact c e
theorem i6: ∀more kvs,(i5 kvs more).length<=kvs.length+more.length
 |[],kvs=>by show kvs.length<=kvs.length+0;lia
 |p::r,kvs=>by
  have b:=i6 r (putK kvs p.1 p.2);have c:=fT kvs p.1 p.2;show(i5 (putK kvs p.1 p.2) r).length<=_;rw[bq];lia
theorem nB{P}{w}: ∀{kvs} {ws},VV (kvs.map λkv=>(kV kv.1,kv.2)) ws->∃rs,Carries (bI P w) ws rs/\KV kvs rs
 |[],_,r=>by rw[om]at r;cases r;exact⟨[],pf,.nil⟩
 |p::kvs,_,r=>by
  rw[mr]at r;cases r with
  |@cons a b f bs h t=>
   obtain⟨rs,c,q⟩:=nB (P:=P) (w:=w) t;obtain⟨e,d⟩:=b;exact⟨(p.1,d)::rs,⟨mV h.1,rfl,c⟩,.cons ⟨rfl,h.2⟩ q⟩
def Ov(trs:L1 (TE×TE)):TE:=λσ H Q=>∀p,H p=qr->z9 trs σ (upd H p (.dK [])) λps H2=>H2 p=pi (.dK [])/\∃kvs:L1 (Key×V),ps=kvs.map (λkv=>(kV kv.1,kv.2))/\kvs.length<=15/\Q (.ref p) (upd H2 p (.dK (i5 [] kvs)))
def GH(h:PPs X pos keys values trs)(hall:keys.all (·.isSome)=qt)(hl:keys.length=values.length)(h0:keys≠[])(h15:keys.length<=15):PE X (.Dict keys values pos) (Ov trs):=by
 intro m s p H Q I q;have j:=I.hok.fresh (aj s.z);have l:=I.laid (a:=s.z) (o:=.dK []) (h':=s.heap.push {cls:=.type "dict",data:=.dict #[]}) (t':=s.toks) (λ_ _ q=>ae _ q) (aj _) (oI s.heap I.bigK);refine wpAny_Dict_walk (knd:=bI X.prog X.w) hall hl h0 h15 (thn (h m _ p _ _ l (q _ j)) λJ E d=>?_);obtain⟨C,G,g,f,e,kvs,A,lk,n⟩:=d;subst A;obtain⟨v,c,rk⟩:=nB (P:=X.prog) (w:=X.w) f;obtain⟨z,B,x,t,dd⟩:=zV g.hok e;cases t;refine⟨v,c,dd,λh' b y=>⟨.ref s.z,_,?_,rfl,n⟩⟩;have i:(i5 [] kvs).length<=sizeLine:=by
  have u:=i6 kvs [];rw[lj]at u;rw[sizeLine_eq];lia
 have r: ∃q,h'.get? s.z=pi q:=let ⟨q,_,_,hq,_⟩:=b;⟨q,hq⟩;exact jT g (by rw[e];exact pf) y r (nA i B (rk.merge .nil) b)
structure M1(X:Cx)(o:Expr)(m:Str)(apos:Pos)(e:Expr)(cpos:Pos):Prop where
 base:attributeBase o m X.env (eval o X.env)=eval o X.env
 few:((backTo cpos (starEach [e] X.env)).all (λx=> !x.1)&&(backToKw cpos (keywordEach [] X.env)).all (λx=>x.1.isSome)
  &&decide (([e]:List Expr).length+([]:List Keyword).length+(if([]:List Keyword).isEmpty then 0 else 1)<30))=qt
 line:(apos.endLine==cpos.line)=qt
 trees:backTo cpos (starEach [e] X.env)=[(qu,eval e X.env)]
structure M2(X:Cx)(o:Expr)(m:Str)(apos:Pos)(e f:Expr)(cpos:Pos):Prop where
 base:attributeBase o m X.env (eval o X.env)=eval o X.env
 few:((backTo cpos (starEach [e,f] X.env)).all (λx=> !x.1)&&(backToKw cpos (keywordEach [] X.env)).all (λx=>x.1.isSome)
  &&decide (([e,f]:List Expr).length+([]:List Keyword).length+(if([]:List Keyword).isEmpty then 0 else 1)<30))=qt
 line:(apos.endLine==cpos.line)=qt
 trees:backTo cpos (starEach [e,f] X.env)=[(qu,eval e X.env),(qu,eval f X.env)]
def IsD(H:Hp)(a:Addr):Prop:=(∃kvs,Rd H a (.dK kvs))\/∃kvs,Rd H a (.dT kvs)
def Aa{σ:St}(I:Inv X ce σ H s)(d:IsD H a):
  s.TypeIs (.ref a) "dict"/\(∀b,qe a= .ref b->∃ob,s.heap.get? b=pi ob/\ob.dict=qr)/\(a==sysModules)=qu:=by
 rcases d with ⟨kvs,e⟩|⟨kvs,e⟩;obtain⟨_,f,h,_,dd⟩:=jS I.hok e;refine⟨dd.typeIs,λb q=>?_,f⟩;cases q;obtain⟨ob,_,_,c,g,_⟩:=dd;exact⟨ob,c,g.2.1⟩;obtain⟨_,f,i,_,dd⟩:=qM I.hok e;refine⟨dd.typeIs,λb q=>?_,f⟩;cases q;obtain⟨ob,_,_,c,g,_⟩:=dd;exact⟨ob,c,g.2.1⟩
section
variable{σ:St}{E:cf}
def KO{Q:cf}(hu:A.units+1<cLine)(I:Inv X ce σ H s)(g:pO H a y o)(ry:bH y u)(h: ∀w' s',Inv X ce σ H s'->bH (o.getD .non) w'->Q w' s'):
  wpAny (model X.prog X.w) A (call (.builtin "dict.get") [.ref a,u]) Q E s:=by
 rcases g with ⟨kvs,k,e,d,l⟩|⟨kvs,k,b,e,d,i,l⟩;subst d;obtain⟨z,f,m,c,dd⟩:=jS I.hok e;refine call_meetsIn gj dd.typeIs fx (et _ _) (meets_dict_get (bI X.prog X.w) a (mV ry) f) ⟨_,dd.mapOf,h _ _ (I.tok _) ?_⟩;rw[l];exact(c.val k).getD rfl;subst d;cases (show u=qe b from ry);obtain⟨z,f,j,c,dd⟩:=qM I.hok e;refine call_meetsIn gj dd.typeIs fx (et _ _) (meetsH_dict_get (tupleKind (bI X.prog X.w)) a b f) ⟨tupleKind_room_in1 hu,k,j,lQ I.hok i,dd,h _ _ (I.tok _) ?_⟩;rw[l];exact(c.val k).getD rfl
def KP{Q:cf}(hu:A.units+1<cLine)(I:Inv X ce σ H s)(g:pO H a y o)(ry:bH y u)(rd:bH d r)(h: ∀w' s',Inv X ce σ H s'->bH (o.getD d) w'->Q w' s'):
  wpAny (model X.prog X.w) A (call (.builtin "dict.get") [.ref a,u,r]) Q E s:=by
 rcases g with ⟨kvs,k,e,f,l⟩|⟨kvs,k,b,e,f,j,l⟩;subst f;obtain⟨z,i,n,c,dd⟩:=jS I.hok e;refine call_meetsIn gj dd.typeIs fx (PySem.F.args_dict_get_3 _ _ _) (meets_dict_get_default (bI X.prog X.w) a (mV ry) i r) ⟨_,dd.mapOf,h _ _ (I.tok _) ?_⟩;rw[l];exact(c.val k).getD rd;subst f;cases (show u=qe b from ry);obtain⟨z,i,m,c,dd⟩:=qM I.hok e;refine call_meetsIn gj dd.typeIs fx (PySem.F.args_dict_get_3 _ _ _) (meetsH_dict_get_default (tupleKind (bI X.prog X.w)) a b i r) ⟨tupleKind_room_in1 hu,k,m,lQ I.hok j,dd,h _ _ (I.tok _) ?_⟩;rw[l];exact(c.val k).getD rd
end
def KQ(td ty:TE):TE:=λσ H Q=>td σ H λx H1=>∃a,x= .ref a/\IsD H1 a/\ty σ H1 λy H2=>∃o,pO H2 a y o/\Q (o.getD .non) H2
def KR(td ty tx:TE):TE:=λσ H Q=>td σ H λx H1=>∃a,x= .ref a/\IsD H1 a/\ty σ H1 λy H2=>tx σ H2 λz H3=>∃o,pO H3 a y o/\Q (o.getD z) H3
def EM(td ty:TE):TE:=λσ H Q=>td σ H λx H1=>∃a,x= .ref a/\IsD H1 a/\ty σ H1 λy H2=>∃kvs k v,H2 a=pi (.dK kvs)/\y=kV k/\lP kvs k=pi v/\Q v (upd H2 a (.dK (dropK kvs k)))
def CW(hu:X.A.units+1<cLine)(ho:PE X o td)(he:PE X e ty)(m:M1 X o "get" apos e cpos):PE X (.Call (.Attribute o "get" apos) [e] [] cpos) (KQ td ty):=by intro j s i H Q I h;refine wpAny_Call_method m.base m.few m.line eu gj gm (thn (ho j s i H _ I h) λu w c=>?_);obtain⟨x,q,f,p,a,ex,d,q1⟩:=c;subst ex;obtain rfl:u=qe a:=p;obtain⟨n,l,_⟩:=Aa f d;refine⟨n,l,?_⟩;rw[m.trees];refine fw rfl (gz (ix (thn (he j w i q _ f q1) λiv C ⟨y,z,v,t,J,g,r⟩=>ji ?_)));exact KO hu v g t λE G B b=>⟨_,z,B,b,r⟩
def CY(hu:X.A.units+1<cLine)(ho:PE X o td)(he:PE X e ty)(hf:PE X f tx)(m:M2 X o "get" apos e f cpos):PE X (.Call (.Attribute o "get" apos) [e,f] [] cpos) (KR td ty tx):=by
 intro j s c H Q I h;refine wpAny_Call_method m.base m.few m.line eu gj gm (thn (ho j s c H _ I h) λu K i=>?_);obtain⟨x,G,l,q,a,ex,d,q1⟩:=i;subst ex;obtain rfl:u=qe a:=q;obtain⟨n,B,_⟩:=Aa l d;refine⟨n,B,?_⟩;rw[m.trees];refine fw rfl (gz (ix (thn (he j K c G _ l q1) λiv p ⟨y,v,t,J,r⟩=>
  ix (thn (hf j p c v _ t r) λO S ⟨z,E,w,C,U,g,L⟩=>ji ?_))))
 exact KP hu w g J C λN T M b=>⟨_,E,M,b,L⟩
def CZ(ho:PE X o td)(he:PE X e ty)(m:M1 X o "pop" apos e cpos):PE X (.Call (.Attribute o "pop" apos) [e] [] cpos) (EM td ty):=by intro i s g H Q I h;refine wpAny_Call_method m.base m.few m.line eu PySem.F.slot_dict_pop PySem.F.type_dict_pop (thn (ho i s g H _ I h) λu B c=>?_);obtain⟨x,z,f,n,a,ex,d,q1⟩:=c;subst ex;obtain rfl:u=qe a:=n;obtain⟨j,w,_⟩:=Aa f d;refine⟨j,w,?_⟩;rw[m.trees];refine fw rfl (gz (ix (thn (he i B g z _ f q1) λiv E ⟨y,J,q,A,kvs,k,v,C,r,l,p⟩=>ji ?_)));subst r;exact Oq q C A l (.inl rfl) λG K t b=>⟨v,_,t,b,p⟩
section
variable{σ:St}{E:cf}
def C1{Q:cf}(I:Inv X ce σ H s)(e:Rd H a (.dK kvs))(h: ∀p s',H p=qr->Inv X ce σ (upd H p (.dK kvs)) s'->Q (.ref p) s'):wpAny (model X.prog X.w) A (call (.type "dict") [.ref a]) Q E s:=by obtain⟨z,i,l,c,dd⟩:=jS I.hok e;refine kt_call_dict i dd (by rw[<-c.length];exact z) λj d g=>?_;refine h _ _ (I.hok.fresh (aj _)) (I.laid (a:=s.z) (o:=.dK kvs) (t':=s.toks) (λb q f=>?_) (aj _) (nA z (beq_eq_false_iff_ne.mpr (qq (bh I.bigK))) c d));exact(g.2 b (bh (ah f))).trans (ae _ f)
end
section
variable {κ:Type} [DecidableEq κ]
end
end L2
namespace SK
open PySem PySem.Spec PyProof.Rows L2
section
variable{X:Cx}{ad:Ad}{ce:cg}{s:Shared}{σ:St}{H G:Hp}{E:Nat->Hp->Prop}{a b c:Expr}{f g h:F}
mutual
theorem fG(I:Inv X ce σ H s)(hG:Same G H): ∀{d:D} {v:V} {u:Value},plain d=qt->Rep X.K ad G d v->bH v u->∃as,Reads s.heap u (eR d) as
 |.non,v,u,_,h,r=>by
  unfold Rep at h;subst h;cases r;unfold eR;exact⟨_,.none⟩
 |.bl b,v,u,_,h,r=>by
  unfold Rep at h;subst h;cases r;unfold eR;exact⟨_,.bool b⟩
 |.int i,v,u,_,h,r=>by
  unfold Rep at h;subst h;obtain⟨t,rfl⟩:=r;unfold eR;exact⟨_,.int i t⟩
 |.str x,v,u,_,h,r=>by
  unfold Rep at h;subst h;obtain⟨t,rfl⟩:=r;unfold eR;exact⟨_,.str x t⟩
 |.tup ds,v,u,p,h,r=>by
  unfold Rep at h;obtain⟨a,w,rfl,f,c⟩:=h;cases r;obtain⟨e,l,⟨o,g,j,n,q⟩,_⟩:=I.tuple (hG.seqT f);obtain⟨as,m⟩:=iO I hG (by simpa[plain]using p) c l;unfold eR;exact⟨_,.tuple g j q (by simpa using m)⟩
 |.lst ds,v,u,p,h,r=>by
  unfold Rep at h;obtain⟨a,w,rfl,f,c⟩:=h;cases r;obtain⟨e,l,⟨o,n,g,j,_,q⟩,_⟩:=I.list (hG.seq f);obtain⟨as,m⟩:=iO I hG (by simpa[plain]using p) c l;unfold eR;exact⟨_,.list g j q (by simpa using m)⟩
 |.exc _,_,_,p,_,_=>by simp[plain]at p
 |.fn _,_,_,p,_,_=>by simp[plain]at p
theorem iO(I:Inv X ce σ H s)(hG:Same G H): ∀{ds:L1 D} {vs:L1 V} {us:L1 Value},cS ds=qt->aI X.K ad G ds vs->bW vs us->∃as,ReadsAll s.heap us (gA ds) as
 |[],vs,us,_,h,r=>by
  unfold aI at h;subst h;cases r;unfold gA;exact⟨_,.nil⟩
 |d::ds,vs,us,p,h,r=>by
  unfold aI at h;obtain⟨v,j,rfl,i,c⟩:=h;have b:plain d=qt/\cS ds=qt:=by simpa[cS]using p
  cases r with
  |cons g e=>
   obtain⟨as,q1⟩:=fG I hG b.1 i g;obtain⟨bs,f⟩:=iO I hG b.2 c e;unfold gA;exact⟨_,.cons q1 f⟩
end
def kN(h:kF x y=qt):plain x=qt/\plain y=qt/\min (dep x) (dep y)<=60:=by unfold kF at h;rw[aw,aw]at h;exact⟨h.1.1,h.1.2,of_decide_eq_true h.2⟩
def Ab(hu:A.units+61<cLine)(I:Inv X ce σ H s)(hG:Same G H)(h:kF x y=qt)(rx:Rep X.K ad G x v)(ry:Rep X.K ad G y w)(ru:bH v u)(rz:bH w z):
  SeqAt.EqAt A s u z (deq x y):=by
 obtain⟨b,c,f⟩:=kN h;obtain⟨d,q1⟩:=fG I hG b rx ru;obtain⟨bs,e⟩:=fG I hG c ry rz;rw[<-lN x y b c];exact SeqAt.eqAt_reads (eR x) (eR y) A s u z d bs q1 e (kB b) (kB c) (by rw[lL,lL];lia)
def nC(r:Rep X.K ad G x v):decide (v= .non)=qD x:=by rcases x with _|a|_|_|_|_|_|_|⟨_,_⟩;unfold Rep at r;subst r;rfl;unfold Rep at r;subst r;rfl;unfold Rep at r;subst r;rfl;unfold Rep at r;subst r;rfl;unfold Rep at r;obtain⟨p,_,rfl,_⟩:=r;rfl;unfold Rep at r;obtain⟨p,_,rfl,_⟩:=r;rfl;unfold Rep at r;obtain⟨p,rfl,_⟩:=r;rfl;unfold Rep at r;subst r;rfl;unfold Rep at r;obtain⟨p,_,_,rfl,_⟩:=r;rfl
theorem vS: ∀{ys} {vs} {us},aI X.K ad G ys vs->bW vs us->∀u∈us, ∃d∈ys, ∃v,Rep X.K ad G d v/\bH v u
 |[],vs,us,h,r,u,hu=>by
  unfold aI at h;subst h;cases r;cases hu
 |d::ds,vs,us,h,r,u,hu=>by
  unfold aI at h;obtain⟨v,l,rfl,j,c⟩:=h;cases r with
  |cons i e=>
   rcases av.mp hu with rfl|hu;exact⟨d,.head _,v,j,i⟩;obtain⟨b,g,f,q⟩:=vS c e u hu;exact⟨b,.tail _ g,f,q⟩
theorem vT p q: ∀{ys} {vs} {us},aI X.K ad G ys vs->bW vs us->(∀d∈ys, ∀v u,Rep X.K ad G d v->bH v u->q u=p d)->us.any q=ys.any p
 |[],vs,us,h,r,_=>by
  unfold aI at h;subst h;cases r;rfl
 |d::ds,vs,us,h,r,k=>by
  unfold aI at h;obtain⟨v,j,rfl,i,c⟩:=h;cases r with
  |cons g e=>
   rw[mz,mz,k d (.head _) v _ i g,vT p q c e λb f=>k b (.tail _ f)]
theorem nD p q: ∀{ys} {vs} {us},aI X.K ad G ys vs->bW vs us->(∀d∈ys, ∀v u,Rep X.K ad G d v->bH v u->q u=p d)->us.countP q=ys.countP p
 |[],vs,us,h,r,_=>by
  unfold aI at h;subst h;cases r;rfl
 |d::ds,vs,us,h,r,k=>by
  unfold aI at h;obtain⟨v,j,rfl,i,c⟩:=h;cases r with
  |cons g e=>
   rw[List.countP_cons,List.countP_cons,k d (.head _) v _ i g,nD p q c e λb f=>k b (.tail _ f)]
theorem qO p q: ∀{ys} {vs} {us},aI X.K ad G ys vs->bW vs us->(∀d∈ys, ∀v u,Rep X.K ad G d v->bH v u->q u=p d)->us.findIdx? q=ys.findIdx? p
 |[],vs,us,h,r,_=>by
  unfold aI at h;subst h;cases r;rfl
 |d::ds,vs,us,h,r,k=>by
  unfold aI at h;obtain⟨v,j,rfl,i,c⟩:=h;cases r with
  |cons g e=>
   rw[i0,i0,k d (.head _) v _ i g,qO p q c e λb f=>k b (.tail _ f)]
open Classical in
def EN(hu:X.A.units+62<cLine)(I:Inv X ce σ H s)(hG:Same G H)(h:Gh x ys=qt)(rx:Rep X.K ad G x v)(ru:bH v u)(r:aI X.K ad G ys vs)(rv:bW vs its):
  ∃e,(∀y,y∈its.toArray->SeqAt.EqAt X.A.in1 s y u (e y))/\its.toArray.any e=(ys.any λy=>deq y x)/\its.countP e=(ys.countP λy=>deq y x)/\its.findIdx? e=ys.findIdx? λy=>deq y x:=by
 have ok: ∀d∈ys,kF d x=qt:=λd f=>zAd h d f;have b: ∀d∈ys, ∀i g,Rep X.K ad G d i->bH i g->(decide (∃d' c,plain d'=qt/\Reads s.heap g (eR d') c/\pw (eR d') (eR x)=qt))=deq d x:=λd f i g m l=>by
  obtain⟨j,o,_⟩:=kN (ok d f);obtain⟨c,q1⟩:=fG I hG j m l;rw[<-lN d x j o];by_cases z:pw (eR d) (eR x)=qt;rw[z];exact decide_eq_true ⟨d,c,j,q1,z⟩;rw[Bool.not_eq_true]at z;rw[z];refine decide_eq_false ?_;rintro⟨d',as',p',q',z'⟩;have:=SeqAt.Reads.unique (eR d) (eR d') g c as' (kB j) q1 q';rw[<-this,z]at z';cases z'
 refine⟨λg=>decide (∃d' c,plain d'=qt/\Reads s.heap g (eR d') c/\pw (eR d') (eR x)=qt),λy n=>?_,?_,nD _ _ r rv b,qO _ _ r rv b⟩;obtain⟨d,f,i,m,l⟩:=vS r rv y (by simpa using n);have:=Ab (A:=X.A.in1) (by show X.A.units+1+61<_;lia) I hG (ok d f) m rx l ru;rw[<-b d f i y m l]at this;exact this;rw[List.any_toArray];exact vT _ _ r rv b
theorem qP{x}: ∀{ks:L1 Str} {ds} {es:L1 (Key×V)},es.map (·.1)=ks.map qo->aI X.K ad G ds (es.map (·.2))->(lP es (.inr x)=qr/\bK (ks.zip ds) x=qr/\ks.contains x=qu)\/∃v d,lP es (.inr x)=pi v/\bK (ks.zip ds) x=pi d/\Rep X.K ad G d v/\d∈ds/\ks.contains x=qt
 |[],ds,[],_,_=>.inl ⟨rfl,rfl,rfl⟩
 |[],_,_::_,h,_=>by simp at h
 |_::_,_,[],h,_=>by simp at h
 |k::ks,ds,(q,v)::es,h1,h2=>by
  rw[mr,mr]at h1;obtain⟨o,n⟩:=m3 h1;rw[mr]at h2;rcases ds with _|⟨d,ds⟩;unfold aI at h2;cases h2;unfold aI at h2;obtain⟨A,u,m,t,l⟩:=h2;cases m;have g:q= .inr k:=o;subst g;by_cases z:k=x;subst z;exact .inr ⟨v,d,i4 rfl,by simp[bK],t,.head _,by simp⟩;have j: ¬((qo k:Key)= .inr x):=λy=>z (by injection y);have i: ¬x=k:=λy=>z y.symm;rcases qP (x:=x) n l with ⟨c,f,b⟩|⟨w,e,c,f,b,s,r⟩;exact .inl ⟨(g0 (p:=(qo k,v)) j).trans c,by simpa[bK,z]using f,by simpa[i]using b⟩;exact .inr ⟨w,e,(g0 (p:=(qo k,v)) j).trans c,by simpa[bK,z]using f,b,.tail _ s,by simpa[i]using r⟩
theorem Ac{A}(hu:A.units+61<cLine)(I:Inv X ce σ H s)(hG:Same G H){ls:L1 Str}{ws}{eb:L1 (Key×V)}{kb}(b1:eb.map (·.1)=ls.map qo)(b2:aI X.K ad G ws (eb.map (·.2)))(b3:KV eb kb):
  ∀{ks:L1 Str} {ds} {ea:L1 (Key×V)} {ka},(∀d∈ds, ∀e∈ws,kF d e=qt)->ea.map (·.1)=ks.map qo->aI X.K ad G ds (ea.map (·.2))->KV ea ka->
   PySem.W.KeqHits A s kb ka ((ks.zip ds).all λp=>match bK (ls.zip ws) p.1 with|some w=>deq p.2 w|none=>qu)
 |[],ds,[],_,_,_,_,.nil=>.nil
 |[],_,_::_,_,_,h,_,_=>by simp at h
 |_::_,_,[],_,_,h,_,_=>by simp at h
 |k::ks,ds,(q,v)::es,(q',u)::ka,ok,h1,h2,.cons h3 h4=>by
  rw[mr,mr]at h1;obtain⟨o,n⟩:=m3 h1;rw[mr]at h2;rcases ds with _|⟨d,ds⟩;unfold aI at h2;cases h2;unfold aI at h2;obtain⟨N,M,m,L,l⟩:=h2;cases m;obtain⟨t,J⟩:=h3;have g:q= .inr k:=o;have i:q=q':=t;subst i;subst g;have dF:=Ac hu I hG b1 b2 b3 (ks:=ks) (ds:=ds) (ea:=es) (ka:=ka) (λd E e z=>ok d (.tail _ E) e z) n l h4;rw[List.zip_cons_cons,List.all_cons];have b:=b3.val (.inr k);rcases qP (x:=k) b1 b2 with ⟨c,f,_⟩|⟨w,e,c,f,j,C,_⟩;rw[c]at b;simp only[f,Bool.false_and];exact .miss (mP.none_of b);rw[c]at b;obtain⟨y,r,B⟩:=mP.some_of b;simp only[f];exact .hit r (Ab hu I hG (ok d (.head _) e C) L j J B) dF
def EO{ks:L1 Str}{es:L1 (Key×V)}(h1:es.map (·.1)=ks.map qo)(h2:aI X.K ad G ds (es.map (·.2))):(ks.zip ds).length=es.length:=by have a:=congrArg o6 h1;have b:=h2.length;simp at a b;simp[<-a, <-b]
def EQ(hu:X.A.units+62<cLine)(I:Inv X ce σ H s)(hG:Same G H)(rx:Rep X.K ad G x v)(ry:Rep X.K ad G y w)(ru:bH v u)(rz:bH w z)(hr:RK X.K ad G H (qF neg x y) Q E):
  X.wp (compareOp (if neg then .NotEq else .Eq) u z) (EP X ce σ Q) X.xe s:=by
 cases x<;>try exact ba hr
 cases y<;>try exact ba hr
 rename_i p g n h;have c:RK X.K ad G H (if(g.all λd=>h.all λe=>kF d e)=qt then .ok (.bl (neg != Kv (p.zip g) (n.zip h)))else .bad) Q E:=hr;by_cases i:(g.all λd=>h.all λe=>kF d e)=qt;rw[if_pos i]at c;unfold Rep at rx ry;obtain⟨a,N,ea,rfl,O,j,l⟩:=rx;obtain⟨b,U,eb,rfl,Z,C,q⟩:=ry;cases (show u=qe a from ru);cases (show z=qe b from rz);obtain⟨z1,J,S,r,o⟩:=jS I.hok (.inr ⟨N,hG _ _ O⟩);obtain⟨z2,L,T,B,m⟩:=jS I.hok (.inr ⟨U,hG _ _ Z⟩);have ok: ∀d∈g, ∀e∈h,kF d e=qt:=λd hd e Y=>zAd (zAd i d hd) e Y;have f:=Ac (A:=X.A.in1) (by show X.A.units+1+61<_;lia) I hG C q B ok j l r;have M:S.length=(p.zip g).length:=by rw[EO j l];exact(KV.length r).symm
 have t:T.length=(n.zip h).length:=by rw[EO C q];exact(KV.length B).symm
 cases neg;refine PySem.W.keq_eq J L o m (by lia) (λ_=>f) ?_;rw[M,t];exact⟨.bl _,H,I,rfl,c.ok_now hG (by unfold Rep Kv;rw[Bool.false_bne]<;>rfl)⟩;refine PySem.W.keq_ne J L o m (by lia) (λ_=>f) ?_;rw[M,t];exact⟨.bl _,H,I,rfl,c.ok_now hG (by unfold Rep Kv;rw[Bool.true_bne]<;>rfl)⟩;rw[if_neg i]at c;exact c.elim
def ER(hu:X.A.units+1<cLine)(I:Inv X ce σ H s)(hG:Same G H)(rx:Rep X.K ad G (.str x) v)(ry:Rep X.K ad G (.dct ks ds) w)(ru:bH v u)(rz:bH w z)(hr:RK X.K ad G H (.ok (.bl (neg != ks.contains x))) Q E):
  X.wp (compareOp (if neg then .NotIn else .In) u z) (EP X ce σ Q) X.xe s:=by
 unfold Rep at rx ry;subst rx;obtain⟨a,o,c,rfl,g,h,i⟩:=ry;cases (show z=qe a from rz);have e:(lP c (.inr x)).isSome=ks.contains x:=by
  rcases qP (x:=x) h i with ⟨b,_,d⟩|⟨_,_,b,_,_,_,d⟩;rw[b,d];rfl;rw[b,d];rfl
 have D:pO H a (.str x) (lP c (.inr x)):=.inl ⟨c,.inr x,.inr ⟨o,hG _ _ g⟩,rfl,rfl⟩;cases neg;refine Qg hu I D ru λj f=>?_;rw[e];exact⟨.bl _,H,f,rfl,hr.ok_now hG (by unfold Rep;simp)⟩;refine zX hu I D ru λj f=>?_;rw[e];exact⟨.bl _,H,f,rfl,hr.ok_now hG (by unfold Rep;simp)⟩
def GI:inS x y k= .bad\/∃i ks vs,x= .str i/\y= .dct ks vs:=by
 cases x<;>try exact .inl rfl
 cases y<;>try exact .inl rfl
 exact .inr ⟨_,_,_,rfl,rfl⟩
def vU(h:op= .Lt\/op= .Gt\/op= .GtE):fK op x y= .bad\/∃i j,x= .int i/\y= .int j:=by
 cases x<;>try (rcases h with rfl|rfl|rfl<;>exact .inl rfl)
 cases y<;>try (rcases h with rfl|rfl|rfl<;>exact .inl rfl)
 exact .inr ⟨_,_,rfl,rfl⟩
def KS:fK .LtE x y= .bad\/(∃i j,x= .int i/\y= .int j)\/∃i j,x= .str i/\y= .str j:=by
 cases x<;>try exact .inl rfl
 all_goals cases y<;>try exact .inl rfl
 exact .inr (.inl ⟨_,_,rfl,rfl⟩);exact .inr (.inr ⟨_,_,rfl,rfl⟩)
def KU(h:op= .Is\/op= .IsNot):fK op x y= .bad\/y= .non:=by
 cases y<;>try (rcases h with rfl|rfl<;>exact .inl rfl)
 exact .inr rfl
def jU op(hu:X.A.units+62<cLine):DOp X ad (compareOp op) (fK op):=by
 intro r s q H G x y v w u z Q E I g f c m l b;cases op with
 |Eq=>
  have d:RK X.K ad G H (if kF x y then R.ok (.bl (deq x y))else qF qu x y) Q E:=b;by_cases p:kF x y=qt;rw[if_pos p]at d;obtain⟨n,o,J⟩:=kN p;obtain⟨C,q1⟩:=fG I g n f m;obtain⟨bs,B⟩:=fG I g o c l;exact SeqAt.compareEq_reads q1 B (kB n) (kB o) (by rw[lL,lL];lia) (by rw[lN x y n o];exact⟨.bl _,H,I,rfl,d.ok_now g dN⟩);rw[if_neg p]at d;exact EQ (neg:=qu) hu I g f c m l d
 |NotEq=>
  have d:RK X.K ad G H (if kF x y then R.ok (.bl (!deq x y))else qF qt x y) Q E:=b;by_cases p:kF x y=qt;rw[if_pos p]at d;obtain⟨n,o,J⟩:=kN p;obtain⟨C,q1⟩:=fG I g n f m;obtain⟨bs,B⟩:=fG I g o c l;exact SeqAt.neOverData X.prog X.w X.A X.xe s u z (eR x) (eR y) C bs _ q1 B (kB n) (kB o) (by rw[lL,lL];lia) (by rw[lN x y n o];exact⟨.bl _,H,I,rfl,d.ok_now g dN⟩);rw[if_neg p]at d;exact EQ (neg:=qt) hu I g f c m l d
 |Lt=>
  rcases vU (x:=x) (y:=y) (.inl rfl)with e|⟨i,j,rfl,rfl⟩;rw[e]at b;exact b.elim;unfold Rep at f c;subst f;subst c;exact N4 r s q H _ _ u z Q I m l ⟨_,_,rfl,rfl,b.ok_now g dN⟩
 |LtE=>
  rcases KS (x:=x) (y:=y)with e|⟨i,j,rfl,rfl⟩|⟨i,j,rfl,rfl⟩;rw[e]at b;exact b.elim;unfold Rep at f c;subst f;subst c;exact N5 r s q H _ _ u z Q I m l ⟨_,_,rfl,rfl,b.ok_now g dN⟩;unfold Rep at f c;subst f;subst c;obtain⟨t,rfl⟩:=(show ∃t,u=qc i t from m);obtain⟨L,rfl⟩:=(show ∃t,z=qc j t from l);exact PySem.P.le_str ⟨.bl _,H,I,rfl,b.ok_now g dN⟩
 |Gt=>
  rcases vU (x:=x) (y:=y) (.inr (.inl rfl))with e|⟨i,j,rfl,rfl⟩;rw[e]at b;exact b.elim;unfold Rep at f c;subst f;subst c;exact N6 r s q H _ _ u z Q I m l ⟨_,_,rfl,rfl,b.ok_now g dN⟩
 |GtE=>
  rcases vU (x:=x) (y:=y) (.inr (.inr rfl))with e|⟨i,j,rfl,rfl⟩;rw[e]at b;exact b.elim;unfold Rep at f c;subst f;subst c;exact N7 r s q H _ _ u z Q I m l ⟨_,_,rfl,rfl,b.ok_now g dN⟩
 |Is=>
  rcases KU (x:=x) (y:=y) (.inl rfl)with e|rfl;rw[e]at b;exact b.elim;unfold Rep at c;subst c;exact Ko r s q H _ _ u z Q I m l ⟨rfl,by rw[nC f];exact b.ok_now g dN⟩
 |IsNot=>
  rcases KU (x:=x) (y:=y) (.inr rfl)with e|rfl;rw[e]at b;exact b.elim;unfold Rep at c;subst c;exact F6 r s q H _ _ u z Q I m l ⟨rfl,by rw[nC f];exact b.ok_now g dN⟩
 |In=>
  have h:RK X.K ad G H (inS x y qu) Q E:=b;rcases GI (x:=x) (y:=y) (k:=qu)with e|⟨i,ks,vs,rfl,rfl⟩;rw[e]at h;exact h.elim;exact ER (neg:=qu) (by lia) I g f c m l h
 |NotIn=>
  have h:RK X.K ad G H (inS x y qt) Q E:=b;rcases GI (x:=x) (y:=y) (k:=qt)with e|⟨i,ks,vs,rfl,rfl⟩;rw[e]at h;exact h.elim;exact ER (neg:=qt) (by lia) I g f c m l h
end
def PE.imp(h:PE X e t)(k: ∀σ H Q,t' σ H Q->t σ H Q):PE X e t':=λb s σ H Q I w=>h b s σ H Q I (k σ H Q w)
def PT.imp(h:PT X e t)(k: ∀σ H Q,t' σ H Q->t σ H Q):PT X e t':=λb s σ H Q I w=>h b s σ H Q I (k σ H Q w)
def PW.imp(h:PW X e t)(k: ∀σ H Q,t' σ H Q->t σ H Q):PW X e t':=λb c s σ H Q I w=>h b c s σ H Q I (k σ H Q w)
def PS.imp(h:PS X e t)(k: ∀D σ H,t' D σ H->t D σ H):PS X e t':=λb s σ H D I w=>h b s σ H D I (k D σ H w)
def PSs.imp(h:PSs X e t)(k: ∀D σ H,t' D σ H->t D σ H):PSs X e t':=λb s σ H D I w=>h b s σ H D I (k D σ H w)
def PA.imp(h:PA X es t)(k: ∀σ H Q,t' σ H Q->t σ H Q):PA X es t':=λp b s σ H Q I w=>h p b s σ H Q I (k σ H Q w)
section
variable{X:Cx}{ad:Ad}{ce:cg}{s:Shared}{σ:St}{H G:Hp}{Q:VK}{E:Nat->Hp->Prop}{a b c:Expr}{f g h:F}
def Ae(hx:XP X ad σ E)(st:Step G H G1 H1)(hS:SL X.K ad G H ρ σ){Q}(hr:RK X.K ad G1 H1 (f ρ) Q E):tE X ad f σ H1 Q:=⟨G1,ρ,E,st.gh,hS.step st,hx,hr⟩
def KW(ha:ME X ad a f):ME X ad (.UnaryOp .Not a pos) (kG f):=by
 refine PE.imp (Ka ha) ?_;rintro i H Q ⟨G,j,E,b,e,g,c⟩;refine dX b e g c λv d m l h r k=>?_;cases d<;>try exact ba k
 unfold Rep at r;subst r;exact⟨_,rfl,k.ok_now h.gh dN⟩
def ES(ha:ME X ad a f):ME X ad (.UnaryOp .USub a pos) (Gi f):=by
 refine PE.imp (N1 Kn ha) ?_;rintro i H Q ⟨G,j,E,b,e,g,c⟩;refine dX b e g c λv d m l h r k=>?_;cases d<;>try exact ba k
 unfold Rep at r;subst r;exact⟨_,rfl,k.ok_now h.gh bU⟩
def KY{σ:St}{H}{Q}(h:tE X ad (lI f g) σ H Q):J0 (tE X ad f) (tE X ad g) σ H Q:=by
 obtain⟨G,m,E,j,c,e,l⟩:=h;refine dX j c e l λv d o n i r k=>?_;cases d<;>try exact ba k
 rename_i b;unfold Rep at r;subst r;refine⟨b,rfl,?_⟩;rcases b with _|_;exact CJ (k.ok_now i.gh dN);exact Cq (Ae e i c k)
def Ow{σ:St}{H}{Q}(h:tE X ad (rOr f g) σ H Q):PR (tE X ad f) (tE X ad g) σ H Q:=by
 obtain⟨G,m,E,j,c,e,l⟩:=h;refine dX j c e l λv d o n i r k=>?_;cases d<;>try exact ba k
 rename_i b;unfold Rep at r;subst r;refine⟨b,rfl,?_⟩;rcases b with _|_;exact CJ (Ae e i c k);exact Cq (k.ok_now i.gh dN)
def ET(ha:ME X ad a f)(hb:ME X ad (.BoolOp .And (b::r) pos) g):ME X ad (.BoolOp .And (a::b::r) pos) (lI f g):=PE.imp (J9 ha hb) λ_ _ _ h=>KY h
def KZ(ha:ME X ad a f)(hb:ME X ad (.BoolOp .Or (b::r) pos) g):ME X ad (.BoolOp .Or (a::b::r) pos) (rOr f g):=PE.imp (NV ha hb) λ_ _ _ h=>Ow h
def EU(hb:ME X ad b g):ME X ad (.BoolOp op [b] pos) g:=J1 hb
def Ox{σ:St}{H}{Q}(h:tT X ad f σ H Q):tE X ad f σ H λx H1=>∃k,x= .bl k/\Q k H1:=by obtain⟨G,c,E,b,e,g,i,d⟩:=h;exact⟨G,c,E,b,e,g,d⟩
def EV(ha:ME X ad a f)(he: ∀whole,isTrue a X.env whole=(do let v<-whole;standAt a.pos;holding [v] (truthy v))):MT X ad a f:=PT.imp (JY ha he) λ_ _ _ h=>Ox h
def iP{r:R}{k}(h:lO (r.bind k)):(∃d,r= .ok d/\lO (k d))\/(∃xs,r= .ow xs/\lO (k (.lst xs)))\/∃c,r= .ex c:=by rcases r with d|xs|c|_;exact .inl ⟨d,rfl,h⟩;exact .inr (.inl ⟨xs,rfl,h⟩);exact .inr (.inr ⟨c,rfl⟩);rcases h with ⟨_,h⟩|⟨_,h⟩<;>cases h
def dO: ¬lO .bad:=by rintro(⟨_,h⟩|⟨_,h⟩)<;>cases h
def K0{σ:St}{H}{Q}(h:tT X ad (kG f) σ H Q):PP (tT X ad f) σ H Q:=by
 obtain⟨G,j,E,p,n,o,i,m⟩:=h;rcases iP i with ⟨d,e,i⟩|⟨z,e,i⟩|⟨c,e⟩;cases d<;>try exact(dO i).elim
 rename_i b;refine⟨G,j,E,p,n,o,.inl ⟨b,e⟩,?_⟩;have g:RK X.K ad G H ((f j).bind λx=>match x with|.bl b=>.ok (.bl (!b))|_=>.bad) (λv l=>∃b,v= .bl b/\Q b l) E:=m;rw[e]at g ⊢;intro v u t s r;unfold Rep at r;subst r;obtain⟨y,w,q⟩:=g (.bl (!b)) u t s dN;cases w;exact⟨b,rfl,q⟩;exact(dO i).elim;refine⟨G,j,E,p,n,o,.inr ⟨c,e⟩,?_⟩;have g:RK X.K ad G H ((f j).bind λx=>match x with|.bl b=>.ok (.bl (!b))|_=>.bad) (λv l=>∃b,v= .bl b/\Q b l) E:=m;rw[e]at g ⊢;exact g
def EW(ha:MT X ad a f):MT X ad (.UnaryOp .Not a pos) (kG f):=PT.imp (JZ ha) λ_ _ _ h=>K0 h
def K1{σ:St}{H}{Q}(h:tT X ad (lI f g) σ H Q):PO (tT X ad f) (tT X ad g) σ H Q:=by
 obtain⟨G,l,E,s,n,o,j,t⟩:=h;have i:RK X.K ad G H ((f l).bind λx=>match x with|.bl qt=>g l|.bl qu=>.ok (.bl qu)|_=>.bad) (λv u=>∃b,v= .bl b/\Q b u) E:=t;rcases iP j with ⟨d,e,j⟩|⟨A,e,j⟩|⟨c,e⟩;cases d<;>try exact(dO j).elim
 rename_i b;refine⟨G,l,E,s,n,o,.inl ⟨b,e⟩,?_⟩;rw[e]at i ⊢;intro v p w m r;unfold Rep at r;subst r;refine⟨b,rfl,?_⟩;rcases b with _|_;obtain⟨z,y,q⟩:=i (.bl qu) p w m dN;cases y;exact CJ q;exact Cq ⟨p,l,E,m.gh,n.step m,o,j,RK.step i m⟩;exact(dO j).elim;refine⟨G,l,E,s,n,o,.inr ⟨c,e⟩,?_⟩;rw[e]at i ⊢;exact i
def Oy{σ:St}{H}{Q}(h:tT X ad (rOr f g) σ H Q):tOr (tT X ad f) (tT X ad g) σ H Q:=by
 obtain⟨G,l,E,s,n,o,j,t⟩:=h;have i:RK X.K ad G H ((f l).bind λx=>match x with|.bl qt=>.ok (.bl qt)|.bl qu=>g l|_=>.bad) (λv u=>∃b,v= .bl b/\Q b u) E:=t;rcases iP j with ⟨d,e,j⟩|⟨A,e,j⟩|⟨c,e⟩;cases d<;>try exact(dO j).elim
 rename_i b;refine⟨G,l,E,s,n,o,.inl ⟨b,e⟩,?_⟩;rw[e]at i ⊢;intro v p w m r;unfold Rep at r;subst r;refine⟨b,rfl,?_⟩;rcases b with _|_;exact CJ ⟨p,l,E,m.gh,n.step m,o,j,RK.step i m⟩;obtain⟨z,y,q⟩:=i (.bl qt) p w m dN;cases y;exact Cq q;exact(dO j).elim;refine⟨G,l,E,s,n,o,.inr ⟨c,e⟩,?_⟩;rw[e]at i ⊢;exact i
def EX(ha:MT X ad a f)(hb:MW X ad (.BoolOp .And (b::r) pos) g):MW X ad (.BoolOp .And (a::b::r) pos) (lI f g):=PW.imp (pw_and ha hb) λ_ _ _ h=>K1 h
def GJ(ha:MT X ad a f)(hb:MW X ad (.BoolOp .Or (b::r) pos) g):MW X ad (.BoolOp .Or (a::b::r) pos) (rOr f g):=PW.imp (pw_or ha hb) λ_ _ _ h=>Oy h
def Af(hb:MT X ad b g):MW X ad (.BoolOp op [b] pos) g:=by
 cases op with
 |And=>exact pw_and1 hb
 |Or=>exact pw_or1 hb
def K2(hu:X.A.units+62<cLine)(ha:ME X ad a f)(hb:ME X ad b g)(hm:behindInMarks op b=qu):ME X ad (.Compare a [op] [b] pos) (bR op f g):=by refine λm s j H Q I e=>e.el λG l E c h i d=>?_;exact wpAny_Compare1 (zU (jU op hu) ha hb I c h i d) hm
def EY(hu:X.A.units+62<cLine)(ha:ME X ad a f)(hb:ME X ad b g)(hm:behindInMarks op b=qu):MT X ad (.Compare a [op] [b] pos) (bR op f g):=by refine λK s B H Q I i=>i.el λG w E p j l z h=>?_;refine wpAny_isTrue_Compare1 (L2.thn (zU (jU op hu) ha hb I p j l h) λv J r=>L2.thn r λu y o=>L2.thn o λc C d=>?_) hm;obtain⟨x,n,m,t,k,e,q⟩:=d;subst e;cases t;exact wpAny_truthy_bool ⟨n,m,q⟩
def isB(r:R):Prop:=(∃k,r= .ok (.bl k))\/r= .bad
def GK:(∃k,fK op x y= .ok (.bl k))\/fK op x y= .bad:=by
 have i: ∀k,isB (inS x y k):=λk=>by
  rcases GI (x:=x) (y:=y) (k:=k)with e|⟨i,ks,vs,rfl,rfl⟩;exact .inr e;exact .inl ⟨_,rfl⟩
 have e: ∀(p:Prop) [Decidable p] (k:Bool) (r:R),isB r->isB (if p then .ok (.bl k)else r):=λp _ k r h=>by
  by_cases c:p;rw[if_pos c];exact .inl ⟨_,rfl⟩;rw[if_neg c];exact h
 have n: ∀k,isB (qF k x y):=λk=>by
  cases x<;>try exact .inr rfl
  cases y<;>try exact .inr rfl
  exact e _ _ _ (.inr rfl)
 have c: ∀op,(op= .Lt\/op= .Gt\/op= .GtE)->isB (fK op x y):=λop h=>by
  rcases vU (x:=x) (y:=y) h with a|⟨i,j,rfl,rfl⟩;exact .inr a;rcases h with rfl|rfl|rfl<;>exact .inl ⟨_,rfl⟩
 cases op with
 |Eq=>exact e _ _ _ (n _)
 |NotEq=>exact e _ _ _ (n _)
 |In=>exact i _
 |NotIn=>exact i _
 |Lt=>exact c _ (.inl rfl)
 |Gt=>exact c _ (.inr (.inl rfl))
 |GtE=>exact c _ (.inr (.inr rfl))
 |LtE=>
  rcases KS (x:=x) (y:=y)with a|⟨i,j,rfl,rfl⟩|⟨i,j,rfl,rfl⟩;exact .inr a;exact .inl ⟨_,rfl⟩;exact .inl ⟨_,rfl⟩
 |Is=>cases y<;>first|exact .inr rfl|exact .inl ⟨_,rfl⟩
 |IsNot=>cases y<;>first|exact .inr rfl|exact .inl ⟨_,rfl⟩
def Oz{op}{x y}{v w}{u z}(hu:X.A.units+62<cLine)(I:Inv X ce σ H s)(hG:Same G H)(rx:Rep X.K ad G x v)(ry:Rep X.K ad G y w)(ru:bH v u)(rz:bH w z){k}(hr:RK X.K ad G H ((fK op x y).bind k) Q E):X.wp (compareOp op u z) (λd s3=>∃b G' H',d= .bool b/\Step G H G' H'/\Inv X ce σ H' s3/\RK X.K ad G' H' (k (.bl b)) Q E) X.xe s:=by rcases GK (op:=op) (x:=x) (y:=y)with ⟨b,e⟩|e;rw[e]at hr;refine L2.thn (jU op hu ce s σ H G x y v w u z (λq H'=>∃G',Step G H G' H'/\q= .bl b) E I hG rx ry ru rz (by rw[e];exact λq G' H' c r=>⟨G',c,by unfold Rep at r;exact r⟩)) λd s3 f=>?_;obtain⟨q,H',i,h,G',c,g⟩:=f;subst g;cases h;exact⟨b,G',H',rfl,c,i,RK.step hr c⟩;rw[e]at hr;exact hr.elim
def C2(hu:X.A.units+62<cLine)(ha:ME X ad a f)(hb:ME X ad b g)(hc:ME X ad c h)(hm:lastMarks [op,op'] [b,c]=qu):ME X ad (.Compare a [op,op'] [b,c] pos) (fN op op' f g h):=by
 refine λT s K H Q I t=>t.el λG ρ E Y l m S=>?_;refine Compare_chain (L2.thn (ha.thn I Y l m S) λv s1 ⟨x,d1,G1,H1,w,r1,st1,q1,U⟩=>chain_link (L2.thn (hb.thn w st1.gh (l.step st1) m U) λu s2 ⟨y,J,G2,H2,N,r,st2,p,C⟩=>
  L2.thn (Oz hu N st2.gh (q1.mono st2.sg) p r1 r C) λd s3 ⟨k,G3,W,e,i,q,o⟩=>?_)) hm
 subst e;refine wpAny_truthy_bool ?_;rcases k with _|_;exact ite_ff ⟨.bl qu,W,q,rfl,o.ok_now i.gh dN⟩;refine ite_tt (chain_last (L2.thn (hc.thn q i.gh (((l.step st1).step st2).step i) m o) λL Z n=>?_));obtain⟨z,d4,B,M,I4,r4,j,O,k4⟩:=n;exact jU op' hu T Z K M B J d4 y z u L Q E I4 j.gh ((p.mono i.sg).mono j.sg) O r r4 k4
def C3(hu:X.A.units+62<cLine)(ha:ME X ad a f)(hb:ME X ad b g)(hc:ME X ad c h)(hm:lastMarks [op,op'] [b,c]=qu):MT X ad (.Compare a [op,op'] [b,c] pos) (fN op op' f g h):=by
 refine λce s M H Q I w=>w.el λG ρ E hG m n ht Z=>?_;refine isTrue_chain (L2.thn (ha.thn I hG m n Z) λv s1 ⟨x,d1,G1,H1,B,W,st1,q1,k1⟩=>test_link (L2.thn (hb.thn B st1.gh (m.step st1) n k1) λu s2 ⟨y,N,G2,H2,T,t,st2,q,p⟩=>
  L2.thn (Oz hu T st2.gh (q1.mono st2.sg) q W t p) λd s3 ⟨k,G3,H3,e,i,r,o⟩=>?_)) hm
 subst e;refine wpAny_truthy_bool ?_;rcases k with _|_;obtain⟨k',e',K⟩:=o.ok_now (v:=.bl qu) i.gh dN;cases e';exact ite_ff ⟨H3,r,K⟩;refine ite_tt (test_last (L2.thn (hc.thn r i.gh (((m.step st1).step st2).step i) n o) λO s4 j=>?_));obtain⟨C,d4,J,S,I4,r4,l,Y,k4⟩:=j;refine L2.thn (jU op' hu ce s4 M S J N d4 y C u O _ E I4 l.gh ((q.mono i.sg).mono l.sg) Y t r4 k4) λd' s5 j=>?_;obtain⟨z2,H5,L,r5,p,z,U⟩:=j;subst z;cases r5;exact wpAny_truthy_bool ⟨H5,L,U⟩
def Ag:MA X ad [] []:=PA.imp dR λe H Q b=>by obtain⟨G,f,E,c,g,h,d⟩:=b;exact d [] G H (Step.refl c) aI.nil
def oJ(ha:ME X ad a f)(hr:MA X ad es fs)(hs:starEach (a::es) X.env=(qu,eval a X.env)::starEach es X.env):MA X ad (a::es) (f::fs):=by
 refine PA.imp (cG ha hr hs) ?_;rintro x H Q ⟨G,j,E,y,s,t,hr⟩;have g: ∀d,AK X.K ad G H ((args fs j).cons d) Q E->∀v i h,Step G H i h->Rep X.K ad i d v->tA X ad fs x h λw o=>Q (v::w) o:=λd hk v i h b r=>by
  refine⟨i,j,E,b.gh,s.step b,t,?_⟩;rcases e:args fs j with A|c|_;rw[e]at hk;exact λu l o st2 q=>hk (v::u) l o (b.trans st2) (aI.cons (r.mono st2.sg) q);rw[e]at hk;exact λl o st2=>hk l o (b.trans st2);rw[e]at hk;exact hk
 refine⟨G,j,E,y,s,t,?_⟩;unfold args at hr;rcases e:f j with d|w|c|_;rw[e]at hr;exact λv i h b r=>g d hr v i h b r;rw[e]at hr;intro p u i h b n m z r;obtain⟨l,st2,q⟩:=dW (X:=X) (ad:=ad) b n m z r;exact g _ hr _ l h st2 q;rw[e]at hr;exact hr;rw[e]at hr;exact hr
def fH(h:args fs ρ= .ok ds):ds.length=fs.length:=by
 induction fs generalizing ds with
 |nil=>cases h;rfl
 |cons f fs g=>
  unfold args at h;rcases e:f ρ with d|d|c|_;rw[e]at h;rcases b:args fs ρ with r|c|_;rw[b]at h;cases h;simp[g b];rw[b]at h;cases h;rw[b]at h;cases h;rw[e]at h;rcases b:args fs ρ with r|c|_;rw[b]at h;cases h;simp[g b];rw[b]at h;cases h;rw[b]at h;cases h;rw[e]at h;cases h;rw[e]at h;cases h
def tK{σ}{H}{Q}(hG:Same G H)(hS:SL X.K ad G H ρ σ)(hx:XP X ad σ E)(hr:RK X.K ad G H (lJ fs ρ k) Q E)(q: ∀vs ds G1 H1,Step G H G1 H1->aI X.K ad G1 ds vs->ds.length=fs.length->RK X.K ad G1 H1 (k ds) Q E->Q' vs H1):tA X ad fs σ H Q':=by refine⟨G,ρ,E,hG,hS,hx,?_⟩;unfold lJ at hr;rcases e:args fs ρ with ds|c|_;rw[e]at hr;exact λvs G1 H1 b r=>q vs ds G1 H1 b r (fH e) (RK.step hr b);rw[e]at hr;exact hr;rw[e]at hr;exact hr
def K3(ha:MA X ad es fs)(hl:fs.length<=1000):ME X ad (.Tuple es j pos) (fD fs):=by refine PE.imp (Kr ha) ?_;rintro t H Q ⟨G,d,E,l,h,i,g⟩;refine⟨G,d,E,l,h,i,?_⟩;have b:RK X.K ad G H ((args fs d).then λn=>.ok (.tup n)) Q E:=g;rcases e:args fs d with u|c|_;rw[e]at b;intro o s q f r;refine⟨?_,λp m=>(RK.step b f).tup_new f.gh r m⟩;have:=r.length;rw[this,fH e];exact ny hl (by decide);rw[e]at b;exact b;rw[e]at b;exact b
def EZ(ha:MA X ad es fs)(hl:fs.length<=1000):ME X ad (.List es pos) (gZ fs):=by refine PE.imp (vE ha) ?_;rintro s H Q ⟨G,d,E,j,h,i,g⟩;refine⟨G,d,E,j,h,i,?_⟩;have b:RK X.K ad G H ((args fs d).then λm=>.ow m) Q E:=g;rcases e:args fs d with t|c|_;rw[e]at b;intro n q o f r;refine⟨?_,λp l=>(RK.step b f).ow_new f.gh r l⟩;have:=r.length;rw[this,fH e];exact ny hl (by decide);rw[e]at b;exact b;rw[e]at b;exact b
def Seq(X:Cx)(ad:Ad)(G H:Hp)(x:D)(v:V):Prop:=Rep X.K ad G x v\/∃a vs ds,x= .lst ds/\v= .ref a/\G a=qr/\H a=pi (.lst vs)/\aI X.K ad G ds vs
def Seq.step(q:Seq X ad G H x v)(st:Step G H G1 H1):Seq X ad G1 H1 x v:=by rcases q with q|⟨a,vs,ds,e1,e2,h1,h2,h3⟩;exact .inl (q.mono st.sg);refine .inr ⟨a,vs,ds,e1,e2,?_,st.sh _ _ h2,h3.mono st.sg⟩;rcases z:G1 a with _|o;rfl;have:=st.nw a h1 (by rw[z];exact λz=>nomatch z);rw[h2]at this;cases this
theorem Seq.items{x:D}{v:V}{ds:L1 D}(q:Seq X ad G H x v)(hG:Same G H)(e:items x=pi ds): ∃a vs,v= .ref a/\(x= .tup ds/\SqT X.K H a vs\/x= .lst ds/\SqL X.K H a vs)/\aI X.K ad G ds vs:=by
 rcases q with q|⟨a,vs,ds',e1,e2,d,c,b⟩;cases x with
 |tup _=>cases e;unfold Rep at q;obtain⟨a,vs,d,c,b⟩:=q;exact⟨a,vs,d,.inl ⟨rfl,hG.seqT c⟩,b⟩
 |lst _=>cases e;unfold Rep at q;obtain⟨a,vs,d,c,b⟩:=q;exact⟨a,vs,d,.inr ⟨rfl,hG.seq c⟩,b⟩
 |_=>cases e
 subst e1;cases e;exact⟨a,vs,e2,.inr ⟨rfl,SqL.of c⟩,b⟩
def E3 n i:ixD n i=L2.ixN n i:=rfl
def GL{Ex:cf}{s}{T id}{Q:cf}(hl:typeLookup (.type T) "__getitem__"=pure (pi (.builtin id)))(hs:subscripted slice qu o i=operate [o,i] (getItem o i))(hT:s.TypeIs o T)(h:wpAny (model prog w) A (getItem o i) Q Ex s):wpAny (model prog w) A (subscriptTail value slice o i) Q Ex s:=by
 unfold subscriptTail;refine aa ?_;rw[getitemInPython_of_ne hT.not_modules];refine aa (wpAny_specialOf hT hl ?_);have c:wpAny (model prog w) A (subscripted slice qu o i) (λr b=>wpAny (model prog w) A (letTemporaryGo value o r >>= λ_=>pure r) Q Ex b) Ex s:=by
  rw[hs];exact wpAny_operating (wpAny_mono h (λr b d=>aa (wpAny_letTemporaryGo (ac d))) λ_ _ x=>x)
 first
  |exact ac (aa c)
  |exact aa (ac (aa c))
  |exact aa c
def K4(I:Inv X ce σ H s)(hG:Same G H)(rx:Rep X.K ad G (.dct ks ds) v)(ru:bH v u)(rz:bH (.str k) z)(hs:subscripted b qu u z=operate [u,z] (getItem u z))(hr:RK X.K ad G H (match bK (ks.zip ds) k with|some d=>.ok d|none=>.bad) Q E):X.wp (subscriptTail a b u z) (EP X ce σ Q) X.xe s:=by unfold Rep at rx;obtain⟨p,o,t,rfl,g,i,l⟩:=rx;cases (show u=qe p from ru);rcases qP (x:=k) i l with ⟨_,f,_⟩|⟨w,d,n,f,m,_,_⟩;rw[f]at hr;exact hr.elim;rw[f]at hr;obtain⟨q,B,r,e,dd⟩:=jS I.hok (.inr ⟨o,hG _ _ g⟩);have h:=e.val (.inr k);rw[n]at h;obtain⟨y,j,c⟩:=mP.some_of h;exact GL PySem.F.slot_dict_getitem.lookup hs dd.typeIs (wpAny_getItem_of (mV (k:=.inr k) rz) dd.mapOf j ⟨w,H,I.tok _,c,hr.ok_now hG m⟩)
def K5(ha:MLk X ad a f)(hb:ME X ad b g)(hs:zF b):ME X ad (.Subscript a b pos) (rIx f g):=by
 refine λW s M H Q I h9=>h9.el λG ρ E hG hS hx hr=>?_;refine Subscript_ (L2.thn (ha W s M H G ρ _ Q E I hG hS hx hr) λv s1 o=>?_);obtain⟨x,O,G1,H1,I1,Y,st1,q1,k1⟩:=o;refine L2.thn (hb.thn I1 st1.gh (hS.step st1) hx k1) λu Z o=>?_;obtain⟨y,L,T,m,N,U,st2,r,t⟩:=o;have h:Seq X ad T m O x:=Seq.step (X:=X) (ad:=ad) q1 st2;unfold dIx at t;rcases e:items O with _|S;rw[e]at t;have A:RK X.K ad T m (ixS O L) Q E:=t;cases O<;>try exact ba A
 case dct ks J=>
  cases L<;>try exact ba A
  rcases h with h|⟨_,_,_,w,_⟩;unfold Rep at r;subst r;exact K4 N st2.gh h Y U (hs _ _) A;cases w
 cases L<;>try exact ba A
 rename_i z i;have q:RK X.K ad T m (if z.length<=LIM then(match(ixD z.cps.toList.length i).bind λj=>z.cps.toList[j]? with|some c=>.ok (.str ⟨#[c]⟩)|none=>.bad)else .bad) Q E:=A;unfold Rep at r;subst r;by_cases hc:z.length<=LIM;rw[if_pos hc]at q;rcases n:(ixD z.cps.toList.length i).bind λj=>z.cps.toList[j]? with _|c;rw[n]at q;exact q.elim;rw[n]at q;rcases h with h|⟨_,_,_,w,_⟩;unfold Rep at h;subst h;exact iH a b W Z M m _ _ v u Q N Y U ⟨z,i,c,rfl,rfl,ny hc (by decide),n,q.ok_now st2.gh eM⟩ (hs _ _);cases w;rw[if_neg hc]at q;exact q.elim;rw[e]at t;cases L<;>try exact t.elim
 rename_i i;unfold Rep at r;subst r;obtain⟨p,J,rfl,C,rq⟩:=h.items st2.gh e;have l:RK X.K ad T m (match(ixD S.length i).bind λj=>S[j]? with|some d=>.ok d|none=>.bad) Q E:=t;rcases n:(ixD S.length i).bind λj=>S[j]? with _|d;rw[n]at l;exact l.elim;rw[n]at l;obtain⟨j,e4,e5⟩:=zBd n;obtain⟨w,e6,r6⟩:=rq.get e5;have B:atI J i=pi w:=by
  unfold atI;rw[rq.length, <-E3,e4];exact e6
 rcases C with ⟨_,C⟩|⟨_,C⟩;exact Ks a b W Z M m _ _ v u Q N Y U ⟨p,J,i,w,rfl,rfl,C,B,l.ok_now st2.gh r6⟩ (hs _ _);exact Gc a b W Z M m _ _ v u Q N Y U ⟨p,J,i,w,rfl,rfl,C,B,l.ok_now st2.gh r6⟩ (hs _ _)
def C4: ∀{ds} {vs} lo hi,aI X.K ad G ds vs->aI X.K ad G (x6 ds lo hi) (Gb vs lo hi):=by intro ds vs lo hi r;unfold x6 Gb;rw[r.length];exact(r.drop _).take _
def Qh l u n:dv l u 1 n=(pb (cH n n u-cH n 0 l)).map λk=>cH n 0 l+k:=by
 have b: ∀(d:Nat) (v:L7 Int),d<=n->(match v with|none=>(d:Int)|some i=>max 0 (min (if i<0 then i+n else i) (n:Int)))=((cH n d v:Nat):Int):=λd v f=>by
  rcases v with _|i;rfl;show max 0 (min (if i<0 then i+n else i) (n:Int))=(((if i<0 then(i+n).toNat else min i.toNat n):Nat):Int);split<;>lia
 have e:dv l u 1 n=sliceRange ((cH n 0 l:Nat):Int) ((cH n n u:Nat):Int) 1:=by
  rw[<-b 0 l (bu _), <-b n u (aj _)];cases l<;>cases u<;>rfl
 rw[e];unfold sliceRange;have c:(if(1:Int) > 0 then(if((cH n 0 l:Nat):Int)<((cH n n u:Nat):Int)then(((cH n n u:Nat):Int)-((cH n 0 l:Nat):Int)+1-1)/1 else 0)else(if((cH n 0 l:Nat):Int) > ((cH n n u:Nat):Int)then(((cH n 0 l:Nat):Int)-((cH n n u:Nat):Int)-1-1)/(-1)else 0):Int).toNat=cH n n u-cH n 0 l:=by
  rw[if_pos (by decide)];split<;>lia
 show(pb (if(1:Int) > 0 then _ else _:Int).toNat).map _=_;rw[c];refine ik λk _=>?_;show(((cH n 0 l:Nat):Int)+1*(k:Int)).toNat=_;lia
theorem i7{α:Type}(xs:L1 α): ∀m a,((pb m).map λk=>a+k).filterMap (xs[·]?)=(xs.drop a).take m
 |0,a=>by simp
 |m+1,a=>by
  rw[List.range_succ,ll,List.filterMap_append,i7 xs m a,List.take_succ];congr 1;show List.filterMap (xs[·]?) [a+m]=_;rw[List.getElem?_drop];cases e:xs[a+m]? <;>simp[e]
def Ah z lo hi:Txt.slice z lo hi=⟨(sZ z.cps.toList lo hi).toArray⟩:=by
 have b:z.length=z.cps.toList.length:=by simp[ph]
 have i:((dv lo hi 1 z.length).filterMap (z.cps[·]?))=sZ z.cps.toList lo hi:=by
  rw[Qh];unfold sZ;rw[<-b, <-i7];refine congrArg (λf=>List.filterMap f _) (funext λk=>?_);simp
 unfold Txt.slice;split;rename_i h;have d:(dv lo hi 1 z.length).length=z.length:=by simpa using h
 refine PySem.Str.ext' ?_;show z.cps=(sZ z.cps.toList lo hi).toArray;rw[Qh,aq,jq]at d;unfold sZ;rw[<-b,d];have:cH z.length z.length hi<=z.length:=by
  unfold cH;rcases hi with _|v;exact aj _;simp only[];split<;>lia
 by_cases e:z.length=0;have c:z.cps.toList=[]:=List.eq_nil_of_length_eq_zero (by rw[<-b];exact e);rw[c];simpa using c;have g:cH z.length 0 lo=0:=by lia
 rw[g,List.drop_zero,b,ke];rw[i]
def OA(X:Cx)(x:V)(lo hi:L7 Int)(H:Hp)(Q:VK):Prop:=(∃a vs,x= .ref a/\(SqL X.K H a vs/\∀p,H p=qr->Q (.ref p) (upd H p (.lst (Gb vs lo hi)))))\/∃z,x= .str z/\z.length<=LIM/\Q (.str ⟨(sZ z.cps.toList lo hi).toArray⟩) H
def Ai(h:IsPart v o): ∃l,v=partValue l/\l.map (·.1)=o:=by
 cases h with
 |none=>exact⟨qr,rfl,rfl⟩
 |int i t=>exact⟨pi (i,t),rfl,rfl⟩
def GM:SlR X (λx lo hi H Q=>∃z,x= .str z/\z.length<=LIM/\Q (.str ⟨(sZ z.cps.toList lo hi).toArray⟩) H):=by intro y s p H x v r o lo hi w Q I h n i j q;obtain⟨z,rfl,f,q⟩:=q;obtain⟨t,rfl⟩:=(show ∃t,v=qc z t from h);obtain⟨l,rfl,rfl⟩:=Ai i;obtain⟨u,rfl,rfl⟩:=Ai j;obtain⟨m,e,b,d⟩:=n;refine⟨"str",_,F.slot_str_getitem.lookup,typeIs_str _ _ _,wpAny_getItem_str_slice (l:=l) (u:=u) (st:=qr) ⟨m,e,b,d⟩ rfl ?_⟩;have c:z.length<=sizeLine:=ny f (by decide);refine post_val_or_str ⟨ny (Txt.slice_le z _ _) c,λg k=>?_⟩;rw[<-Ah]at q;exact⟨.str _,H,I.tok k,⟨g,rfl⟩,q⟩
def K6:SlR X (OA X):=by intro j s f H x v g b lo hi i Q I c h d e q;obtain⟨a,l,rfl,m,q⟩|q:=q;exact Gd j s f H _ v g b lo hi i Q I c h d e ⟨a,l,rfl,m,q⟩;exact GM j s f H x v g b lo hi i Q I c h d e q
def vV{lo hi}(q:Seq X ad G H x v)(hG:Same G H)(hr:RK X.K ad G H (vI x lo hi) Q E):
  OA X v lo hi H Q:=by
 cases x with
 |lst d=>
  obtain⟨a,h,rfl,e,f⟩:=q.items hG (rfl:items (.lst d)=pi d);rcases e with ⟨z,_⟩|⟨_,e⟩;cases z;exact .inl ⟨a,h,rfl,e,λp g=>RK.ow_new (xs:=x6 d lo hi) hr hG (C4 lo hi f) g⟩
 |str z=>
  have b:RK X.K ad G H (if z.length<=LIM then .ok (.str ⟨(sZ z.cps.toList lo hi).toArray⟩)else .bad) Q E:=hr;by_cases c:z.length<=LIM;rw[if_pos c]at b;rcases q with q|⟨_,_,_,w,_⟩;unfold Rep at q;subst q;exact .inr ⟨z,rfl,c,b.ok_now hG eM⟩;cases w;rw[if_neg c]at b;exact b.elim
 |_=>exact ba hr
def K7(ha:MLk X ad a f)(hl:match l,fl with|none,qr=>True|some e,pi k=>ME X ad e k|_,_=>False)(hu:match u,fu with|none,qr=>True|some e,pi k=>ME X ad e k|_,_=>False):
  ME X ad (.Subscript a (.Slice l u qr p2) pos) (dS f fl fu):=by
 refine λh s p H Q I h9=>h9.el λG ρ E hG L M hr=>?_
 have ab: ∀(k:D->R),RK X.K ad G H ((f ρ).bind k) Q E->(∀(h:cg) (O:Shared) (x:V) (d:D) (J o:Hp),Inv X h p o O->Step G H J o->Seq X ad J o d x->RK X.K ad J o (k d) Q E->
   X.wp (evalPart l X.env) (λB S=>X.wp (evalPart u X.env) (λi g=>∃lo hi r,Inv X h p r g/\IsPart B lo/\IsPart i hi/\
    OA X x lo hi r Q) X.xe S) X.xe O)->
   X.wp (eval (.Subscript a (.Slice l u qr p2) pos) X.env) (EP X h p Q) X.xe s:=λk hk go=>by
  refine Subscript_ (L2.thn (ha h s p H G ρ k Q E I hG L M hk) λv O c=>?_);obtain⟨x,d1,J,o,z,r1,st1,q1,C⟩:=c;refine wpAny_Slice (L2.thn (go h O x d1 J o z st1 q1 C) λB S h2=>L2.thn h2 λi g c=>?_);obtain⟨lo,hi,r,I3,pl,pu,q3⟩:=c;rw[evalPart_none];refine ac ?_;have I4:Inv X h p r {g with heap:=g.heap.push {cls:=.type "slice",data:=.fields #[B,i,.none]} }:=I3.kept (t':=g.toks) λb ob q=>ae _ q;obtain⟨T,id,hT,ht,hg⟩:=K6 h {g with heap:=g.heap.push {cls:=.type "slice",data:=.fields #[B,i,.none]} } p r x v B i lo hi g.z Q I4 r1 (Heap.IsSliceOf.new ..) pl pu q3;show X.wp (subscriptTail a (.Slice l u qr p2) v (.ref g.z)) (EP X h p Q) X.xe {g with heap:=g.heap.push {cls:=.type "slice",data:=.fields #[B,i,.none]} };exact tail_any (ops:=[.ref g.z,v]) ht hT hg (by with_unfolding_all rfl)
 unfold dS at hr;refine ab _ hr λh O x d J o z st1 q1 C=>?_;rcases l with _|e;rcases fl with _|_;rw[evalPart_none];refine ac ?_;rcases u with _|e;rcases fu with _|_;rw[evalPart_none];exact ac ⟨qr,qr,o,z,.none,.none,vV q1 st1.gh C⟩;exact hu.elim;rcases fu with _|k;exact hu.elim;rw[evalPart_some];refine L2.thn (ME.thn hu z st1.gh (L.step st1) M C) λi S c=>?_;obtain⟨y,U,G2,Z,W,N,st2,m,n⟩:=c;cases U<;>try exact ba n
 rename_i j;unfold Rep at m;subst m;obtain⟨t,rfl⟩:=N;exact⟨qr,pi j,Z,W,.none,.int j t,vV (Seq.step q1 st2) st2.gh n⟩;exact hl.elim;rcases fl with _|k;exact hl.elim;rcases u with _|e';rcases fu with _|_;rw[evalPart_some];refine L2.thn (ME.thn hl z st1.gh (L.step st1) M C) λi S c=>?_;obtain⟨y,U,G2,Z,W,N,st2,m,n⟩:=c;cases U<;>try exact ba n
 rename_i j;unfold Rep at m;subst m;obtain⟨t,rfl⟩:=N;rw[evalPart_none];exact ac ⟨pi j,qr,Z,W,.int j t,.none,vV (Seq.step q1 st2) st2.gh n⟩;exact hu.elim;rcases fu with _|k';exact hu.elim;rw[evalPart_some];refine L2.thn (ME.thn hl z st1.gh (L.step st1) M C) λi S c=>?_;obtain⟨y,U,G2,Z,W,N,st2,m,n⟩:=c;cases U<;>try exact ba n
 rename_i j;unfold Rep at m;subst m;obtain⟨t,rfl⟩:=N;rw[evalPart_some];refine L2.thn (ME.thn hu W st2.gh ((L.step st1).step st2) M n) λi g c=>?_;obtain⟨y3,d3,G3,r,I3,r3,Y,q3,k3⟩:=c;cases d3<;>try exact ba k3
 rename_i j';unfold Rep at q3;subst q3;obtain⟨t',rfl⟩:=r3;exact⟨pi j,pi j',r,I3,.int j t,.int j' t',vV (Seq.step (Seq.step q1 st2) Y) Y.gh k3⟩
end
section
variable{X:Cx}{ad:Ad}{ce:cg}{s:Shared}{σ:St}{H G:Hp}{ρ:Rho}{Q:VK}{E:Nat->Hp->Prop}{p:Pos}{b c:Expr}{f g h:F}
def RK.impE{K}{r}{E E'}(h:RK K ad G H r Q E)(k: ∀c H',E c H'->E' c H'):RK K ad G H r Q E':=by rcases r with d|f|c|_;exact h;exact h;exact λe H' b=>k c H' (h e H' b);exact h
def LK(X:Cx)(ad:Ad)(G H:Hp)(r:R)(Q:VK)(E:Nat->Hp->Prop):Prop:=match r with
 |.ok d=>∀v G' H',Step G H G' H'->Seq X ad G' H' d v->Q v H'
 |.ow xs=>∀p vs G' H',Step G H G' H'->H p=qr->G' p=qr->H' p=pi (.lst vs)->aI X.K ad G' xs vs->Q (.ref p) H'
 |.ex c=>∀G' H',Step G H G' H'->E c H'
 |.bad=>False
def tL(X:Cx)(ad:Ad)(f:F):TE:=λσ H Q=>∃G ρ E,Same G H/\SL X.K ad G H ρ σ/\XP X ad σ E/\LK X ad G H (f ρ) Q E
abbrev ML(X:Cx)(ad:Ad)(e:Expr)(f:F):Prop:=PE X e (tL X ad f)
def LK.rk(h:LK X ad G H r Q E):RK X.K ad G H r Q E:=by rcases r with d|g|c|_;exact λv f e b q=>h v f e b (.inl q);exact h;exact h;exact h
def ME.ml(ha:ME X ad a f):ML X ad a f:=PE.imp ha λi H Q b=>by obtain⟨G,d,E,c,g,h,e⟩:=b;exact⟨G,d,E,c,g,h,e.rk⟩
def Aj(hV:mU X i x):ML X ad (.Name x pos) (aC i):=by rintro h s j H Q I ⟨G,m,E,l,g,u,b⟩;unfold aC at b;rcases e:m[i]? with _|r;rw[e]at b;exact b.elim;rw[e]at b;rcases r with _|d|t|kvs|kvs|⟨_,_⟩;exact b.elim;obtain⟨w,f,c⟩:=g.sh e;exact bZ hV h s j H Q I ⟨w,f,b w G H (Step.refl l) (.inl c)⟩;obtain⟨p,o,f,c,n,q⟩:=g.ow e;exact bZ hV h s j H Q I ⟨.ref p,f,b (.ref p) G H (Step.refl l) (.inr ⟨p,o,t,rfl,rfl,c,n,q⟩)⟩;exact b.elim;exact b.elim;exact b.elim
def tN{σ}{H}{Q Q'}(hG:Same G H)(hS:SL X.K ad G H ρ σ)(hx:XP X ad σ E)(hr:RK X.K ad G H ((f ρ).bind k) Q E)(q: ∀v d G1 H1,Step G H G1 H1->Seq X ad G1 H1 d v->RK X.K ad G1 H1 (k d) Q E->Q' v H1):tL X ad f σ H Q':=by refine⟨G,ρ,E,hG,hS,hx,?_⟩;rcases e:f ρ with d|l|c|_;rw[e]at hr;exact λv G1 H1 b r=>q v d G1 H1 b r (RK.step hr b);rw[e]at hr;intro p j G1 H1 b n m i r;obtain⟨h,st2,g⟩:=dW (X:=X) (ad:=ad) b n m i r;exact q _ _ h H1 st2 (.inl g) (RK.step hr st2);rw[e]at hr;exact hr;rw[e]at hr;exact hr
def ML.lk(ha:ML X ad a f):MLk X ad a f:=by intro m s n H G r k Q E I o i j h;exact L2.thn (ha m s n H _ I (tN (Q':=λv c=>∃d b,Step G H b c/\Seq X ad b c d v/\RK X.K ad b c (k d) Q E) o i j h λv d b c e q z=>⟨d,b,e,q,z⟩)) λu t g=>by obtain⟨v,c,l,p,d,b,e,q,z⟩:=g;exact⟨v,d,b,c,l,p,e,q,z⟩
def vW:lJ [f] ρ k=(f ρ).bind λx=>k [x]:=by unfold lJ args;cases f ρ<;>rfl
def BOp(X:Cx)(ad:Ad)(fv:Value)(r:Fn):Prop:=
 ∀(ce:cg) (s:Shared) (σ:St) (H G:Hp) (x:D) (v:V) (u:Value) (Q:VK) (E:Nat->Hp->Prop),Inv X ce σ H s->Same G H->Seq X ad G H x v->bH v u->RK X.K ad G H (r [x]) Q E->
  X.wp (call fv [u]) (EP X ce σ Q) X.xe s
def tP{id}(ho:BOp X ad (.builtin id) r)(hg:L2.Gl X x)(hm:X.mg x=qr)(hv:bootBuiltins x=pi (.builtin id))(ha:ML X ad a f)(hn:x≠"__name__")(hdb:(x==gV)=qu)(he:starEach [a] X.env=(qu,eval a X.env)::starEach [] X.env):ME X ad (.Call (.Name x p) [a] [] pos) (aF r [f]):=by rintro j s i H Q I ⟨G,A,E,w,l,m,e⟩;refine wpAny_Call_Name_kw (gE I hg hm hv ?_ hn hdb);unfold aF at e;rw[vW]at e;refine dt (L2.thn (cG ha dR he pos j s i H (λh c=>∃v d b,h=[v]/\Step G H b c/\Seq X ad b c d v/\RK X.K ad b c (r [d]) Q E) I ?_) λB y ⟨h,c,n,z,v,d,b,t,g,q,k⟩=>?_) he rfl;exact tN w l m e λv d b c g q k=>⟨v,d,b,rfl,g,q,k⟩;subst t;obtain⟨u,rfl,o⟩:=lB z;exact ho j y i c b d v u Q E n g.gh q o k
def vX(ho:BOp X ad (.type T) r)(hg:L2.Gl X x)(hm:X.mg x=qr)(hv:bootBuiltins x=pi (.type T))(ha:ML X ad a f)(hn:x≠"__name__")(hdb:(x==gV)=qu)(he:starEach [a] X.env=(qu,eval a X.env)::starEach [] X.env):ME X ad (.Call (.Name x p) [a] [] pos) (aF r [f]):=by rintro j s i H Q I ⟨G,A,E,w,l,m,e⟩;refine wpAny_Call_Name_kw (gE I hg hm hv ?_ hn hdb);unfold aF at e;rw[vW]at e;refine du (L2.thn (cG ha dR he pos j s i H (λh c=>∃v d b,h=[v]/\Step G H b c/\Seq X ad b c d v/\RK X.K ad b c (r [d]) Q E) I ?_) λB y ⟨h,c,n,z,v,d,b,t,g,q,k⟩=>?_) he rfl;exact tN w l m e λv d b c g q k=>⟨v,d,b,rfl,g,q,k⟩;subst t;obtain⟨u,rfl,o⟩:=lB z;exact ho j y i c b d v u Q E n g.gh q o k
def GN:BOp X ad (.builtin "len") pN:=by
 intro j s l H G x v u Q E I h q i n;have b:RK X.K ad G H (match items x with|some xs=>.ok (.int xs.length)|none=>P3 x) Q E:=n;rcases e:items x with _|r;rw[e]at b;cases x with
 |str z=>
  have c:RK X.K ad G H (if z.length<=100000 then .ok (.int z.length)else .bad) Q E:=b;by_cases g:z.length<=100000;rw[if_pos g]at c;rcases q with q|⟨_,_,_,y,_⟩;unfold Rep at q;subst q;exact p8 j s l H _ [u] Q I (.cons i .nil) ⟨_,rfl,ny g (by decide),c.ok_now h bU⟩;cases y;rw[if_neg g]at c;exact c.elim
 |_=>exact ba b
 rw[e]at b;obtain⟨p,f,rfl,o,m⟩:=q.items h e;have d:SqL X.K H p f\/SqT X.K H p f:=o.elim (λz=>.inr z.2) λz=>.inl z.2;refine p7 j s l H [.ref p] [u] Q I (.cons i .nil) ⟨p,f,rfl,d,?_⟩;rw[m.length];exact b.ok_now h bU
def GO:BOp X ad (.type "int") ED:=by
 intro i s j H G x v u Q E I h q g e;cases x<;>try exact ba e
 rcases q with q|⟨_,_,_,z,_⟩;unfold Rep at q;subst q;exact pV i s j H _ [u] Q I (.cons g .nil) (.inr ⟨_,rfl,e.ok_now h bU⟩);cases z;rcases q with q|⟨_,_,_,z,_⟩;unfold Rep at q;subst q;exact pV i s j H _ [u] Q I (.cons g .nil) (.inl ⟨_,rfl,e.ok_now h bU⟩);cases z;rename_i x;rcases q with q|⟨_,_,_,z,_⟩;unfold Rep at q;subst q;obtain⟨t,rfl⟩:=(show ∃t,u=qc x t from g);have b:RK X.K ad G H (match x.cps.toList with|[c]=>if 48<=c/\c<58 then .ok (.int ((c-48:Nat):Int))else .bad|_=>.bad) Q E:=e;split at b;rename_i c ex;by_cases l:48<=c/\c<58;rw[if_pos l]at b;obtain⟨d,n,rfl⟩: ∃d,d<10/\c=48+d:=⟨c-48,by lia,by lia⟩;have f:x=⟨#[48+d]⟩:=PySem.Str.ext' (by rw[<-Array.toList_inj];exact ex);subst f;have m:PySem.intText? ⟨#[48+d]⟩=pi (((48+d-48:Nat):Nat):Int):=(by decide+kernel: ∀d:Fin 10,PySem.intText? ⟨#[48+d.val]⟩=pi (((48+d.val-48:Nat):Nat):Int)) ⟨d,n⟩;exact PySem.W.KIN.call_text m (by show 1<=640;decide) ⟨.int _,H,I.tok _,⟨_,rfl⟩,b.ok_now h bU⟩;rw[if_neg l]at b;exact b.elim;exact b.elim;cases z
def GP:BOp X ad (.type "str") zJ:=by
 intro j s l H G x v u Q E I m q h c;cases x<;>try exact ba c
 rename_i i;rcases q with q|⟨_,_,_,z,_⟩;unfold Rep at q;subst q;have b:RK X.K ad G H (if 0<=i/\i<10 then .ok (.str ⟨#[48+i.toNat]⟩)else .bad) Q E:=c;by_cases f:0<=i/\i<10;rw[if_pos f]at b;obtain⟨d,g,rfl⟩: ∃d:Nat,d<10/\i=(d:Int):=⟨i.toNat,by lia,by lia⟩;have e:(PySem.Str.ofString (toString ((d:Nat):Int)))=⟨#[48+((d:Nat):Int).toNat]⟩:=(by decide+kernel: ∀d:Fin 10,(PySem.Str.ofString (toString ((d.val:Nat):Int)))=⟨#[48+((d.val:Nat):Int).toNat]⟩) ⟨d,g⟩;refine pW j s l H _ [u] Q I (.cons h .nil) ⟨_,rfl,?_,by rw[e];exact b.ok_now m eM⟩;exact(by decide+kernel: ∀d:Fin 10,((d.val:Nat):Int).natAbs.log2<1920) ⟨d,g⟩;rw[if_neg f]at b;exact b.elim;cases z
def C5:BOp X ad (.type "list") x9:=by intro j s n H G x v u Q E I f q i h;have b:RK X.K ad G H (match items x with|some xs=>.ow xs|none=>.bad) Q E:=h;rcases e:items x with _|r;rw[e]at b;exact b.elim;rw[e]at b;obtain⟨p,d,rfl,o,g⟩:=q.items f e;have c:SqL X.K H p d\/SqT X.K H p d:=o.elim (λz=>.inr z.2) λz=>.inl z.2;exact p9 j s n H [.ref p] [u] Q I (.cons i .nil) ⟨p,d,rfl,c,λl m=>b.ow_new f g m⟩
def Ak:BOp X ad (.type "tuple") fO:=by intro i s j H G x v u Q E I f q g n;have b:RK X.K ad G H (match items x with|some xs=>.ok (.tup xs)|none=>.bad) Q E:=n;rcases e:items x with _|r;rw[e]at b;exact b.elim;rw[e]at b;obtain⟨p,h,rfl,c,m⟩:=q.items f e;rcases c with ⟨d,c⟩|⟨d,c⟩;refine iX i s j H [.ref p] [u] Q I (.cons g .nil) ⟨p,h,rfl,.inr ⟨c,b.ok_now f ?_⟩⟩;rcases q with q|⟨_,_,_,z,_⟩;rw[d]at q;exact q;rw[d]at z;cases z;exact iX i s j H [.ref p] [u] Q I (.cons g .nil) ⟨p,h,rfl,.inl ⟨c,λl o=>b.tup_new f m o⟩⟩
theorem qQ: ∀{ds} {ns} {vs},iN ds=pi ns->aI X.K ad G ds vs->vs=ns.map V.int
 |[],ns,vs,e,r=>by
  cases e;unfold aI at r;exact r
 |d::ds,ns,vs,e,r=>by
  cases d<;>try (unfold iN at e;cases e)
  rename_i i;unfold iN at e;obtain⟨h,g,f⟩:=zMd e;subst f;unfold aI at r;obtain⟨v,j,rfl,b,c⟩:=r;unfold Rep at b;subst b;rw[qQ g c];rfl
theorem nE: ∀{ds} {ns} {vs},eP ds=pi ns->aI X.K ad G ds vs->vs=ns.map V.bl
 |[],ns,vs,e,r=>by
  cases e;unfold aI at r;exact r
 |d::ds,ns,vs,e,r=>by
  cases d<;>try (unfold eP at e;cases e)
  rename_i i;unfold eP at e;obtain⟨h,g,f⟩:=zMd e;subst f;unfold aI at r;obtain⟨v,j,rfl,b,c⟩:=r;unfold Rep at b;subst b;rw[nE g c];rfl
def vY{A}(hh:A.handled=qr)(I:Inv X ce σ H s){p}{vs}(hq:SqL X.K H p vs\/SqT X.K H p vs){Ex:cf}{Q':cf}(k: ∀its s2 I' fp wr Stt,bW vs its->Walks X.prog X.w A I' fp wr its.length (λi v=>its[i]? =pi v) Stt->Stt 0 s2.heap->(∀b∈fp,b<s2.heap.objs.size)->s2.os=s.os->s2.gens=s.gens->s2.drawn=s.drawn->
   (∀b o,s.heap.get? b=pi o->b∉wr)->(∀b o,s.heap.get? b=pi o->s2.heap.get? b=pi o)->Q' (.ref I') s2):wpAny (model X.prog X.w) A (pyIter (.ref p)) Q' Ex s:=by
 rcases hq with hq|hq;obtain⟨its,l,j,_⟩:=I.list hq;have g:p<s.heap.objs.size:=by obtain⟨o,n,e,_⟩:=j;exact ah e
 refine wpAny_pyIter_list j.isList (k its _ s.heap.objs.size [s.heap.objs.size,p] [s.heap.objs.size] (λi h=>h.IsListIter s.heap.objs.size p i/\h.IsList p its.toArray) l ?_ (And.intro ⟨_,af _ rfl,rfl,rfl⟩ ?_) ?_ rfl rfl rfl ?_ ?_);have W:=Walks.list (prog:=X.prog) (w:=X.w) hh s.heap.objs.size p (bh g) its.toArray;simpa using W;obtain⟨o,n,e,c,d⟩:=j;exact⟨o,ae _ e,c,n,d.2⟩;intro b f;rcases av.mp f with rfl|f;rw[ai];exact j3 _;have:b=p:=by simpa using f
 subst this;rw[ai];exact jr g;intro b o e f;have:b=s.heap.objs.size:=by simpa using f
 subst this;exact absurd (ah e) (mq _);exact λb o e=>ae _ e;obtain⟨its,l,j,_⟩:=I.tuple hq;have g:p<s.heap.objs.size:=j.lt;refine wpAny_pyIter_tuple (show s.heap.IsTuple p its.toArray from j) (k its _ s.heap.objs.size [s.heap.objs.size,p] [s.heap.objs.size] (λi h=>h.IsTupleIter s.heap.objs.size p i/\h.IsTuple p its.toArray) l ?_ (And.intro ⟨_,af _ rfl,rfl,rfl⟩ ?_) ?_ rfl rfl rfl ?_ ?_);have W:=Walks.tuple (prog:=X.prog) (w:=X.w) hh s.heap.objs.size p (bh g) its.toArray;simpa using W;obtain⟨o,e,c⟩:=j;exact⟨o,ae _ e,c⟩;intro b f;rcases av.mp f with rfl|f;rw[ai];exact j3 _;have:b=p:=by simpa using f
 subst this;rw[ai];exact jr g;intro b o e f;have:b=s.heap.objs.size:=by simpa using f
 subst this;exact absurd (ah e) (mq _);exact λb o e=>ae _ e
end
section
variable{X:Cx}{ad:Ad}{ce:cg}{s:Shared}{σ:St}{H G:Hp}{Q:VK}{E:Nat->Hp->Prop}{pos p:Pos}{a b c:Expr}{f g:F}
def _root_.L2.Inv.moved{wr}{s2 s'}(I:Inv X ce σ H s)(k1: ∀b o,s.heap.get? b=pi o->s2.heap.get? b=pi o)(k2: ∀b o,s.heap.get? b=pi o->b∉wr)(e1:s2.os=s.os)(e2:s2.gens=s.gens)(e3:s2.drawn=s.drawn)
  (m:Moved wr (λa b=>b=a) s2 s'):Inv X ce σ H s':=by
 have e:s'={s with heap:=s'.heap,toks:=s'.toks}:=by
  obtain⟨j,l,g,h,n⟩:=s';obtain⟨p,f,d,c,i⟩:=m;simp only at f d c ⊢;rw[f,d,c,e1,e2,e3]
 rw[e];exact I.kept λb o q=>m.heap b o (k2 b o q) (k1 b o q)
def K8{ns:L1 Int}{its}(r:bW (ns.map V.int) its){i:Nat}{v}(e:its[i]? =pi v): ∃t,v= .int (ns.getD i 0) t:=by
 have g:=r.length;have hi:i<its.length:=(ay.mp e).1;have b:i<ns.length:=by rw[aq]at g;lia
 have f:(ns.map V.int)[i]? =pi (V.int ns[i]):=by simp[b]
 obtain⟨u,c,t,d⟩:=r.get f;rw[e]at c;cases c;refine⟨t,?_⟩;rw[d];simp[List.getD,b]
def GQ(hh:X.A.handled=qr):BOp X ad (.builtin "sum") EF:=by intro ce s σ H G x v u Q E I o q T S;have c:RK X.K ad G H (match(items x).bind iN with|some xs=>.ok (.int xs.sum)|none=>.bad) Q E:=S;rcases e:items x with _|n;rw[e]at c;exact c.elim;rw[e]at c;have b:RK X.K ad G H (match iN n with|some xs=>.ok (.int xs.sum)|none=>.bad) Q E:=c;rcases d:iN n with _|j;rw[d]at b;exact b.elim;rw[d]at b;obtain⟨p,l,rfl,Z,w⟩:=q.items o e;have f:SqL X.K H p l\/SqT X.K H p l:=Z.elim (λz=>.inr z.2) λz=>.inl z.2;cases (show u=qe p from T);have ev:=qQ d w;subst ev;refine call_sum_walkAnyS (vY (A:=X.A.in1) hh I f λg s2 M y t L r W J h O Y C U N=>?_);refine⟨M,y,t,_,g.length,_,_,λi=>j.getD i 0,rfl,W.toS,J,h,λi v e=>K8 r e,λs' B m=>?_⟩;refine⟨.int j.sum,H,I.moved N U O Y C m,⟨B,?_⟩,b.ok_now o bU⟩;rw[preSum_getD, <-r.length,aq,ke]
def OB{ns:L1 Bool}{its}(r:bW (ns.map V.bl) its){i:Nat}{v}(e:its[i]? =pi v):v= .bool (ns.getD i qu):=by
 have g:=r.length;have hi:i<its.length:=(ay.mp e).1;have b:i<ns.length:=by rw[aq]at g;lia
 have f:(ns.map V.bl)[i]? =pi (V.bl ns[i]):=by simp[b]
 obtain⟨u,c,d⟩:=r.get f;rw[e]at c;cases c;have h:v= .bool ns[i]:=d;rw[h];simp[List.getD,b]
def Al(ns:L1 Bool):(pb ns.length).all (λi=>ns.getD i qu)=ns.all id:=by
 induction ns with
 |nil=>rfl
 |cons x b c=>
  rw[bq,List.range_succ_eq_map,List.all_cons,List.all_map,List.all_cons];have:(pb b.length).all ((λi=>(x::b).getD i qu) ∘ Nat.succ)=b.all id:=by
   rw[<-c];rfl
  rw[this];rfl
def GR(hh:X.A.handled=qr):BOp X ad (.builtin "all") JD:=by intro ce s σ H G x v u Q E I l q U S;have c:RK X.K ad G H (match(items x).bind eP with|some xs=>.ok (.bl (xs.all id))|none=>.bad) Q E:=S;rcases e:items x with _|j;rw[e]at c;exact c.elim;rw[e]at c;have b:RK X.K ad G H (match eP j with|some xs=>.ok (.bl (xs.all id))|none=>.bad) Q E:=c;rcases d:eP j with _|w;rw[d]at b;exact b.elim;rw[d]at b;obtain⟨p,h,rfl,hq,r⟩:=q.items l e;have f:SqL X.K H p h\/SqT X.K H p h:=hq.elim (λz=>.inr z.2) λz=>.inl z.2;cases (show u=qe p from U);have ev:=nE d r;subst ev;refine call_all_walkS (vY (A:=X.A.in1) hh I f λg s2 L t o J n W B Y N h2 y Z M=>?_);refine⟨L,t,o,_,g.length,_,_,λi=>w.getD i qu,rfl,W.toS,B,?_,λO m=>?_⟩;intro i v O Q' E' T C;rw[OB n T];exact wpAny_truthy_bool C;refine⟨.bl _,H,I.moved M Z N h2 y m,?_,b.ok_now l dN⟩;rw[<-n.length,aq,Al];rfl
def QV{α:Type}{ds:L1 α}(h:ds.length=2): ∃d e,ds=[d,e]:=by rcases ds with _|⟨d,r⟩;cases h;rcases r with _|⟨e,r⟩;cases h;rcases r with _|⟨_,_⟩;exact⟨d,e,rfl⟩;simp at h
def JI{x}{id}{r}{op:Int->Int->Int}(hd: ∀i j,r [.int i,.int j]= .ok (.int (op i j)))(hb0: ∀x y Q E G H,RK X.K ad G H (r [x,y]) Q E->∃i j,x= .int i/\y= .int j)
  (ho:lA X (.builtin id) (λxs H Q=>∃i j,xs=[.int i,.int j]/\Q (.int (op i j)) H)) (hg:L2.Gl X x) (hm:X.mg x=qr) (hv:bootBuiltins x=pi (.builtin id)) (ha:ME X ad a f) (hb:ME X ad b g) (hn:x≠"__name__")
  (hdb:(x==gV)=qu) (he:starEach [a,b] X.env=(qu,eval a X.env)::starEach [b] X.env) (he2:starEach [b] X.env=(qu,eval b X.env)::starEach [] X.env):ME X ad (.Call (.Name x p) [a,b] [] pos) (aF r [f,g]):=by
 refine PE.imp (vG (id:=id) ho hg hm hv (oJ ha (oJ hb Ag he2) he) hn hdb he (by rw[he2];rfl)) ?_
 rintro L H Q ⟨G,C,E,B,q,s,o⟩;refine tK B q s o λI N A z t c u k=>?_
 obtain⟨d,e,rfl⟩:=QV u;obtain⟨i,j,rfl,rfl⟩:=hb0 d e Q E A z k;unfold aI at c;obtain⟨v,J,rfl,n,h⟩:=c;unfold aI at h;obtain⟨M,w,rfl,l,m⟩:=h;unfold aI at m;subst m;unfold Rep at n l;subst n;subst l;rw[hd]at k;exact⟨i,j,rfl,k.ok_now t.gh bU⟩
def yC(K:nq)(ad:Ad)(n:Nat)(F:Fn):Sp:=λvs H Q E=>∃G ds,Same G H/\aI K ad G ds vs/\ds.length=n/\RK K ad G H (F ds) Q (λc H'=>E (.ref (ad.cls c)) qr H')
def lR{f}{E}(F:FnOk X.prog X.w X.K X.mg X.base CX k f fd ps sp)(hr:Room k X.A)(hb:eE X.K fd ps [])(I:Inv X ce σ H s)(r:bW vs us)(h:sp vs H Q E)(hx: ∀e s',CX X.stack H s E e s'->X.xe e s'):X.wp (call (.ref f) us) (EP X ce σ Q) X.xe s:=by
 have c:(us++[]).length=ps.length:=by rw[k7, <-r.length];exact F.len _ _ _ _ h
 refine wpAny_call (codeAny_mono (F.run X.A X.stack s H ⟨us,[]⟩ us vs Q E hr I.env0 (by have:=hb s us I.kIn c;rwa [k7]at this) r h) λr s' b=>?_);rcases r with e|d;exact hx e s' b;cases d with
 |ret u=>exact I.after b
 |next=>exact ba b
 |brk=>exact ba b
 |cont=>exact ba b
structure FnGood(X:Cx)(ad:Ad)(k:Nat)(x:Str)(n:Nat)(F:Fn)(f:Addr):Prop where
 mg:X.mg x=pi (.ref f)
 kp:l7 X.K (.ref f)=qt
 ok: ∃fd ps,FnOk X.prog X.w X.K X.mg X.base (CXe X.prog X.w) k f fd ps (yC X.K ad n F)/\eE X.K fd ps []
def Am{F}{f}(T:FnGood X ad k x n F f)(hr:Room k X.A)(I:Inv X ce σ H s)(hG:Same G H)(hx:XP X ad σ E)(r:bW vs us)(rq:aI X.K ad G ds vs)(hl:ds.length=n)(h:RK X.K ad G H (F ds) Q E):X.wp (call (.ref f) us) (EP X ce σ Q) X.xe s:=by obtain⟨j,m,g,b⟩:=T.ok;exact lR (E:=xk ad E) g hr b I r ⟨G,ds,hG,rq,hl,h.impE λc l e=>⟨c,rfl,e⟩⟩ λe i d=>hx ce H s e i I d
def GS{F}{f}(T:FnGood X ad k x n F f)(hr:Room k X.A)(hg:L2.Gl X x)(hdb:(x==gV)=qu)(ha:MA X ad (a::es) fs)(hn:fs.length=n)(he:starEach (a::es) X.env=(qu,eval a X.env)::starEach es X.env)(hpl:(backTo pos (starEach es X.env)).any (·.1)=qu):ME X ad (.Call (.Name x p) (a::es) [] pos) (aF F fs):=by
 refine λv s t H Q I o=>o.el λG w E u q l j=>?_;refine wpAny_Call_Name_kw (eJ I hg T.mg ?_ hdb);refine i3 (h₀:=X.base) I.ok.mod.kin T.kp (L2.thn (ha pos v s t H (λh d=>∃c b,Step G H b d/\aI X.K ad b c h/\c.length=fs.length/\RK X.K ad b d (F c) Q E) I
  (tK u q l j λh c b d g e i k=>⟨c,b,g,e,i,k⟩)) λy z ⟨h,d,m,r,c,b,g,e,i,k⟩=>⟨m.kIn,?_⟩) he hpl
 exact Am T hr m g.gh l r e (i.trans hn) k
structure FnAt(X:Cx)(ad:Ad)(k:Nat)(n:Nat)(F:Fn)(f:Addr):Prop where
 kp:l7 X.K (.ref f)=qt
 ok: ∃fd ps,FnOk X.prog X.w X.K X.mg X.base (CXe X.prog X.w) k f fd ps (yC X.K ad n F)/\eE X.K fd ps []
end
noncomputable def lS(cells:L1 (Str×Addr)):L1 (Str×NameKind)->L1 (Str×Addr)->L1 (Str×Addr)
 |[],acc=>acc
 |(x,k)::r,acc=>lS cells r (if k== .free then(x,(cells.lookup x).getD 0)::acc else acc)
theorem kO{cells}: ∀{ns} {acc} {x} {c},(lS cells ns acc).lookup x=pi c->(∃k,(x,k)∈ns/\k= .free/\c=(cells.lookup x).getD 0)\/acc.lookup x=pi c
 |[],acc,x,c,h=>.inr h
 |(y,k)::r,acc,x,c,h=>by
  rcases kO (ns:=r) h with ⟨g,f,i,d⟩|h;exact .inl ⟨g,.tail _ f,i,d⟩;by_cases hk:(k==m4)=qt;rw[if_pos hk,kg]at h;rcases b:x==y with _|_;rw[b]at h;exact .inr h;rw[b]at h;have e:x=y:=eq_of_beq b;subst e;exact .inl ⟨k,.head _,eq_of_beq hk,(ku h).symm⟩;rw[if_neg hk]at h;exact .inr h
theorem vZ{cells}: ∀{ns} {acc} {x},(acc.lookup x).isSome=qt->((lS cells ns acc).lookup x).isSome=qt
 |[],_,_,h=>h
 |(y,k)::r,acc,x,h=>by
  refine vZ (ns:=r) ?_;by_cases hk:(k==m4)=qt;rw[if_pos hk,kg];rcases x==y with _|_;exact h;rfl;rw[if_neg hk];exact h
theorem kP{cells}: ∀{ns} {acc} {x},(x,m4)∈ns->((lS cells ns acc).lookup x).isSome=qt
 |[],_,_,h=>nomatch h
 |(y,k)::r,acc,x,h=>by
  rcases av.mp h with e|h;cases e;refine vZ (ns:=r) ?_;rw[if_pos (by rfl),kg,beq_self_eq_true];rfl;exact kP (ns:=r) h
def jV(h: ∀x,(x,m4)∈sc.names->(env.cells.lookup x).isSome=qt):closureFor sc env=pure (lS env.cells sc.names []):=by
 have o: ∀(f:L1 (Str×NameKind)) (b:L1 (Str×Addr)),(∀x,(x,m4)∈f->(env.cells.lookup x).isSome=qt)->
   (forIn f b (λ(p:Str×NameKind) (d:L1 (Str×Addr))=>if p.2== .free then do let c<-cellOf env p.1;pure (lr ((p.1,c)::d))else pure (lr d)):Sem (L1 (Str×Addr)))=pure (lS env.cells f b):=by
  intro f;induction f with
  |nil=>intro b _;rfl
  |cons p r m=>
   intro b j;obtain⟨x,k⟩:=p;rw[List.forIn_cons];by_cases hk:(k==m4)=qt;have q:k= .free:=eq_of_beq hk;subst q;obtain⟨c,l⟩:=ef.mp (j x (.head _));have n:cellOf env x=pure c:=by unfold cellOf;rw[l]
   have g:=m ((x,c)::b) λy i=>j y (.tail _ i);simp only[beq_self_eq_true,if_true,n];show(forIn r ((x,c)::b) _:Sem (L1 (Str×Addr)))=_;rw[g];show pure _=pure (lS env.cells r (if(m4==m4)=qt then(x,(env.cells.lookup x).getD 0)::b else b));rw[if_pos (by rfl),l];rfl;simp only[hk];show(forIn r b _:Sem (L1 (Str×Addr)))=_;rw[m b λy i=>j y (.tail _ i)];show pure _=pure (lS env.cells r (if(k==m4)=qt then _ else b));rw[if_neg hk]
 have e:=o sc.names [] h;have g:closureFor sc env=((forIn sc.names ([]:L1 (Str×Addr)) (λ(p:Str×NameKind) (d:L1 (Str×Addr))=>if p.2== .free then do let c<-cellOf env p.1;pure (lr ((p.1,c)::d))else pure (lr d)):Sem (L1 (Str×Addr))) >>= λd=>pure d):=rfl;rw[g,e];rfl
theorem cP{env:qh}{x}: ∀{names:L1 (Str×NameKind)},(names.map λ(n,k)=>if(k==m4&&env.scope.kind== .function&&env.kindOf n==pi .cell)then(n,ng)else(n,k)).lookup x=
  (names.lookup x).map λk=>if(k==m4&&env.scope.kind== .function&&env.kindOf x==pi .cell)then ng else k
 |[]=>rfl
 |(n,k)::r=>by
  rw[mr];have d:= @cP env x r;show oz x ((if(k==m4&&env.scope.kind== .function&&env.kindOf n==pi .cell)=qt then(n,ng)else(n,k))::_)=_;by_cases b:(k==m4&&env.scope.kind== .function&&env.kindOf n==pi .cell)=qt;rw[if_pos b,kg,kg];rcases c:x==n with _|_;exact d;have e:x=n:=eq_of_beq c;subst e;simp only[qa,b,if_true];rw[if_neg b,kg,kg];rcases c:x==n with _|_;exact d;have e:x=n:=eq_of_beq c;subst e;simp only[qa];rw[if_neg b]
def NA:Nat->Nat->TGs
 |_,0=>NZ
 |j,n+1=>F4 (kZ j) (NA (j+1) n)
noncomputable def iJ:Nat->L1 V->St->St
 |_,[],σ=>σ
 |j,v::r,σ=>iJ (j+1) r (σ.set j (pi v))
theorem An: ∀{vs} {j} {σ} {H} {Q:St->Hp->Prop},Q (iJ j vs σ) H->NA j vs.length vs σ H Q
 |[],_,_,_,_,h=>⟨rfl,h⟩
 |v::r,j,σ,H,Q,h=>⟨v,r,rfl,An (vs:=r) (j:=j+1) (σ:=σ.set j (pi v)) h⟩
theorem fU: ∀{vs} {j} {σ},(iJ j vs σ).length=σ.length
 |[],_,_=>rfl
 |v::r,j,σ=>by
  show(iJ (j+1) r (σ.set j (pi v))).length=_;rw[fU (vs:=r),lg]
theorem lT: ∀{vs} {j i} {σ},j+vs.length<=i\/i<j->(iJ j vs σ)[i]? =σ[i]?
 |[],_,_,_,_=>rfl
 |v::r,j,i,σ,h=>by
  show(iJ (j+1) r (σ.set j (pi v)))[i]? =_;simp only[bq]at h;rw[lT (vs:=r) (by lia),bc (by lia)]
theorem qR: ∀{vs} {j i} {σ} {v},vs[i]? =pi v->j+vs.length<=σ.length->(iJ j vs σ)[j+i]? =pi (pi v)
 |[],_,_,_,_,h,_=>by simp at h
 |w::r,j,0,σ,v,h,hl=>by
  simp at h;subst h;show(iJ (j+1) r (σ.set j (pi w)))[j]? =_;rw[lT (vs:=r) (.inr (by lia)),bj (by simp only[bq]at hl;lia)]
 |w::r,j,i+1,σ,v,h,hl=>by
  show(iJ (j+1) r (σ.set j (pi w)))[j+(i+1)]? =_;have e:j+(i+1)=(j+1)+i:=by lia
  rw[e];exact qR (vs:=r) (by simpa using h) (by simp only[bq,lg]at hl ⊢;lia)
section
variable{X:Cx}
theorem qU(hN:X.N.Nodup): ∀{es} {xs} {j},eL (λe=>match e with|.Name x _=>pi x|_=>qr) es=pi xs->(∀i x,xs[i]? =pi x->X.N[j+i]? =pi x/\X.env.scope.names.lookup x=pi .local)->PGs X es (NA j xs.length)
 |[],xs,j,e,_=>by
  cases e;exact y8
 |a::es,xs,j,e,h=>by
  unfold eL at e;cases a<;>try (cases e)
  rename_i x n;simp only at e;obtain⟨r,g,f⟩:=zMd e;subst f;obtain⟨d,b⟩:=h 0 x rfl;refine vC (k8 hN (by simpa using d) (.inl b) (.inr b)) (qU hN g λi y m=>?_) rfl;obtain⟨c,l⟩:=h (i+1) y (by simpa using m);exact⟨by rw[<-c];congr 1;lia,l⟩
def gTg(K:nq)(k:Nat):TG:=match k with
 |0=>kZ 0
 |n+1=>Kc K (n+1) (NA 0 (n+1))
def OC{tg}(hc:X.calm=qt)(hN:X.N.Nodup)(e:bT tg=pi (xs,k))(h: ∀(i:Nat) x,xs[i]? =pi x->X.N[i]? =pi x/\X.env.scope.names.lookup x=pi .local):PG X tg (gTg X.K k):=by
 cases tg<;>try (cases e)
 rename_i x u;obtain⟨g,f⟩:=h 0 x rfl;exact k8 hN g (.inl f) (.inr f);rename_i m j u;unfold bT at e;obtain⟨y,c,d⟩:=zBd e;by_cases l:2<=y.length;rw[if_pos l]at d;cases d;have P:=qU (X:=X) hN (j:=0) c λi x q=>by
  obtain⟨g,f⟩:=h i x q;exact⟨by rw[Nat.zero_add];exact g,f⟩
 have b:(assignEach m X.env).length=xs.length/\(assignEach m X.env).findIdx? (·.1)=qr:=by
  clear P l h e;induction m generalizing xs with
  |nil=>cases c;exact⟨rfl,rfl⟩
  |cons a r v=>
   unfold eL at c;cases a<;>try (cases c)
   rename_i z p;simp only at c;obtain⟨C,w,s⟩:=zMd c;subst s;obtain⟨B,t⟩:=v w;have A:assignEach (Expr.Name z p::r) X.env=(qu,assign (.Name z p) X.env)::assignEach r X.env:=rfl;rw[A];refine⟨by simp[B],?_⟩;rw[i0];simp[t]
 obtain⟨n,o⟩: ∃n,xs.length=n+1:=⟨xs.length-1,by lia⟩;rw[o]at P ⊢;exact Ez hc P (by rw[<-o];exact b.1) b.2;rw[if_neg l]at d;cases d
end
abbrev Pl:=cg
structure TD(Δ:Pl->Prop)(L pl:Pl):Prop where
 tb:Δ L
 dj: ∀p∈L, ∀r∈pl,p.1≠r.1
def EPL(X:Cx)(Δ:Pl->Prop)(ce:Pl)(σ:St)(Q:VK)(u:Value)(s':Shared):Prop:= ∃L,TD Δ L (X.pn++ce)/\EP X (L++ce) σ Q u s'
def LPE(X:Cx)(Δ:Pl->Prop)(e:Expr)(t:TE):Prop:=
 ∀(ce L:Pl) (s:Shared) (σ:St) (H:Hp) (Q:VK),TD Δ L (X.pn++ce)->Inv X (L++ce) σ H s->t σ H Q->X.wp (eval e X.env) (EPL X Δ ce σ Q) X.xe s
def Ao(h:PE X e te):LPE X Δ e te:=λd L s b H Q T I w=>L2.thn (h _ s b H Q I w) λu f c=>⟨L,T,c⟩
abbrev Nil(L:Pl):Prop:=L=[]
def v5:TD Nil [] pl:=⟨rfl,λ_ h=>nomatch h⟩
def K9(h:LPE X Nil e te):PE X e te:=λc s b H Q I w=>L2.thn (h c [] s b H Q v5 I w) λu d ⟨L,T,q⟩=>by cases T.tb;exact q
def ExO(X:Cx)(Δ:Pl->Prop)(ex0:L1 Addr):Prop:= ∀L,Δ L->(∀b∈ex0,b∈X.ex/\∃o,(b,o)∈L)/\∀p∈L, ∀b∈X.env.locals::X.fs,b∈frs X.stack
def Ap:ExO X Nil []:=λL e=>⟨λ_ h=>(nomatch h),λp h=>by cases e;cases h⟩
def SPL(X:Cx)(Δ:Pl->Prop)(ce:Pl)(D:Ends)(f:Flow)(s':Shared):Prop:= ∃L,TD Δ L (X.pn++ce)/\SP X (L++ce) D f s'
def LPS(X:Cx)(Δ:Pl->Prop)(st:Stmt)(t:TS):Prop:=
 ∀(ce L:Pl) (s:Shared) (σ:St) (H:Hp) (D:Ends),TD Δ L (X.pn++ce)->Inv X (L++ce) σ H s->t D σ H->X.wp (exec st X.env) (SPL X Δ ce D) X.xe s
def qV(X:Cx)(Δ:Pl->Prop)(st:L1 Stmt)(t:TS):Prop:=
 ∀(ce L:Pl) (s:Shared) (σ:St) (H:Hp) (D:Ends),TD Δ L (X.pn++ce)->Inv X (L++ce) σ H s->t D σ H->X.wp (execs st X.env) (SPL X Δ ce D) X.xe s
section
variable{st:Stmt}{dF:L1 Stmt}
def LPS.imp(a:LPS X Δ st t)(k: ∀D σ H,t' D σ H->t D σ H):LPS X Δ st t':=λb L s σ H D T I w=>a b L s σ H D T I (k D σ H w)
def qV.imp(a:qV X Δ dF t)(k: ∀D σ H,t' D σ H->t D σ H):qV X Δ dF t':=λb L s σ H D T I w=>a b L s σ H D T I (k D σ H w)
def E4(a:PS X st t):LPS X Δ st t:=λd L s b H D T I w=>L2.thn (a _ s b H D I w) λf e c=>⟨L,T,c⟩
def gK(a:PSs X dF t):qV X Δ dF t:=λd L s b H D T I w=>L2.thn (a _ s b H D I w) λf e c=>⟨L,T,c⟩
def i8(h1:LPS X Δ st t)(h2:qV X Δ dF u):qV X Δ (st::dF) (PU t u):=by
 intro g L s i H D T I h;refine wpAny_execs_cons (L2.thn (h1 g L s i H {D with nx:=u D} T I h) λf j b=>?_);obtain⟨c,d,b⟩:=b;cases f with
 |next=>
  obtain⟨e,l,m,b⟩:=b;exact h2 g c j e l D d m b
 |ret v=>exact⟨c,d,b⟩
 |brk=>exact⟨c,d,b⟩
 |cont=>exact⟨c,d,b⟩
def GT{iter tg}(hp:PassesOwn (model X.prog X.w) X.A X.env X.xe)(hc:X.calm=qt)(hi:PI X tg iter wi)(hg:PG X tg gg)(hb:qV X Δ body tb)(hs: ∀x,foldedSetIterable iter X.env x=pure x):LPS X Δ (.For tg iter body [] pos) (Qy wi gg tb):=by
 intro C L s σ H D T0 I h;refine wpAny_For (L2.thn (hi _ s σ H _ I h) λv s1 h1=>L2.thn h1 λam s2 h2=>?_) hs;obtain⟨it,l,tn,J,H2,e,I2,T,st2,f2,W,⟨m0,w0⟩,Y⟩:=h2;subst e;have t: ∀{H':Hp} {L':Pl},(∀b∈l,H' b=qr)->(∀b∈l, ∀p∈L',p.1≠b)->∀b∈l,pM X (L'++C) H' b:=λ{H' L'} hn hd b hb=>by
  obtain⟨_,a1,a2,a3,a4,a5⟩:=f2 b hb;refine⟨hn b hb,a1,a2,a3,a4,λp hp=>?_⟩;rcases k6.mp hp with z|z;exact a5 p (gy _ z);rcases k6.mp z with z|z;exact hd b hb p z;exact a5 p (bt _ (bt _ z))
 have d0: ∀b∈l, ∀p∈L,p.1≠b:=λb hb p hp=>(f2 b hb).2.2.2.2.2 p (bt _ (gy _ hp));refine codeAny_forLoop_any (λn s'=>∃i σ' H' L',TD Δ L' (X.pn++C)/\(∀b∈l, ∀p∈L',p.1≠b)/\Inv X (L'++C) σ' H' s'/\tn i s'.heap/\(∀b∈l,H' b=qr)/\W i n σ' H') ?_ m0 ⟨0,σ,H2,L,T0,d0,I2,st2,λb hb=>(f2 b hb).1,w0⟩;rintro n s3 ⟨i,B,H3,L3,T3,d3,I3,ab,U,w3⟩;rcases Y i n B H3 w3 with ⟨Z,qn⟩|⟨go,N,hN,step⟩;refine wpAny_passesOwn hp (L2.thn (T.done X rfl rfl rfl hc i _ s3 B H3 X.xe I3 (t U d3) ab Z) λr s4 j=>?_);obtain⟨K,I4⟩:=j;subst K;exact wpAny_execs_nil ⟨L3,T3,B,H3,I4,qn⟩;refine wpAny_passesOwn hp (L2.thn (T.item X rfl rfl rfl hc i _ s3 B H3 X.xe I3 (t U d3) ab go) λr s4 j=>?_);obtain⟨u,K,h4⟩:=j;subst K;refine wpAny_passesOwn hp (L2.thn h4 λ_ M j=>?_);obtain⟨x,H5,I5,r5,y5,G,al⟩:=j;have ak:=I5.pinned (t al d3) (T.obj _ _ G);refine wpAny_passesOwn hp (L2.thn (hg _ M B H5 x u _ ak r5 (step x H5 y5)) λ_ s6 j=>?_);obtain⟨ag,H6,I6,q6⟩:=j;rw[jm]at I6;have T6:TD Δ L3 (X.pn++(C++gF l M.heap)):=⟨T3.tb,λp hp r K=>by
  rw[<-jm]at K;rcases k6.mp K with z|z;exact T3.dj p hp r z;exact d3 _ (k9 z).1 p hp⟩
 refine wpAny_passesOwn hp (L2.thn (hb _ L3 s6 ag H6 _ T6 I6 q6) λf S E=>?_);obtain⟨Q,T7,E⟩:=E;have O:TD Δ Q (X.pn++C):=⟨T7.tb,λp hp r K=>T7.dj p hp r (by rw[<-jm];exact gy _ K)⟩;have un: ∀{c:St} {g:Hp},Inv X (Q++(C++gF l M.heap)) c g S->Inv X (Q++C) c g S:=λ{c g} q=>by
  rw[<-jm]at q;exact q.unpinned
 have y: ∀{c:St} {g:Hp},Inv X (Q++(C++gF l M.heap)) c g S->N c g->∃m,m<n/\∃i σ' H' L',TD Δ L' (X.pn++C)/\(∀b∈l, ∀p∈L',p.1≠b)/\Inv X (L'++C) σ' H' S/\tn i S.heap/\(∀b∈l,H' b=qr)/\W i m σ' H':=λ{c g} q n7=>by
  obtain⟨m',hm,w7⟩:=hN c g n7;have ad: ∀b∈l, ∀o,M.heap.get? b=pi o->(b,o)∈C++gF l M.heap:=λb hb o e=>bt _ (gY hb e);have pin: ∀b∈l, ∀o,M.heap.get? b=pi o->S.heap.get? b=pi o/\g b=qr:=λb hb o e=>by
   have:=q.pin (b,o) (bt _ (bt _ (ad b hb o e)));exact⟨this.1,this.2.1⟩
  refine⟨m',hm,i+1,c,g,Q,O,λb hb p hp=>?_,un q,T.keep _ _ _ G λb hb o e=>(pin b hb o e).1,λb hb=>?_,w7⟩;obtain⟨o,e,d⟩:=T.obj _ _ G b hb;exact T7.dj p hp (b,o) (bt _ (ad b hb o e));obtain⟨o,e,d⟩:=T.obj _ _ G b hb;exact(pin b hb o e).2
 cases f with
 |next=>obtain⟨c,g,q,n7⟩:=E;exact y q n7
 |cont=>obtain⟨c,g,q,n7⟩:=E;exact y q n7
 |brk=>obtain⟨c,g,q,E⟩:=E;exact⟨Q,O,c,g,un q,E⟩
 |ret v=>obtain⟨x7,c,g,q,r7,E⟩:=E;exact⟨Q,O,x7,c,g,un q,r7,E⟩
def La(h:LPS X Nil st t):PS X st t:=λc s b H D I w=>L2.thn (h c [] s b H D v5 I w) λu d ⟨L,T,q⟩=>by cases T.tb;exact q
def Lb(h:qV X Nil dF t):PSs X dF t:=λc s b H D I w=>L2.thn (h c [] s b H D v5 I w) λu d ⟨L,T,q⟩=>by cases T.tb;exact q
end
structure ItH(X:Cx)(ad:Ad)(J:It)(G H:Hp)(ds:List D):Prop where
 go: ∀(i:Nat) (G1 H1:Hp) (d:D),Step G H G1 H1->ds[i]? =pi d->J.go i H1/\∀x H2,J.yld i H1 x H2->∃G2,Step G1 H1 G2 H2/\Rep X.K ad G2 d x
 stop: ∀(G1 H1:Hp),Step G H G1 H1->J.stop ds.length H1
 few:ds.length<=sizeLine
def IK(X:Cx)(ad:Ad)(G H:Hp)(r:R)(W:It->Hp->Prop)(E:Nat->Hp->Prop):Prop:=match r with
 |.ok d=>∃ds,iI d=pi ds/\∀J G' H',Step G H G' H'->ItH X ad J G' H' ds->W J H'
 |.ow xs=>∀J G' H',Step G H G' H'->ItH X ad J G' H' xs->W J H'
 |.ex c=>∀G' H',Step G H G' H'->E c H'
 |.bad=>False
def tI(X:Cx)(ad:Ad)(f:F):TI:=λσ H W=>∃G ρ E,Same G H/\SL X.K ad G H ρ σ/\XP X ad σ E/\IK X ad G H (f ρ) W E
abbrev MI(X:Cx)(ad:Ad)(tg e:Expr)(f:F):Prop:=PI X tg e (tI X ad f)
def Cel(sc:Scope):Prop:=oC sc=[]\/∃x,oC sc=[x]/\sc.names.lookup x=pi .cell
theorem cf0: ∀{ns} {a} {acc},(ns.filter λp=>p.2== .cell).map (·.1)=[]->cellsFrom a ns acc=acc/\∀h,pushCells h ns=h
 |[],_,_,_=>⟨rfl,λ_=>rfl⟩
 |(y,k)::r,a,acc,e=>by
  by_cases hk:(k==ng)=qt;simp[kd,hk]at e;have c:(r.filter λp=>p.2== .cell).map (·.1)=[]:=by simpa[kd,hk]using e
  obtain⟨b,d⟩:=cf0 (a:=a) (acc:=acc) c;unfold cellsFrom pushCells;exact⟨by rw[if_neg hk];exact b,λh=>by rw[if_neg hk];exact d h⟩
theorem cf1: ∀{ns} {a} {acc} {x},(ns.filter λp=>p.2== .cell).map (·.1)=[x]->cellsFrom a ns acc=(x,a)::acc/\∀h,pushCells h ns=h.push {cls:=.type "cell",data:=.cell qr}
 |[],_,_,_,e=>by simp at e
 |(y,k)::r,a,acc,x,e=>by
  by_cases hk:(k==ng)=qt;have b:y=x/\(r.filter λp=>p.2== .cell).map (·.1)=[]:=by simpa[kd,hk]using e
  obtain⟨rfl,b⟩:=b;obtain⟨c,d⟩:=cf0 (a:=a+1) (acc:=(y,a)::acc) b;unfold cellsFrom pushCells;exact⟨by rw[if_pos hk];exact c,λh=>by rw[if_pos hk];exact d _⟩;have b:(r.filter λp=>p.2== .cell).map (·.1)=[x]:=by simpa[kd,hk]using e
  obtain⟨c,d⟩:=cf1 (a:=a) (acc:=acc) b;unfold cellsFrom pushCells;exact⟨by rw[if_neg hk];exact c,λh=>by rw[if_neg hk];exact d h⟩
def clC(X:Cx)(sc:Scope)(L:Addr):L1 (Str×Addr):=cellsFrom (L+1) sc.names (lS X.env.cells sc.names [])
def fV(hc:Cel sc)(h:(clC X sc L).lookup y=pi c):(oC sc=[y]/\c=L+1)\/(lS X.env.cells sc.names []).lookup y=pi c:=by unfold clC at h;rcases hc with e|⟨x,e,_⟩;rw[(cf0 e).1]at h;exact .inr h;rw[(cf1 e).1,kg]at h;rcases q:y==x with _|_;rw[q]at h;exact .inr h;rw[q]at h;rw[eq_of_beq q];exact .inl ⟨e,(ku h).symm⟩
def Aq(e:oC sc=[x]):(clC X sc L).lookup x=pi (L+1):=by unfold clC;rw[(cf1 e).1,kg,beq_self_eq_true]
def v6(hc:Cel sc)(hy:sc.names.lookup y=pi .free)(h:(lS X.env.cells sc.names []).lookup y=pi c):(clC X sc L).lookup y=pi c:=by unfold clC;rcases hc with e|⟨x,e,hx⟩;rw[(cf0 e).1];exact h;rw[(cf1 e).1,kg];rcases q:y==x with _|_;exact h;rw[eq_of_beq q,hx]at hy;cases hy
def cX(X:Cx)(N':L1 Str)(sc:Scope)(s3:Shared)(H3:Hp)(fp:L1 Addr)(ce:cg):Cx:=
 {X with N:=N',s₀:=s3,H₀:=H3,env:=compEnvC sc (clC X sc s3.z) s3.z X.env,outer:=X.stack,stack:=X.stack,ex:=fp,fn:=λy=>decide (oC sc=[y]),pn:=X.pn++ce,xe:=λ_ _=>False}
section
variable{ad:Ad}{σ:St}{fp:L1 Addr}
def C6{σ}(h:Y.xe=λ_ _=>False):XP Y ad σ (λ_ _=>False):=by intro i H s e l I b;obtain⟨j,d,f,g,B,_,_,_,_,_,_,_,_,_,c,_,z⟩:=b;exact z.elim
def Un.sameBut(u:Un fs ex H H' h h1)(sb:n5 C h1 h2)(hC:h.objs.size<=C):Un fs ex H H' h h2:=by
 have f: ∀b o,h.get? b=pi o->b≠C:=λb o e z=>by
  subst z;exact absurd (bg (ah e) hC) (mq _)
 refine⟨λb o e n d c=>?_,λb o e n d c=>?_,u.free,λb o e c=>?_,u.tups,u.frzs,u.tbls⟩;exact(sb.2 b (f b o e)).trans (u.keep b o e n d c);obtain⟨i,z⟩:=u.slot b o e n d c;exact⟨i,(sb.2 b (f b o e)).trans z⟩;obtain⟨g,z⟩:=u.there b o e c;exact⟨g,(sb.2 b (f b o e)).trans z⟩
def C7{fpO: ∀b∈fp,pM X ce H3 b}(I:Inv X ce σ H3 s3)(hk:sc.kind= .function)(hc:Cel sc)(hfree: ∀x,(x,m4)∈sc.names->X.env.kindOf x=pi .cell\/X.env.kindOf x=pi .free)(hnd: ∀x,(x,m4)∈sc.names->sc.names.lookup x=pi .free)(hfo: ∀b∈fp,b<s3.heap.objs.size)(hns:h4.Ns s3.heap.objs.size m)(hkeep: ∀b o,s3.heap.get? b=pi o->h4.get? b=pi o)(hnew: ∀x,oC sc=[x]->h4.IsCell (s3.heap.objs.size+1) qr){σc:St}(hl:σc.length=N'.length)(hσ: ∀(i:Nat) x v,N'[i]? =pi x->σc[i]? =pi (pi v)->∃j:Nat,X.N[j]? =pi x/\σ[j]? =pi (pi v)/\(x,m4)∈sc.names):
  Inv (cX X N' sc s3 H3 fp ce) [] σc H3 {s3 with heap:=h4,toks:=t'}:=by
 have f: ∀x c,(lS X.env.cells sc.names []).lookup x=pi c->(x,m4)∈sc.names/\X.env.cells.lookup x=pi c:=λx c e=>by
  rcases kO e with ⟨k,A,s,Q⟩|h
  .subst s;refine⟨A,?_⟩;obtain⟨c',g⟩:=I.ok.has x (hfree x A);rw[g]at Q;rw[Q];exact g
  .cases h
 have L: ∀x c,(lS X.env.cells sc.names []).lookup x=pi c->c<s3.heap.objs.size:=λx c e=>by
  obtain⟨v,o,H,_⟩:=I.cell x c (f x c e).2;exact ah H
 have J: ∀b,b∈frs X.stack->b=X.env.locals\/b∈X.fs:=λb w=>av.mp (I.stkSub b w)
 refine⟨⟨I.ok.mod,hk,I.ok.glob,I.ok.blt,aj _,λx y c A s=>?_,λx hx=>?_,λx c A s=>?_,I.ok.hd,I.ok.frames,.inl rfl,λb w=>?_,I.bs,ny I.ok.bsz I.sz,λb o e w=>?_,λb w Y=>?_,I.stack,I.stkFree⟩,
  rfl,I.bare,Un.kept hkeep,⟨m,hns,λi x v A s Q=>?_⟩,λx c h=>?_,I.hok.fresh (aj _),λx c h=>?_,λq hq=>?_,I.hok.kept hkeep,hl⟩
 .rcases fV hc A with ⟨T,M⟩|M
  .rcases fV hc s with ⟨G,E⟩|E
   .rw[T]at G;exact(m3 G).1
   .have:=L y c E
    rw[M]at this;exact absurd this (pq.mpr (o3 _))
  .rcases fV hc s with ⟨G,E⟩|E
   .have:=L x c M
    rw[E]at this;exact absurd this (pq.mpr (o3 _))
   .exact I.ok.inj x y c (f x c M).2 (f y c E).2
 .
  have e:(sc.names.lookup x).map (λk=>if(k==m4&&X.env.scope.kind== .function&&X.env.kindOf x==pi .cell)then ng else k)=pi .cell\/(sc.names.lookup x).map (λk=>if(k==m4&&X.env.scope.kind== .function&&X.env.kindOf x==pi .cell)then ng else k)=pi .free:=by
   rw[<-cP];exact hx
  cases q:sc.names.lookup x with
  |none=>rw[q]at e;rcases e with e|e<;>cases e
  |some k=>
   have hm:=ii q
   by_cases B:k= .free
   .subst B;obtain⟨c,g⟩:=ef.mp (kP (cells:=X.env.cells) (acc:=[]) hm);exact⟨c,v6 hc q g⟩
   .have ag:(k==m4)=qu:=by simpa using B
    rw[q]at e;simp only[qa,ag,Bool.false_and]at e;rcases e with e|e
    .have ak:k= .cell:=by simpa using e
     subst ak;have p:x∈oC sc:=au.mpr ⟨(x,.cell),kz.mpr ⟨hm,by simp⟩,rfl⟩
     have C:oC sc=[x]:=by
      rcases hc with z|⟨y,z,_⟩
      .rw[z]at p;cases p
      .rw[z]at p ⊢;rw[ja.mp p]
     exact⟨_,Aq C⟩
    .exact absurd (by simpa using e) B
 .have C:oC sc=[x]:=of_decide_eq_true A
  have:=s.symm.trans (Aq C)
  cases this;exact o3 _
 .obtain⟨f0,W,U,Z,f4,f5⟩:=fpO b w;refine⟨bh (hfo b w),λx c h=>?_⟩
  rcases fV hc h with ⟨_,z⟩|z
  .rw[z];exact(bh (jr (hfo b w))).symm
  .exact f4 x c (f x c z).2
 .obtain⟨f0,W,U,Z,f4,f5⟩:=fpO b w;rcases Z with z|z
  .exact I.ok.noex b o e z
  .exact absurd (bg (ah e) (ny I.ok.bsz z)) (mq _)
 .obtain⟨f0,W,U,Z,f4,f5⟩:=fpO b w;rcases J b Y with z|z
  .exact W z
  .exact U z
 .obtain⟨j,j1,j2,O⟩:=hσ i x v A s;obtain⟨m0,am,al⟩:=I.loc;have K:=hfree x O
  have ab:Vis X.env.scope x:=by
   rcases K with z|z
   .exact .inr (.inl z)
   .exact .inr (.inr z)
  obtain⟨u,r,l⟩:=al j x v j1 j2 ab;refine⟨u,r,.inr ?_⟩;rcases l with ⟨z,_⟩|⟨_,c,S,t⟩
  .rcases K with z'|z'
   .have:X.env.kindOf x=pi .local:=z
    rw[z']at this;cases this
   .have:X.env.kindOf x=pi .local:=z
    rw[z']at this;cases this
  .refine⟨?_,c,?_,?_⟩
   .have T:(relabel sc X.env).names.lookup x=(sc.names.lookup x).map (λk=>if(k==m4&&X.env.scope.kind== .function&&X.env.kindOf x==pi .cell)then ng else k):=cP
    have G:(relabel sc X.env).names.lookup x=pi .cell\/(relabel sc X.env).names.lookup x=pi .free:=by
     rw[T,hnd x O];simp only[qa];split
     .exact .inl rfl
     .exact .inr rfl
    exact G
   .obtain⟨c',g⟩:=ef.mp (kP (cells:=X.env.cells) (acc:=[]) O)
    have:=(f x c' g).2
    rw[S]at this;cases this;exact v6 hc (hnd x O) g
   .obtain⟨o,H,hd⟩:=t;exact⟨o,hkeep _ _ H,hd⟩
 .rcases fV hc h with ⟨e,z⟩|z
  .rw[z];exact⟨qr,hnew x e⟩
  .obtain⟨v,o,H,hd⟩:=I.cell x c (f x c z).2;exact⟨v,o,hkeep _ _ H,hd⟩
 .rcases fV hc h with ⟨e,z⟩|z
  .rw[z];exact I.hok.fresh (o3 _)
  .exact I.freeC x c (f x c z).2
 .have ad:q∈X.pn++ce:=by
   have s:q∈(X.pn++ce)++[]:=hq
   rwa [k7]at s
  obtain⟨e,n,ne,nf,d⟩:=I.pin q ad;refine⟨hkeep _ _ e,n,bh (ah e),λz=>?_,d⟩
  rcases J _ z with z|z
  .exact ne z
  .exact nf z
def Lc{fpO: ∀b∈fp,pM X ce H3 b}{σc:St}(I:Inv X ce σ H3 s3)(J:Inv (cX X N' sc s3 H3 fp ce) pn' σc H' s')(sb:n5 s3.z s'.heap h'):Inv X ce σ H' {s' with heap:=h'}:=by
 have d:H' s3.z=qr:=J.free;refine I.call' (ch:=fp) (s':={s' with heap:=h'}) J.os (Un.sameBut J.base sb (aj _)) (λb u e=>?_) J.bare λb f=>?_;refine(J.hok b u e).stay (λc v j q=>?_) (λ_ q=>q) λ_ _ q=>q;have g:c≠s3.z:=by
  rintro rfl;rcases j with z|z;rw[<-z]at e;rw[d]at e;cases e;rw[d]at z;cases z
 exact(sb.2 c g).trans q;obtain⟨n,h,o,i,m,l⟩:=fpO b f;exact⟨i,h,m,l⟩
def tQ(Iv:Nat->Shared->Prop)(turn: ∀n s,Iv n s->wpAny (model prog w) A (pyNext it) (λr s₁=>match r with
   |none=>Rr (.ok .next) s₁
   |some v=>wpAny (model prog w) A (letOwnedTupleGo target it v) (λ_ s₁'=>wpAny (model prog w) A (assign target env v) (λ_ s₂=>
     wpAny (model prog w) A (forIn ifs qt λc r=>if r=qt then do let ok<-isTrue c env (eval c env);pure (lr ok)else pure (lr r)) (λok s₃=>
      if ok=qt then wpAny (model prog w) A (eval elt env) (λx s₄=>
       wpAny (model prog w) A (call (.builtin "list.append") [acc,x]) (λ_ s₅=>∃m,m<n/\Iv m s₅) (λ_ _=>False) s₄) (λ_ _=>False) s₃
      else ∃m,m<n/\Iv m s₃) (λ_ _=>False) s₂) (λ_ _=>False) s₁') (λ_ _=>False) s₁) (λ_ _=>False) s)n(h:Iv n s):
  codeAny (model prog w) A (.compLoop (.ListComp elt [⟨target,iter,ifs,0⟩] scope pos) 0 it acc env) Rr s:=by
 refine codeAny_loop rfl Iv (λn s l=>?_) n h;show wpAny _ A ((compTurn (.ListComp elt [⟨target,iter,ifs,0⟩] scope pos) 0 it acc env).onRaise (λx=>do noteFrame x env;theTreesLotGoes x)) _ _ s;refine wpAny_noted (wpAny_noRaise ?_);rw[compTurn_list];refine aa (wpAny_standAt (aa (wpAny_mono (turn n s l) (λr s₁ d=>?_) λ_ _ b=>b)));rcases r with _|v;exact ac d;refine aa (wpAny_mono d (λ_ s₁' f=>?_) λ_ _ b=>b);refine aa (wpAny_mono f (λ_ s₂ i=>aa (wpAny_mono i (λok s₃ e=>?_) λ_ _ b=>b)) λ_ _ b=>b);rcases ok with _|_;exact ac ⟨rfl,e⟩;exact aa (aa (wpAny_mono e (λx s₄ j=>aa (wpAny_mono j (λ_ s₅ g=>ac (ac ⟨rfl,g⟩)) λ_ _ b=>b)) λ_ _ b=>b))
def lU(h:bE f (d::r)=pi all):(f d=pi qr/\bE f r=pi all)\/∃x all',f d=pi (pi x)/\bE f r=pi all'/\all=x::all':=by unfold bE at h;rcases e:f d with _|o;rw[e]at h;cases h;rw[e]at h;rcases o with _|x;exact .inl ⟨rfl,h⟩;obtain⟨a,b,c⟩:=zMd h;exact .inr ⟨x,a,rfl,b,c.symm⟩
def Ar{K}{ts cs:L1 Slot}{σ}(h:SL K ad G H (ts++cs) σ):SL K ad G H (ao ts.length .no++cs) σ:=by
 refine⟨by rw[<-h.len];simp,λi c e=>?_⟩;by_cases hi:i<ts.length;rw[bx (by simpa using hi),eo,if_pos hi]at e;cases e;have b:i<σ.length:=by rw[<-h.len,bo];lia
 exact⟨σ[i],by simp[b],trivial⟩;rw[bn (by simpa using hi),gf]at e;refine h.at_ i c ?_;rw[bn (by lia)];exact e
def E5{K}{cs:L1 Slot}{σ}(h:SL K ad G H (ao n .no++cs) σ)(r:aI K ad G ds vs)(hn:ds.length=n):SL K ad G H (ds.map Slot.sh++cs) (iJ 0 vs σ):=by have q:=r.length;have m:=h.len;rw[bo,gf]at m;refine⟨by rw[fU,bo,aq];lia,λi o e=>?_⟩;by_cases hi:i<n;rw[bx (by rw[aq];lia),jj]at e;rcases b:ds[i]? with _|d;rw[b]at e;cases e;rw[b]at e;cases e;obtain⟨v,l,f⟩:=r.get b;refine⟨pi v,?_,v,rfl,f⟩;have:=qR (j:=0) (σ:=σ) l (by lia);rwa [Nat.zero_add]at this;rw[bn (by rw[aq];lia),aq,hn]at e;obtain⟨c,g,p⟩:=h.at_ i o (by rw[bn (by rw[gf];lia),gf];exact e);exact⟨c,by rw[lT (.inl (by lia))];exact g,p⟩
def Ld{K}{ts cs:L1 Slot}{σ}{W:St->Hp->Prop}(e:tgt k d=pi ts)(hn:n=if k=0 then 1 else k)(hG:Same G H)(r:Rep K ad G d v)(h:SL K ad G Hs (ao n .no++cs) σ)(q: ∀σ',σ'.length=σ.length->SL K ad G Hs (ts++cs) σ'->W σ' H):ts.length=n/\gTg K k v σ H W:=by
 rcases k with _|k;cases e;subst hn;refine⟨rfl,q _ (by rw[lg]) ?_⟩;have:=E5 (ds:=[d]) (vs:=[v]) h (aI.cons r aI.nil) rfl;exact this;unfold tgt at e;cases d<;>try (cases e)
 rename_i ds;simp only at e;by_cases b:ds.length=k+1;rw[if_pos b]at e;cases e;rw[if_neg (by lia)]at hn;subst hn;unfold Rep at r;obtain⟨a,vs,rfl,g,c⟩:=r;refine⟨by rw[aq];exact b,a,vs,rfl,hG.seqT g,by rw[c.length];exact b,?_⟩;have f:vs.length=k+1:=by rw[c.length];exact b
 have:=An (vs:=vs) (j:=0) (σ:=σ) (H:=H) (Q:=W) (q _ fU (E5 h c b));rwa [f]at this;rw[if_neg b]at e;cases e
end
section
variable{X:Cx}{ad:Ad}{L ce:Pl}{s2 s3:Shared}{σ:St}{H H2 H3 G2:Hp}{pos:Pos}{sc:Scope}{N':L1 Str}{fp ex0:L1 Addr}{tg it elt:Expr}{ifs:L1 Expr}{k nt:Nat}{cs:L1 Slot}{fc:L7 F}{fe:F}
theorem gL{x}: ∀{N} {i},idx x N=pi i->N[i]? =pi x
 |[],_,e=>by cases e
 |y::r,i,e=>by
  unfold idx at e;by_cases h:x=y;rw[if_pos h]at e;cases e;subst h;rfl;rw[if_neg h]at e;obtain⟨j,b,c⟩:=zMd e;subst c;simpa using gL b
def MTs(X:Cx)(ad:Ad)(ifs:L1 Expr)(fc:L7 F):Prop:=match ifs,fc with
 |[],qr=>True
 |[c],pi f=>MT X ad c f
 |_,_=>False
def LPE.val(ha:LPE X Δ a (tE X ad f))(T:TD Δ L (X.pn++ce))(I:Inv X (L++ce) σ H s)(hG:Same G H)(hS:SL X.K ad G H ρ σ)(hx:XP X ad σ E)(hf:f ρ= .ok x\/∃l,f ρ= .ow l/\x= .lst l):
  X.wp (eval a X.env) (EPL X Δ ce σ λv H1=>∃G1,Step G H G1 H1/\Rep X.K ad G1 x v) X.xe s:=by
 refine ha ce L s σ H _ T I ⟨G,ρ,E,hG,hS,hx,?_⟩;rcases hf with e|⟨l,e,rfl⟩<;>rw[e];exact λv G1 H1 b q=>⟨G1,b,q⟩;exact λp d G1 H1 b n m c q=>dW b n m c q
def MT.val{k}(ha:MT X ad a f)(I:Inv X ce σ H s)(hG:Same G H)(hS:SL X.K ad G H ρ σ)(hx:XP X ad σ E)(hf:f ρ= .ok (.bl k)):
  X.wp (isTrue a X.env (eval a X.env)) (λb s1=>b=k/\∃G1 H1,Inv X ce σ H1 s1/\Step G H G1 H1) X.xe s:=by
 exact L2.thn (ha ce s σ H (λb H1=>b=k/\∃G1,Step G H G1 H1) I ⟨G,ρ,E,hG,hS,hx,.inl ⟨k,hf⟩,by rw[hf];exact λv G1 H1 d q=>⟨k,by unfold Rep at q;exact q,rfl,G1,d⟩⟩) λb s1 c=>by obtain⟨H1,g,e,G1,d⟩:=c;exact⟨e,G1,H1,g,d⟩
def fW{G1 H1 G2 H2}{D}(st:Step G1 H1 G2 H2)(g:G1 D=qr)(h:H1 D=pi (.lst vs)):G2 D=qr/\H2 D=pi (.lst vs):=by refine⟨?_,st.sh _ _ h⟩;rcases z:G2 D with _|o;rfl;have:=st.nw D g (by rw[z];exact λz=>nomatch z);rw[h]at this;cases this
def qW{G1 H1 G2 H2}{D}(st:Step G1 H1 G2 H2)(n:H1 D=qr)(g:G2 D=qr):Step G1 H1 G2 (upd H2 D o):=by
 refine⟨st.sg,λb u e=>?_,λb u e=>?_,st.nw⟩;have c:b≠D:=λz=>by subst z;rw[g]at e;cases e
 rw[aD c];exact st.gh b u e;have c:b≠D:=λz=>by subst z;rw[n]at e;cases e
 rw[aD c];exact st.sh b u e
noncomputable def hid(D:Addr)(H:Hp):Hp:=λb=>if b=D then qr else H b
def lV{D b}{H}(h:b≠D):hid D H b=H b:=by unfold hid;rw[if_neg h]
def g6{D}{H}:hid D H D=qr:=by unfold hid;rw[if_pos rfl]
def As{D}{H}:Same (hid D H) H:=λb o e=>by
 by_cases z:b=D;subst z;rw[g6]at e;cases e;rwa [lV z]at e
def Au{D}{H}:hid D (upd H D o)=hid D H:=by funext b;by_cases z:b=D;subst z;rw[g6,g6];rw[lV z,lV z,aD z]
def Le{D}{H}(h:H D=qr):hid D H=H:=by funext b;by_cases z:b=D;subst z;rw[g6,h];rw[lV z]
def kQ{G1 H1 G2 H2}{D}(st:Step G1 H1 G2 H2)(g:G2 D=qr):Step G1 (hid D H1) G2 (hid D H2):=by
 refine⟨st.sg,λb u e=>?_,λb u e=>?_,λb f d=>?_⟩;have c:b≠D:=λz=>by subst z;rw[g]at e;cases e
 rw[lV c];exact st.gh b u e;have c:b≠D:=λz=>by subst z;rw[g6]at e;cases e
 rw[lV c]at e ⊢;exact st.sh b u e;by_cases z:b=D;subst z;exact g6;rw[lV z];exact st.nw b f d
theorem SL.up{K}{G H H'}{σ}(h:SL K ad G H ρ σ)(s:Same H H'):SL K ad G H' ρ σ:=by refine⟨h.len,λi m e=>?_⟩;obtain⟨t,u,j⟩:=h.at_ i m e;refine⟨t,u,?_⟩;rcases m with _|d|w|kvs|kvs|⟨C,r⟩;trivial;exact j;obtain⟨a,o,c,b,f,g⟩:=j;exact⟨a,o,c,b,s _ _ f,g⟩;obtain⟨a,l,c,b,f,g⟩:=j;exact⟨a,l,c,b,s _ _ f,g⟩;obtain⟨a,l,c,b,f,g⟩:=j;exact⟨a,l,c,b,s _ _ f,g⟩;obtain⟨p,q,d,v,n,c,b⟩:=j;exact⟨p,q,d,v,n,c,b.up s⟩
def C8{Ex:cf}{s:Shared}{sc}(hc:Cel sc)(h: ∀h4,h4.Ns s.z (λ_=>qr)->(∀b ob,s.heap.get? b=pi ob->h4.get? b=pi ob)->(∀x,oC sc=[x]->h4.IsCell (s.z+1) qr)->
   Q (newEnv sc s.z gl (cellsFrom (s.z+1) sc.names cl) q qr .none (pi o) builtinsNs) {s with heap:=h4}):
  wpAny M A (newFunctionEnv sc gl cl [] q qr .none (pi o)) Q Ex s:=by
 simp only[newFunctionEnv,Option.isSome_some,if_true];refine aa (wpAny_alloc ?_);refine aa (wpAny_layCells _ (λl c d=>by cases g:c==ng<;>simp[g]) _ _ _ _ ?_);have f:(s.heap.push {cls:=.type "dict",data:=.dict #[]}).Ns s.z (λ_=>qr):=Heap.Ns.new s.heap (.type "dict");have i: ∀b ob,s.heap.get? b=pi ob->(pushCells (s.heap.push {cls:=.type "dict",data:=.dict #[]}) sc.names).get? b=pi ob:=λb ob e=>pushCells_keeps _ _ b ob (ae _ e);have j:(s.heap.push {cls:=.type "dict",data:=.dict #[]}:Heap).objs.size=s.z+1:=ai ..;rw[List.forIn_nil];refine aa (ac (ac ?_));have:=h _ (f.keeps (pushCells_keeps _ _)) i λx e=>by
  rw[(cf1 (a:=0) (acc:=[]) e).2];refine⟨{cls:=.type "cell",data:=.cell qr},?_,rfl⟩;rw[<-j];exact af _ rfl
 rw[<-j]at this;exact this
def qY{J}{ds all}{itA}{tn}{RR:Value->Addr->Result->Shared->Prop}{Ex:cf}(hc:X.calm=qt)(T0:TD Δ L (X.pn++ce))(hΔ:ExO X Δ ex0)(I2:Inv X (L++ce) σ H2 s2)(T:Turn X.prog X.w X.K tg J fp itA tn)(st2:tn 0 s2.heap)
  (f2: ∀b∈fp,pM X (L++ce) H2 b) (hit:ItH X ad J G2 H2 ds) (hgo:bE (dJ k cs fc fe) ds=pi all) (hG2:Same G2 H2)
  (hk:sc.kind= .function) (hC:Cel sc)
  (hfree: ∀x,(x,m4)∈sc.names->X.env.kindOf x=pi .cell\/X.env.kindOf x=pi .free) (hnd: ∀x,(x,m4)∈sc.names->sc.names.lookup x=pi .free)
  {σc} (hl:σc.length=N'.length) (hσ: ∀(i:Nat) x v,N'[i]? =pi x->σc[i]? =pi (pi v)->∃j:Nat,X.N[j]? =pi x/\σ[j]? =pi (pi v)/\(x,m4)∈sc.names)
  (hnt:nt=if k=0 then 1 else k) (hsl:SL X.K ad G2 H2 (ao nt .no++cs) σc)
  (hg: ∀s3 H3 pins',PG (cX X N' sc s3 H3 (fp++ex0) pins') tg (gTg X.K k)) (hts: ∀s3 H3 pins',MTs (cX X N' sc s3 H3 (fp++ex0) pins') ad ifs fc) (he: ∀s3 H3 pins',LPE (cX X N' sc s3 H3 (fp++ex0) pins') Δ elt (tE (cX X N' sc s3 H3 (fp++ex0) pins') ad fe))
  (hEnd: ∀L' s3 s' H3 H' G' D vs,TD Δ L' (X.pn++ce)->Inv X ce σ H3 s3->H' s3.heap.objs.size=qr->(∃m,s'.heap.Ns s3.heap.objs.size m)->(∀h',n5 s3.heap.objs.size s'.heap h'->Inv X (L'++ce) σ H' {s' with heap:=h'})->Step G2 H2 G' H'->H2 D=qr->G' D=qr->H' D=pi (.lst vs)->aI X.K ad G' all vs->RR (.ref D) s3.heap.objs.size (.ok .next) s'):
  X.wp (newList []) (λacc s₃=>X.wp (newFunctionEnv sc X.env.globals (lS X.env.cells sc.names []) [] X.env.qual qr .none (pi X.env)) (λcenv s₄=>
   codeAny (model X.prog X.w) X.A (.compStart (.ListComp elt [⟨tg,it,ifs,0⟩] sc pos) 0 (.ref itA) acc {cenv with scope:=relabel sc X.env}) (RR acc cenv.locals) s₄) Ex s₃) Ex s2:=by
 refine wpAny_newObj_type ?_
 have hD:H2 s2.heap.objs.size=qr:=I2.fresh
 have I3:Inv X (L++ce) σ (upd H2 s2.heap.objs.size (.lst [])) {s2 with heap:=s2.heap.push {cls:=.type "list",data:=.seq ([]:L1 Value).toArray} }:=I2.lnew (t':=s2.toks) .nil (bu _)
 generalize e3:({s2 with heap:=s2.heap.push {cls:=.type "list",data:=.seq ([]:L1 Value).toArray} }:Shared)=s3 at I3
 have b7:s3.heap.objs.size=s2.heap.objs.size+1:=by rw[<-e3];exact ai ..
 have cu: ∀b o,s2.heap.get? b=pi o->s3.heap.get? b=pi o:=λb o e=>by rw[<-e3];exact ae _ e
 generalize eD:s2.heap.objs.size=D at hD I3 b7 ⊢;generalize eH:upd H2 D (.lst [])=H3 at I3
 have ck:H3 D=pi (.lst []):=by rw[<-eH];exact aH
 have a3:Step G2 H2 G2 H3:=by rw[<-eH];exact Step.own hG2 hD
 have ca: ∀b∈fp,b<D:=λb f=>by
  obtain⟨o,e,_⟩:=T.obj 0 _ st2 b f;rw[<-eD];exact ah e
 have d0: ∀b∈fp, ∀p∈L,p.1≠b:=λb f p t=>(f2 b f).2.2.2.2.2 p (bt _ (gy _ t))
 have f3: ∀b∈fp++ex0,pM X ce H3 b/\b<s3.heap.objs.size:=λb f=>by
  rcases k6.mp f with f|f
  .obtain⟨f0,f1,b1,Y,f4,f5⟩:=f2 b f;refine⟨⟨?_,f1,b1,Y,f4,λp t=>f5 p ?_⟩,bg (ca b f) (by rw[b7];exact o3 _)⟩
   .rw[<-eH,aD (bh (ca b f))];exact f0
   .rcases k6.mp t with z|z
    .exact gy _ z
    .exact bt _ (bt _ z)
  .obtain⟨f,o,ho⟩:=(hΔ L T0.tb).1 b f;obtain⟨e,n,ne,nf,_⟩:=I3.pin (b,o) (bt _ (gy _ ho));exact⟨⟨n,ne,nf,.inl f,(I3.ok.exf b f).2,λr hr z=>T0.dj _ ho r hr z.symm⟩,ah e⟩
 have b0:Inv X ce σ H3 s3:=I3.pins_of λp t=>I3.pin p (bt _ (bt _ t))
 have Y:=λb f=>(f3 b f).1
 refine C8 hC λh4 a9 H bw=>?_
 have I4:Inv (cX X N' sc s3 H3 (fp++ex0) ce) L σc H3 {s3 with heap:=h4}:=
  (C7 (t':=s3.toks) (fpO:=Y) b0 hk hC hfree hnd (λb f=>(f3 b f).2) a9 H bw hl hσ).pins_of λp t=>by
   obtain⟨e,n,ne,nf,d⟩:=I3.pin p (bt _ (gy _ t));refine⟨H _ _ e,n,bh (ah e),λz=>?_,d⟩
   rcases av.mp (I3.stkSub _ z)with z|z
   .exact ne z
   .exact nf z
 have cl:tn 0 h4:=T.keep _ _ _ st2 λb f o e=>H b o (cu b o e)
 have few:=hit.few
 have ap: ∀{H':Hp} {L':Pl},(∀b∈fp,H' b=qr)->(∀b∈fp, ∀p∈L',p.1≠b)->∀b∈fp,pM (cX X N' sc s3 H3 (fp++ex0) ce) L' H' b:=λ{H' L'} hn hd b f=>by
  obtain⟨⟨f0,f1,b1,Y,f4,f5⟩,f6⟩:=f3 b (gy _ f);refine⟨hn b f,bh f6,λz=>?_,.inl (gy _ f),λx c h=>?_,λq hq=>?_⟩
  .rcases av.mp (I3.stkSub b z)with z|z
   .exact f1 z
   .exact b1 z
  .rcases fV hC h with ⟨_,z⟩|h'
   .rw[z];exact(bh (jr f6)).symm
   rcases kO h' with ⟨kk,h1,h2,h3⟩|h
   .subst h2;obtain⟨c',b9⟩:=I3.ok.has x (hfree x h1);rw[b9]at h3
    have e:c=c':=h3
    rw[e];exact f4 x c' b9
   .cases h
  .rcases k6.mp hq with z|z
   .exact f5 q z
   .exact hd b f q z
 have a7: ∀s4:Shared,s4={s3 with heap:=h4}->
   codeAny (model X.prog X.w) X.A (.compLoop (.ListComp elt [⟨tg,it,ifs,0⟩] sc pos) 0 (.ref itA) (.ref D) (cX X N' sc s3 H3 (fp++ex0) ce).env) (RR (.ref D) s3.heap.objs.size) s4:=by
  rintro s4 rfl
  obtain⟨Iv,br⟩: ∃Iv:Nat->Shared->Prop, ∀n s',Iv n s'↔ ∃(i:Nat) (ab:St) (H' G':Hp) (ys dF:L1 SK.D) (vs:L1 V) (L':Pl),TD Δ L' (X.pn++ce)/\(∀b∈fp, ∀p∈L',p.1≠b)/\Inv (cX X N' sc s3 H3 (fp++ex0) ce) L' ab H' s'/\tn i s'.heap/\(∀b∈fp,H' b=qr)/\Step G2 H2 G' H'/\G' D=qr/\H' D=pi (.lst vs)/\aI X.K ad G' ys vs/\
   bE (dJ k cs fc fe) (ds.drop i)=pi dF/\ys++dF=all/\i<=ds.length/\n=ds.length-i/\ys.length<=i/\SL X.K ad G' (hid D H') (ao nt .no++cs) ab:=⟨_,λ_ _=>Iff.rfl⟩
  refine tQ Iv ?_ ds.length
   ((br _ _).mpr ⟨0,σc,H3,G2,[],all,[],L,T0,d0,I4,cl,λb f=>(Y b (gy _ f)).1,a3,qJ hG2 hD,ck,aI.nil,hgo,rfl,bu _,rfl,aj _,by rw[<-eH,Au,Le hD];exact hsl⟩)
  intro n s5 c6;obtain⟨i,be,H5,G5,ys,dF,vs,L5,T5,d5,I5,b8,ch,as,b4,cj,r5,ar,am,df,rfl,dl,c5⟩:=(br _ _).mp c6
  by_cases cn:i<ds.length
  .
   have ed:ds[i]? =pi ds[i]:=by simp[cn]
   generalize ds[i]=d at ed
   have bm:ds.drop i=d::ds.drop (i+1):=by
    rw[dz cn]
    congr 1
    have:=ay.mp ed
    exact this.2
   rw[bm]at ar;obtain⟨go,yl⟩:=hit.go i G5 H5 d as ed;refine L2.thn (T.item (cX X N' sc s3 H3 (fp++ex0) ce) rfl rfl rfl hc i L5 s5 be H5 (λ_ _=>False) I5 (ap ch d5) b8 go) λr s6 g=>?_
   obtain⟨u,hr,h6⟩:=g;subst hr;refine L2.thn h6 λ_ s7 g=>?_
   obtain⟨x,H7,I7,r7,y7,a0,c8⟩:=g;obtain⟨G7,M,cq⟩:=yl x H7 y7;have c1:=I7.pinned (ap c8 d5) (T.obj _ _ a0);obtain⟨b2,b5⟩:=fW M b4 cj;have cr:=c5.step (kQ M b2)
   have bz: ∃C,tgt k d=pi C:=by
    cases z:tgt k d with
    |some C=>exact⟨C,rfl⟩
    |none=>
     exfalso;rcases lU ar with ⟨e,_⟩|⟨x',_,e,_,_⟩<;>(unfold dJ at e;rw[z]at e;cases e)
   obtain⟨C,bp⟩:=bz;obtain⟨c2,gt⟩:=Ld (W:=λab H'=>H'=H7/\SL X.K ad G7 (hid D H7) (C++cs) ab) bp hnt M.gh cq cr (λab _ q=>⟨rfl,q⟩)
   refine L2.thn (hg s3 H3 ce _ s7 be H7 x u _ c1 r7 gt) λ_ s8 g=>?_
   obtain⟨S,H8,I8,e8,a4⟩:=g;subst e8
   have O: ∀{s9:Shared} {H9 G9:Hp} {ak G:L1 SK.D} {a5:L1 V} {L9:Pl},TD Δ L9 ((X.pn++ce)++gF fp s7.heap)->Inv (cX X N' sc s3 H3 (fp++ex0) ce) (L9++gF fp s7.heap) S H9 s9->Step G2 H2 G9 H9->G9 D=qr->H9 D=pi (.lst a5)->aI X.K ad G9 ak a5->bE (dJ k cs fc fe) (ds.drop (i+1))=pi G->ak++G=all->ak.length<=i+1->
     SL X.K ad G9 (hid D H9) (C++cs) S->∃m,m<ds.length-i/\Iv m s9:=by
    intro s9 H9 G9 ak G a5 L9 T9 I9 s Q ag r9 cv ct c4 a1;refine⟨ds.length-(i+1),by lia,(br _ _).mpr ⟨i+1,S,H9,G9,ak,G,a5,L9,⟨T9.tb,λp t r hr=>T9.dj p t r (gy _ hr)⟩,λb f p t=>?_,I9.unpinned,T.keep _ _ _ a0 λb f o e=>(I9.pin (b,o) (bt _ (bt _ (gY f e)))).1,λb f=>?_,s,Q,ag,r9,cv,ct,by lia,rfl,c4,?_⟩⟩
    .obtain⟨o,e,d'⟩:=T.obj _ _ a0 b f;exact T9.dj p t (b,o) (bt _ (gY f e))
    .obtain⟨o,e,d'⟩:=T.obj _ _ a0 b f;exact(I9.pin (b,o) (bt _ (bt _ (gY f e)))).2.1
    .have:=Ar a1
     rwa [c2]at this
   have bv:XP (cX X N' sc s3 H3 (fp++ex0) ce) ad S (λ_ _=>False):=C6 rfl
   have cd:Step G2 H2 G7 H8:=as.trans M
   have T8:TD Δ L5 ((X.pn++ce)++gF fp s7.heap):=⟨T5.tb,λp t r hr=>by
    rcases k6.mp hr with z|z
    .exact T5.dj p t r z
    .exact d5 _ (k9 z).1 p t⟩
   have a6: ∀{s9:Shared} {H9 G9:Hp} (x':SK.D) (y:L1 SK.D),Inv (cX X N' sc s3 H3 (fp++ex0) ce) (L5++gF fp s7.heap) S H9 s9->Step G7 H8 G9 H9->(fe (C++cs)= .ok x'\/∃l,fe (C++cs)= .ow l/\x'= .lst l)->bE (dJ k cs fc fe) (ds.drop (i+1))=pi y->dF=x'::y->
     X.wp (eval elt (cX X N' sc s3 H3 (fp++ex0) ce).env) (λx s₄=>X.wp (call (.builtin "list.append") [.ref D,x]) (λ_ cb=>∃m,m<ds.length-i/\Iv m cb) (λ_ _=>False) s₄) (λ_ _=>False) s9:=by
    intro s9 H9 G9 x' y I9 s hf B I;obtain⟨Q,ag⟩:=fW s b2 b5;have a1:=a4.step (kQ s Q);refine L2.thn (LPE.val (X:=cX X N' sc s3 H3 (fp++ex0) ce) (he s3 H3 ce) T8 I9 s.gh (a1.up As) bv hf) λda cz g=>?_
    obtain⟨dk,c3,Z,an,cw,c7,a2,U,db⟩:=g;obtain⟨al,cm⟩:=fW U Q ag
    have b3:vs.length<sizeLine:=by
     have:=r5.length
     lia
    refine L2.thn (lF (X:=cX X N' sc s3 H3 (fp++ex0) ce) _ cz S an (.ref D) [Z] (.ref D) [da] (λ_ H'=>H'=upd an D (.lst (vs++[Z]))) cw rfl (.cons c7 .nil) ⟨D,vs,Z,rfl,rfl,cm,b3,rfl⟩) λ_ dg g=>?_
    obtain⟨_,dh,c9,_,de⟩:=g;subst de;have cx:Step G2 H2 a2 an:=(cd.trans s).trans U;have cy:Step G2 H2 a2 (upd an D (.lst (vs++[Z]))):=qW cx hD al;have rA:aI X.K ad a2 (ys++[x']) (vs++[Z]):=((r5.mono M.sg).mono s.sg).mono U.sg |>.append (aI.cons db aI.nil)
    have cp:SL X.K ad a2 (hid D (upd an D (.lst (vs++[Z])))) (C++cs) S:=by
     rw[Au];exact a1.step (kQ U al)
    refine O c3 c9 cy al aH rA B ?_ (by simp;lia) cp
    rw[jm];rw[I]at am;exact am
   rcases lU ar with ⟨e,B⟩|⟨x',y,e,B,I⟩
   .
    unfold dJ at e;rw[bp]at e
    cases fc with
    |none=>
     exfalso
     simp only at e
     cases z:fe (C++cs)<;>rw[z]at e<;>cases e
    |some f0=>
     simp only at e
     have E:=hts s3 H3 ce
     match ifs,E with
     |[c0],E=>
      have hv:f0 (C++cs)= .ok (.bl qu):=by
       cases z:f0 (C++cs)with
       |ok dd=>
        rw[z]at e
        cases dd<;>try (cases e)
        rename_i bb
        cases bb with
        |false=>rfl
        |true=>
         exfalso
         simp only at e
         cases z':fe (C++cs)<;>rw[z']at e<;>cases e
       |ow _=>rw[z]at e;cases e
       |ex _=>rw[z]at e;cases e
       |bad=>rw[z]at e;cases e
      refine wpAny_tests_one (L2.thn (MT.val (X:=cX X N' sc s3 H3 (fp++ex0) ce) E I8 M.gh (a4.up As) bv hv) λok s9 g=>?_)
      obtain⟨eb,G9,H9,I9,s⟩:=g;subst eb;obtain⟨Q,ag⟩:=fW s b2 b5;exact CJ (O T8 I9 (cd.trans s) Q ag ((r5.mono M.sg).mono s.sg) B am (by lia) (a4.step (kQ s Q)))
     |[],E=>exact E.elim
     |_::_::_,E=>exact E.elim
   .
    unfold dJ at e;rw[bp]at e
    cases fc with
    |none=>
     have E:=hts s3 H3 ce
     match ifs,E with
     |[],_=>
      refine wpAny_tests_nil (Cq ?_);refine a6 x' y I8 (Step.refl M.gh) ?_ B I
      simp only at e
      cases z:fe (C++cs)with
      |ok dd=>rw[z]at e;cases e;exact .inl rfl
      |ow l=>rw[z]at e;cases e;exact .inr ⟨l,rfl,rfl⟩
      |ex _=>rw[z]at e;cases e
      |bad=>rw[z]at e;cases e
     |_::r1,E=>cases r1<;>exact ba E
    |some f0=>
     simp only at e
     have E:=hts s3 H3 ce
     match ifs,E with
     |[c0],E=>
      have hv:f0 (C++cs)= .ok (.bl qt)/\(fe (C++cs)= .ok x'\/∃l,fe (C++cs)= .ow l/\x'= .lst l):=by
       cases z:f0 (C++cs)with
       |ok dd=>
        rw[z]at e
        cases dd<;>try (cases e)
        rename_i bb
        cases bb with
        |false=>simp only at e;cases e
        |true=>
         simp only at e
         refine⟨rfl,?_⟩
         cases z':fe (C++cs)with
         |ok dd=>rw[z']at e;cases e;exact .inl rfl
         |ow l=>rw[z']at e;cases e;exact .inr ⟨l,rfl,rfl⟩
         |ex _=>rw[z']at e;cases e
         |bad=>rw[z']at e;cases e
       |ow _=>rw[z]at e;cases e
       |ex _=>rw[z]at e;cases e
       |bad=>rw[z]at e;cases e
      refine wpAny_tests_one (L2.thn (MT.val (X:=cX X N' sc s3 H3 (fp++ex0) ce) E I8 M.gh (a4.up As) bv hv.1) λok s9 g=>?_)
      obtain⟨eb,G9,H9,I9,s⟩:=g;subst eb;exact Cq (a6 x' y I9 s hv.2 B I)
     |[],E=>exact E.elim
     |_::_::_,E=>exact E.elim
  .
   have ei:i=ds.length:=by lia
   subst ei;rw[kh]at ar;cases ar;rw[k7]at am;subst am;refine L2.thn (T.done (cX X N' sc s3 H3 (fp++ex0) ce) rfl rfl rfl hc ds.length L5 s5 be H5 (λ_ _=>False) I5 (ap ch d5) b8 (hit.stop G5 H5 as)) λr s6 g=>?_
   obtain⟨hr,I6⟩:=g;subst hr;obtain⟨m,a9,_⟩:=I6.loc;refine hEnd L5 s3 s6 H3 H5 G5 D vs T5 b0 I6.free ⟨m,a9⟩ (λh' sb=>?_) as hD b4 cj r5
   have J:=Lc (fpO:=Y) b0 I6 sb;refine J.pins_of λp t=>?_
   rcases k6.mp t with t|t
   .obtain⟨e,n,ne,nf,d⟩:=I6.pin p (bt _ t);have b6:=λz=>nf ((hΔ L5 T5.tb).2 p t _ z)
    exact⟨(sb.2 _ ne).trans e,n,λz=>b6 (by rw[z];exact .head _),λz=>b6 (.tail _ z),d⟩
   .exact J.pin p (bt _ t)
 exact codeAny_compStart_list (a7 _ rfl) (T.self _ 0 _ _ _ cl (a7 _ rfl))
def nF{cs}{nt}(hxs:xs.length=nt)(hN:X.N=C.N)(hcs:eL (λx=>eF C x) (aN sc)=pi cs)(hfr: ∀x∈aN sc,(x,m4)∈sc.names)(hS:SL X.K ad G H ρ σ)(hlen:σ.length=X.N.length):
  ∃σc,σc.length=(xs++aN sc).length/\(∀(i:Nat) x v,(xs++aN sc)[i]? =pi x->σc[i]? =pi (pi v)->∃j:Nat,X.N[j]? =pi x/\σ[j]? =pi (pi v)/\(x,m4)∈sc.names)/\
   SL X.K ad G H (ao nt .no++jP cs ρ) σc:=by
 have s: ∀(d:L1 Str) (f:L1 Nat),eL (λx=>eF C x) d=pi f->f.length=d.length/\∀(i:Nat) (y:Str),d[i]? =pi y->∃j,f[i]? =pi j/\C.N[j]? =pi y:=by
  intro d;induction d with
  |nil=>intro f e;cases e;exact⟨rfl,λi y h=>by simp at h⟩
  |cons y r Q=>
   intro f e;unfold eL at e;rcases b:eF C y with _|j;rw[b]at e;cases e;rw[b]at e;obtain⟨u,L,T⟩:=zMd e;subst T;obtain⟨W,O⟩:=Q u L;refine⟨by simp[W],λi z h=>?_⟩;rcases i with _|i;simp at h;subst h;refine⟨j,rfl,?_⟩;have l:idx y C.N=pi j:=by
    unfold eF at b;split at b;exact b;exact b;cases b
   exact gL l;obtain⟨U,m,c⟩:=O i z (by simpa using h);exact⟨U,by simpa using m,c⟩
 obtain⟨B,M⟩:=s (aN sc) cs hcs;refine⟨ao nt qr++cs.map (λj=>(σ[j]?).getD qr),by simp[B,hxs],λi x v m c=>?_,?_,λi w e=>?_⟩;by_cases hi:i<nt;rw[bx (by simpa using hi),eo,if_pos hi]at c;cases c;rw[bn (by simpa using hi),gf,jj]at c;rw[bn (by lia),hxs]at m;obtain⟨j,A,S⟩:=M (i-nt) x m;rw[A]at c;have n:(σ[j]?).getD qr=pi v:=ku c;refine⟨j,by rw[hN];exact S,?_,hfr x (List.mem_of_getElem? m)⟩;rcases q:σ[j]? with _|I;rw[q]at n;cases n;rw[q]at n;exact congrArg pi n;simp[jP];by_cases hi:i<nt;rw[bx (by simpa using hi),eo,if_pos hi]at e;cases e;refine⟨qr,?_,trivial⟩;rw[bx (by simpa using hi),eo,if_pos hi];rw[bn (by simpa using hi),gf]at e;unfold jP at e;rw[jj]at e;rcases q:cs[i-nt]? with _|j;rw[q]at e;cases e;rw[q]at e;have o:(ρ[j]?).getD .no=w:=ku e;refine⟨(σ[j]?).getD qr,?_,?_⟩;rw[bn (by simpa using hi),gf,jj,q];rfl;rcases t:ρ[j]? with _|g;rw[t]at o;subst o;trivial;rw[t]at o;have p:g=w:=o;subst p;obtain⟨I,J,E⟩:=hS.at_ j g t;rw[J];exact E
end
open PySem.W
noncomputable def Its(x:Str):It:=⟨λi _=>i<x.cps.size,λi H v H'=>H'=H/\∃c,x.cps[i]? =pi c/\v= .str ⟨#[c]⟩,λi _=>x.cps.size<=i⟩
def C9{K}{tg}it(hty:ty="str_ascii_iterator"\/ty="str_iterator"):Turn P w K tg (Its x) [it] it (λi h=>h.IsStrIter it ty x t i) where
 mem:=by simp
 obj:=λi h j b f=>by
  have e:b=it:=by simpa using f
  subst e;obtain⟨o,e,c,d⟩:=j;exact⟨o,e,λv z=>by rw[d]at z;cases z⟩
 keep:=λi h g j k=>by
  obtain⟨o,e,r⟩:=j;exact⟨o,k it (by simp) o e,r⟩
 item:=by
  intro X O S U Y i ce s T H E I G j Z;subst O S U;have hi:i<x.cps.size:=Z;obtain⟨C,J,f2,L,M,N⟩:=G it (by simp);have q: ∀(g:Heap),g.IsStrIter it ty x t (i+1)->(∀b o,b≠it->s.heap.get? b=pi o->g.get? b=pi o)->∀(p:Nat) (u:Tok), ∃u',(pi (qc ⟨#[x.cps[i]]⟩ u):L7 Value)=pi u'/\X.wp (letOwnedTupleGo tg (.ref it) u') (λ_ s2=>∃y H',Inv X ce T H' s2/\bH y u'/\(Its x).yld i H y H'/\s2.heap.IsStrIter it ty x t (i+1)/\∀b∈[it],H' b=qr) E {s with heap:=g,toks:=p}:=by
   intro g B sb p u;have I1:Inv X ce T H {s with heap:=g,toks:=p}:=I.turned (t':=p) (λb o f e=>sb b o f e) C J L M N;obtain⟨o,e,c,d⟩:=id B;refine⟨_,rfl,zA (s:={s with heap:=g,toks:=p}) e c d (by rcases hty with rfl|rfl<;>decide) ⟨.str ⟨#[x.cps[i]]⟩,H,I1,⟨u,rfl⟩,⟨rfl,_,by simp[hi],rfl⟩,B,λb f=>(G b f).1⟩⟩
  rcases hty with rfl|rfl;exact wpAny_pyNext_ascii_item j (c:=x.cps[i]) (by simp[hi]) λg l n=>q g l (λb o f e=>n.extBut b o f e) _ _;exact wpAny_pyNext_wide_item j (c:=x.cps[i]) (by simp[hi]) λg l n=>q g l (λb o f e=>n.extBut b o f e) _ _
 done:=by
  intro X O S U Y i ce s T H E I G j Z;subst O S U;have hi:x.cps.size<=i:=Z;obtain⟨C,J,f2,L,M,N⟩:=G it (by simp);rcases hty with rfl|rfl;exact wpAny_pyNext_ascii_end (I.ok.hd Y) j (by simp[hi]) λg m=>⟨rfl,I.turned (t':=s.toks) (λb o f e=>m b o f e) C J L M N⟩;exact wpAny_pyNext_wide_end (I.ok.hd Y) j (by simp[hi]) λg m=>⟨rfl,I.turned (t':=s.toks) (λb o f e=>m b o f e) C J L M N⟩
 self:=λA i s Q E j h=>by
  rcases hty with rfl|rfl;exact wpAny_pyIter_striter_ascii j h;exact wpAny_pyIter_striter_wide j h
noncomputable def Itk(a:Addr)(o:Obj)(es:L1 (Key×V)):It:=⟨λi H=>i<es.length/\H a=pi (.frz o (.dK es)),λi H v H'=>H'=H/\∃e,es[i]? =pi e/\v=kV e.1,λi H=>es.length<=i/\H a=pi (.frz o (.dK es))⟩
theorem jW{α β}{R:α->β->Prop}: ∀{l} {m},Paired R l m->∀{i:Nat} {a},l[i]? =pi a->∃b,m[i]? =pi b/\R a b
 |_,_,.nil,i,b,h=>by simp at h
 |_,_,.cons r t,0,b,h=>by simp at h;subst h;exact⟨_,rfl,r⟩
 |_,_,.cons r t,i+1,b,h=>by
  obtain⟨a,e,r⟩:=jW t (i:=i) (a:=b) (by simpa using h);exact⟨a,by simpa using e,r⟩
def Av{σ:St}(I:Inv X ce σ H s)(ha:H a=pi (.frz o (.dK es))):(a==sysModules)=qu/\∃vs ep,KV es vs/\s.heap.DictAt (bI X.prog X.w) a vs ep/\∃ar,o.data= .dict ar ep:=by obtain⟨e,z,g,vs,d,h,ar,ep,c,f,b,r⟩:=I.hok a _ ha;rw[e]at c;cases c;exact⟨g,vs,ep,d,⟨o,ar,e,f,b,r⟩,ar,b⟩
def Da{K}{tg}it:Turn P w K tg (Itk a o es) [it] it (λi h=>∃ep ar,o.data= .dict ar ep/\h.IsKeyIter it a i es.length ep) where
 mem:=by simp
 obj:=λi h g b p=>by
  have e:b=it:=by simpa using p
  subst e;obtain⟨_,_,_,o,e,c,d⟩:=g;exact⟨o,e,λv z=>by rw[d]at z;cases z⟩
 keep:=λi h B g k=>by
  obtain⟨ep,ar,d,g⟩:=g;exact⟨ep,ar,d,g.at λo e=>k it (by simp) o e⟩
 item:=by
  intro X J N S hc i ce s σ H E I A g hg;subst J N S;obtain⟨hi,ha⟩:=hg;obtain⟨ep,ar,l,g⟩:=g;obtain⟨hd,L,C,m,G,Z,f⟩:=Av I ha;rw[l]at f;cases f;obtain⟨M,O,f2,Q,U,f5⟩:=A it (by simp);obtain⟨e,he⟩: ∃e,es[i]? =pi e:=⟨es[i],by simp[hi]⟩;obtain⟨q,hq,r1,r2⟩:=jW m he;have y:es.length=L.length:=KV.length m;obtain⟨qk,qv⟩:=q;refine wpAny_pyNext_dict_item (knd:=bI X.prog X.w) (by rw[<-y];exact g) G hq λad B u n Y=>?_;have I1:Inv X ce σ H {s with heap:=B}:=I.turned (t':=s.toks) (λb o p e=>(Y.2 b p).trans e) M O Q U f5;obtain⟨oi,e1,c,d⟩:=id n;refine⟨_,rfl,zA (s:={s with heap:=B}) e1 c d rfl ⟨kV e.1,H,I1,?_,⟨rfl,e,he,rfl⟩,⟨ep,ar,l,by rw[y];exact n⟩,λb p=>(A b p).1⟩⟩;have ab:e.1=qk:=r1;rw[ab];have r:sR qk ad=qt:=u;rcases bY r with ⟨j,t,rfl,rfl⟩|⟨x,t,rfl,rfl⟩<;>exact⟨t,rfl⟩
 done:=by
  intro X J N S hc i ce s σ H E I A g hg;subst J N S;obtain⟨hi,ha⟩:=hg;obtain⟨ep,ar,l,g⟩:=g;obtain⟨hd,L,C,m,G,Z,f⟩:=Av I ha;rw[l]at f;cases f;have y:es.length=L.length:=KV.length m;obtain⟨M,O,f2,Q,U,f5⟩:=A it (by simp);exact wpAny_pyNext_dict_end (knd:=bI X.prog X.w) (I.ok.hd hc) (by rw[<-y];exact g) G (List.getElem?_eq_none (by rw[<-y];exact hi)) λB T=>⟨rfl,I.turned (t':=s.toks) (λb o p e=>T b o p e) M O Q U f5⟩
 self:=λ_ _ _ _ _ g h=>by
  obtain⟨_,_,_,g⟩:=g;exact wpAny_pyIter_keyiter g h
section
variable{X:Cx}{ad:Ad}{H G:Hp}
def GU(hG:Same G H)(few:x.cps.size<=1000):ItH X ad (Its x) G H (sY x):=by
 have h:(sY x).length=x.cps.size:=by simp[sY]
 refine⟨λi j o d g e=>?_,λj o g=>by rw[h];exact aj _,by rw[h];exact ny few (by decide)⟩;have n: ∃c,x.cps.toList[i]? =pi c/\D.str ⟨#[c]⟩=d:=by simpa[sY]using e
 obtain⟨c,l,rfl⟩:=n;have f:x.cps[i]? =pi c:=by simpa using l
 refine⟨(Array.getElem?_eq_some_iff.mp f).1,λv q m=>?_⟩;obtain⟨rfl,p,b,rfl⟩:=m;rw[f]at b;cases b;exact⟨j,Step.refl g.gh,by unfold Rep;rfl⟩
def GV{ks:L1 Str}{es:L1 (Key×V)}{i:Nat}(h:es.map (·.1)=ks.map qo)(e:(ks.map D.str)[i]? =pi d): ∃q,es[i]? =pi q/\∃x,q.1=qo x/\d= .str x:=by rw[jj]at e;obtain⟨k,c,g⟩:=zMd e;have b:=congrArg (λl:L1 Key=>l[i]?) h;simp only[jj,c,Option.map_some]at b;obtain⟨q,q1,f⟩:=zMd b;exact⟨q,q1,k,f,g.symm⟩
def GW{a}{o}{ks:L1 Str}{es}(ha:G a=pi (.frz o (.dK es)))(h:es.map (·.1)=ks.map qo)(hG:Same G H)(few:ks.length<=1000):ItH X ad (Itk a o es) G H (ks.map D.str):=by
 have g:es.length=ks.length:=by have:=congrArg o6 h;simpa using this
 refine⟨λi f j d b e=>?_,λf j b=>⟨by rw[aq,g];exact aj _,b.sh _ _ (hG _ _ ha)⟩,by rw[aq];exact ny few (by decide)⟩;obtain⟨q,q1,x,m,rfl⟩:=GV h e;refine⟨⟨(ay.mp q1).1,b.sh _ _ (hG _ _ ha)⟩,λv n l=>?_⟩;obtain⟨rfl,p,c,rfl⟩:=l;rw[q1]at c;cases c;rw[m];exact⟨f,Step.refl b.gh,by unfold Rep;rfl⟩
end
section
variable{X:Cx}{ad:Ad}{s3:Shared}{H H2 H3 G G2:Hp}{ρ:Rho}{Q:VK}{E:Nat->Hp->Prop}{pos:Pos}{sc:Scope}{fp ex0:L1 Addr}{tg it elt:Expr}{ifs:L1 Expr}{k:Nat}{xs:L1 Str}{cs:L1 Nat}{fc:L7 F}{fi fe:F}
def Aw(h: ∀a b c,it≠ .Set a b c): ∀x,foldedSetIterable it X.env x=pure x:=by intro x;cases it<;>first|rfl|exact absurd rfl (h _ _ _)
structure CompSc(X:Cx)(C:Ctx)(sc:Scope)(xs:List Str)(cs:List Nat):Prop where
 kind:sc.kind= .function
 cell:Cel sc
 names: ∀y∈sc.names,y.2= .local->sc.names.lookup y.1=pi .local
 fre: ∀x,(x,m4)∈sc.names->X.env.kindOf x=pi .cell\/X.env.kindOf x=pi .free
 frl: ∀x,(x,m4)∈sc.names->sc.names.lookup x=pi .free
 N:X.N=C.N
 cs:eL (λx=>eF C x) (aN sc)=pi cs
def qZ(h:x∈aN sc):(x,m4)∈sc.names:=by
 unfold aN at h;obtain⟨p,b,rfl⟩:=au.mp h;obtain⟨d,e⟩:=kz.mp b;obtain⟨y,c⟩:=p;have:c= .free:=by simpa using e
 subst this;exact d
def Lf{W}(hr:RK X.K ad G H (aY k cs fi fc fe ρ) Q E)
  (q: ∀J G2 H2 ds all,Step G H G2 H2->ItH X ad J G2 H2 ds->bE (dJ k (jP cs ρ) fc fe) ds=pi all->RK X.K ad G2 H2 (.ow all) Q E->W J H2):IK X ad G H (fi ρ) W E:=by
 unfold aY at hr;rcases e:fi ρ with d|l|c|_;rw[e]at hr;have f:RK X.K ad G H (match iI d with|some ds=>(match bE (dJ k (jP cs ρ) fc fe) ds with|some xs=>.ow xs|none=>.bad)|none=>.bad) Q E:=hr;rcases m:iI d with _|ds;rw[m]at f;exact f.elim;rw[m]at f;have b:RK X.K ad G H (match bE (dJ k (jP cs ρ) fc fe) ds with|some xs=>.ow xs|none=>.bad) Q E:=f;rcases g:bE (dJ k (jP cs ρ) fc fe) ds with _|all;rw[g]at b;exact b.elim;rw[g]at b;exact⟨ds,m,λJ j i h hi=>q J j i ds all h hi g (b.step h)⟩;rw[e]at hr;have b:RK X.K ad G H (match bE (dJ k (jP cs ρ) fc fe) l with|some xs=>.ow xs|none=>.bad) Q E:=hr;rcases g:bE (dJ k (jP cs ρ) fc fe) l with _|all;rw[g]at b;exact b.elim;rw[g]at b;exact λJ j i h hi=>q J j i l all h hi g (b.step h);rw[e]at hr;exact hr;rw[e]at hr;exact hr
def v7{C}(hc:X.calm=qt)(hΔ:ExO X Δ ex0)(S:CompSc X C sc xs cs)(hi:MI X ad tg it fi)(hset: ∀a b c,it≠ .Set a b c)(hxs:xs.length=if k=0 then 1 else k)
  (hg: ∀fp s3 H3 pins',PG (cX X (xs++aN sc) sc s3 H3 fp pins') tg (gTg X.K k)) (hts: ∀fp s3 H3 pins',MTs (cX X (xs++aN sc) sc s3 H3 fp pins') ad ifs fc) (he: ∀fp s3 H3 pins',(∀b∈ex0,b∈fp)->LPE (cX X (xs++aN sc) sc s3 H3 fp pins') Δ elt (tE (cX X (xs++aN sc) sc s3 H3 fp pins') ad fe)):
  LPE X Δ (.ListComp elt [⟨tg,it,ifs,0⟩] sc pos) (tE X ad (aY k cs fi fc fe)):=by
 rintro ce L s Y H Q T0 I ⟨G,u,E,hG,y,j,hr⟩;rw[eval_ListComp]
 have r:closureFor sc X.env=pure (lS X.env.cells sc.names []):=jV λx j=>by
  obtain⟨c,h⟩:=I.ok.has x (S.fre x j);rw[h];rfl
 refine wpAny_comprehension_free (use:=qr) rfl (Aw hset) r S.kind S.names ?_;show X.wp (eval it X.env) _ X.xe s
 refine L2.thn (hi _ s Y H _ I ⟨G,u,E,hG,y,j,Lf (W:=λJ i=>∃f g all,Step G H f i/\ItH X ad J f i g/\bE (dJ k (jP cs u) fc fe) g=pi all/\RK X.K ad f i (.ow all) Q E) hr λJ f i g all a b c d=>⟨f,g,all,a,b,c,d⟩⟩) λv s1 h1=>
  L2.thn h1 λab s2 t=>?_
 obtain⟨Z,fp,tn,J,i,e,B,T,st2,U,f,g,all,M,hit,l,o⟩:=t;subst e;obtain⟨σc,l1,l2,l3⟩:=nF (xs:=xs) (sc:=sc) (nt:=if k=0 then 1 else k) hxs S.N S.cs (λx h=>qZ h) (y.step M) B.len
 refine qY (σc:=σc) hc T0 hΔ B T st2 U hit l M.gh S.kind S.cell S.fre S.frl l1 l2 rfl l3 (hg _) (hts _) (λs3 H3 pins'=>he _ s3 H3 pins' λb hb=>bt _ hb) λL' s3 s' H3 z G' D O T' I3 _ ⟨m,n⟩ J' q hD gD p r'=>?_
 refine⟨m,n,λh' sb=>⟨L',T',.ref D,z,J' h' sb,rfl,o D O G' z q hD gD p r'⟩⟩
def GY{C}(hc:X.calm=qt)(S:CompSc X C sc xs cs)(hi:MI X ad tg it fi)(hset: ∀a b c,it≠ .Set a b c)(hxs:xs.length=if k=0 then 1 else k)
  (hg: ∀fp s3 H3 pins',PG (cX X (xs++aN sc) sc s3 H3 fp pins') tg (gTg X.K k)) (hts: ∀fp s3 H3 pins',MTs (cX X (xs++aN sc) sc s3 H3 fp pins') ad ifs fc) (he: ∀fp s3 H3 pins',ME (cX X (xs++aN sc) sc s3 H3 fp pins') ad elt fe):
  ME X ad (.ListComp elt [⟨tg,it,ifs,0⟩] sc pos) (aY k cs fi fc fe):=K9 (v7 hc Ap S hi hset hxs hg hts λfp s3 H3 pins' _=>Ao (he fp s3 H3 pins'))
def GZ(hq:SqT X.K H a vs)(r:aI X.K ad G ds vs)(hG:Same G H)(few:vs.length<=sizeLine):ItH X ad (Itt X.K a) G H ds:=by refine⟨λi f g d b e=>?_,λf g b=>⟨vs,b.sh.seqT hq,by rw[r.length];exact aj _⟩,by rw[<-r.length];exact few⟩;obtain⟨v,c,h⟩:=r.get e;refine⟨⟨vs,v,b.sh.seqT hq,c⟩,?_⟩;rintro x j ⟨rfl,y⟩;have:=y vs (b.sh.seqT hq);rw[c]at this;cases this;exact⟨f,Step.refl b.gh,h.mono b.sg⟩
def G6(hq:SqL X.K H a vs)(r:aI X.K ad G ds vs)(hG:Same G H)(few:vs.length<=sizeLine):ItH X ad (Itl X.K a) G H ds:=by refine⟨λi f g d b e=>?_,λf g b=>⟨vs,b.sh.seq hq,by rw[r.length];exact aj _⟩,by rw[<-r.length];exact few⟩;obtain⟨v,c,h⟩:=r.get e;refine⟨⟨vs,v,b.sh.seq hq,c⟩,?_⟩;rintro x j ⟨rfl,y⟩;have:=y vs (b.sh.seq hq);rw[c]at this;cases this;exact⟨f,Step.refl b.gh,h.mono b.sg⟩
def Ax(ha:ML X ad a f):MI X ad tg a f:=by
 rintro Q s N H W I ⟨G,ρ,E,hG,hS,hx,O⟩
 have S: ∀(d:D) (y:L1 D),items d=pi y->(∀J G' H',Step G H G' H'->ItH X ad J G' H' y->W J H')->∀u g v h i,Inv X Q N h g->bH v u->Step G H i h->Seq X ad i h d v->X.wp (pyIter u) (PIE X Q N tg W) X.xe g:=by
  intro d y e M u g v h i j L r q;obtain⟨p,vs,rfl,Z,rq⟩:=q.items r.gh e;cases (show u=qe p from L);rcases Z with ⟨_,Z⟩|⟨_,Z⟩;obtain⟨U,rv,pt,hz⟩:=j.tuple Z;refine wpAny_pyIter_tuple (show g.heap.IsTuple p U.toArray from pt) ?_;refine⟨g.z,[g.z],_,_,h,rfl,j.kept (t':=g.toks) λb o e=>ae _ e,xS p _,⟨_,af _ rfl,rfl,rfl⟩,λb T=>?_,M _ i h r (GZ Z rq r.gh hz)⟩;have e:b=g.z:=by simpa using T
  subst e;exact j.fpOk (aj _) (j.hok.fresh (aj _));obtain⟨U,rv,pt,hz⟩:=j.list Z;refine wpAny_pyIter_list pt.isList ?_;refine⟨g.z,[g.z],_,_,h,rfl,j.kept (t':=g.toks) λb o e=>ae _ e,pT p _,⟨_,af _ rfl,rfl,rfl⟩,λb T=>?_,M _ i h r (G6 Z rq r.gh hz)⟩;have e:b=g.z:=by simpa using T
  subst e;exact j.fpOk (aj _) (j.hok.fresh (aj _))
 have ag: ∀(d:D) (y:L1 D),iI d=pi y->(∀J G' H',Step G H G' H'->ItH X ad J G' H' y->W J H')->∀u g v h i,Inv X Q N h g->bH v u->Step G H i h->Seq X ad i h d v->X.wp (pyIter u) (PIE X Q N tg W) X.xe g:=by
  intro d y e M u g v h i j L r q;cases d with
  |tup xs=>exact S (.tup xs) y (show items (.tup xs)=pi y from e) M u g v h i j L r q
  |lst xs=>exact S (.lst xs) y (show items (.lst xs)=pi y from e) M u g v h i j L r q
  |str x=>
   have C:(if x.cps.size<=1000 then pi (sY x)else qr)=pi y:=e;by_cases Y:x.cps.size<=1000;rw[if_pos Y]at C;cases C;have q':Rep X.K ad i (.str x) v:=by
    rcases q with q|⟨_,_,_,z,_⟩;exact q;cases z
   unfold Rep at q';subst q';obtain⟨t,rfl⟩:=(show ∃t,u=qc x t from L);have go: ∀(ty:String) (o:Obj),(ty="str_ascii_iterator"\/ty="str_iterator")->(g.heap.push o).IsStrIter g.z ty x t 0->PIE X Q N tg W (.ref g.z) {g with heap:=g.heap.push o}:=λty o al ak=>by
    refine⟨g.z,[g.z],_,_,h,rfl,j.kept (t':=g.toks) λb o e=>ae _ e,C9 _ al,ak,λb T=>?_,M _ i h r (GU r.gh Y)⟩;have e:b=g.z:=by simpa using T
    subst e;exact j.fpOk (aj _) (j.hok.fresh (aj _))
   cases hA:x.cps.all (· <128);exact wpAny_pyIter_wide hA (go _ _ (.inr rfl) ⟨_,af _ rfl,rfl,rfl⟩);exact wpAny_pyIter_ascii hA (go _ _ (.inl rfl) ⟨_,af _ rfl,rfl,rfl⟩);rw[if_neg Y]at C;cases C
  |dct ks vs=>
   have C:(if ks.length<=1000 then pi (ks.map D.str)else qr)=pi y:=e;by_cases Y:ks.length<=1000;rw[if_pos Y]at C;cases C;have q':Rep X.K ad i (.dct ks vs) v:=by
    rcases q with q|⟨_,_,_,z,_⟩;exact q;cases z
   unfold Rep at q';obtain⟨a,o,es,rfl,ga,a1,a2⟩:=q';cases (show u=qe a from L);obtain⟨hd,an,ep,am,da,ar,ab⟩:=Av j (r.gh _ _ ga);refine wpAny_pyIter_dict (knd:=bI X.prog X.w) hd da ?_;refine⟨g.z,[g.z],_,_,h,rfl,j.kept (t':=g.toks) λb o e=>ae _ e,Da _,⟨ep,ar,ab,_,af _ rfl,rfl,by rw[KV.length am];rfl⟩,λb T=>?_,M _ i h r (GW ga a1 r.gh Y)⟩;have e:b=g.z:=by simpa using T
   subst e;exact j.fpOk (aj _) (j.hok.fresh (aj _));rw[if_neg Y]at C;cases C
  |_=>cases e
 rcases e:f ρ with d|l|c|_;rw[e]at O;obtain⟨y,e2,M⟩:=O;exact L2.thn (ha Q s N H (λv h=>∃i,Step G H i h/\Seq X ad i h d v) I ⟨G,ρ,E,hG,hS,hx,by rw[e];exact λv i h r q=>⟨i,r,q⟩⟩) λu g B=>by obtain⟨v,h,j,L,i,r,q⟩:=B;exact ag d y e2 M u g v h i j L r q
 rw[e]at O;exact L2.thn (ha Q s N H (λv h=>∃i,Step G H i h/\Rep X.K ad i (.lst l) v) I ⟨G,ρ,E,hG,hS,hx,by rw[e];exact λp vs i h r n m C q=>dW r n m C q⟩) λu g B=>by obtain⟨v,h,j,L,i,r,q⟩:=B;exact ag (.lst l) l rfl O u g v h i j L r (.inl q)
 rw[e]at O;exact L2.thn (ha Q s N H (λv h=>False) I ⟨G,ρ,E,hG,hS,hx,by rw[e];exact O⟩) λu g B=>by obtain⟨v,h,j,L,q⟩:=B;exact q.elim
 rw[e]at O;exact ba O
def G8{lo}(hG:Same G H)(few:n<=sizeLine):ItH X ad (Itr lo n) G H ((pb n).map λ(i:Nat)=>D.int (lo+(i:Int))):=by refine⟨λi f g d b e=>?_,λf g b=>by simp[Itr],by simpa using few⟩;rw[jj]at e;rcases q:(pb n)[i]? with _|j;rw[q]at e;cases e;rw[q]at e;obtain⟨hi,c⟩:=ay.mp q;rw[jq]at hi;rw[List.getElem_range]at c;subst c;cases e;refine⟨hi,?_⟩;rintro x h ⟨rfl,rfl⟩;exact⟨f,Step.refl b.gh,bU⟩
def Ay n:x8 n=(pb n).map λ(i:Nat)=>D.int (0+(i:Int)):=by unfold x8;congr 1;funext i;rw[Int.zero_add]
def tU{k}(hG:Same G H)(hS:SL X.K ad G H ρ σ)(hx:XP X ad σ E)(hr:IK X ad G H ((f ρ).bind k) W E)(q: ∀v d G1 H1,Step G H G1 H1->Rep X.K ad G1 d v->IK X ad G1 H1 (k d) W E->Q' v H1):tE X ad f σ H Q':=by
 have i: ∀{r:R} {G1 H1:Hp},IK X ad G H r W E->Step G H G1 H1->IK X ad G1 H1 r W E:=λ{r G1 H1} h g=>by
  rcases r with d|l|c|_;obtain⟨u,e,h⟩:=h;exact⟨u,e,λJ o j b hi=>h J o j (g.trans b) hi⟩;exact λJ o j b hi=>h J o j (g.trans b) hi;exact λo j b=>h o j (g.trans b);exact h
 refine⟨G,ρ,E,hG,hS,hx,?_⟩;rcases e:f ρ with d|y|c|_;rw[e]at hr;exact λv G1 H1 g r=>q v d G1 H1 g r (i hr g);rw[e]at hr;intro p x G1 H1 g n m s r;obtain⟨w,st2,t⟩:=dW (X:=X) (ad:=ad) g n m s r;exact q _ _ w H1 st2 t (i hr st2);rw[e]at hr;exact hr;rw[e]at hr;exact hr
def Db(hg:L2.Gl X "range")(hm:X.mg "range"=qr)(ha:ME X ad a f)(hs:starEach [a] X.env=(qu,eval a X.env)::starEach [] X.env):MI X ad tg (.Call (.Name "range" p) [a] [] pos) (eW f):=by
 rintro w s l H W I ⟨G,x,E,u,o,q,n⟩;refine pU (ta:=sV (tE X ad f) JC) hg hm (cG ha dR hs) hs w s l H W I ?_;show tE X ad f l H λv c=>∃j:Int,[v]=[.int j]/\ -(2^62)<=j/\j<2^62/\W (Itr 0 j.toNat) c;refine tU u o q n λv d h c g r k=>?_;cases d<;>try exact ba k
 rename_i i;unfold Rep at r;subst r;have b:IK X ad h c (if -100000<=i/\i<=100000 then .ok (.lst (x8 i.toNat))else .bad) W E:=k;by_cases m: -100000<=i/\i<=100000;rw[if_pos m]at b;obtain⟨y,e,t⟩:=b;cases e;refine⟨i,rfl,by lia,by lia,t _ h c (Step.refl g.gh) ?_⟩;rw[Ay];exact G8 g.gh (by rw[sizeLine_eq];lia);rw[if_neg m]at b;exact b.elim
end
def g9(H:Hp)(ρ:Rho)(σ:St)(i:Nat)(as:L1 Addr):Prop:= ∃C r p dx d l1 l2,ρ[i]? =pi (Slot.rk C r)/\σ[i]? =pi (pi (V.ref p))/\H p=pi (HO.ins C dx [("held",V.ref d),("done",V.ref l1),("undone",V.ref l2)])/\as=[p,dx,d,l1,l2]
structure RS(H₀ H:Hp)(ρ:Rho)(σ:St):Prop where
 h0: ∀i as,g9 H ρ σ i as->∀a∈as,H₀ a=qr
 ow: ∀i as,g9 H ρ σ i as->∀a∈as, ∀(j:Nat) (sl:Slot),ρ[j]? =pi sl->sl.owns=qt->σ[j]? ≠pi (pi (.ref a))
 rr: ∀i j as as' a,g9 H ρ σ i as->g9 H ρ σ j as'->a∈as->a∈as'->i=j
section
variable{K:nq}{ad:Ad}
def g9.in(h:SL K ad G H ρ σ)(f:g9 H ρ σ i as): ∃C r p dx d l1 l2,ρ[i]? =pi (.rk C r)/\σ[i]? =pi (pi (V.ref p))/\RackIn K ad C G H p r dx d l1 l2/\as=[p,dx,d,l1,l2]:=by obtain⟨C,r,p,dx,d,l1,l2,c,b,j,m⟩:=f;obtain⟨q,g,o,l,n,q1,e⟩:=h.rk c;rw[b]at q1;cases q1;have:=e.ins;rw[j]at this;cases this;exact⟨C,r,p,dx,d,l1,l2,c,b,e,m⟩
theorem g9.at(h:SL K ad G H ρ σ)(f:g9 H ρ σ i as): ∀a∈as,G a=qr/\H a≠qr:=by obtain⟨C,r,p,s,d,v,g,l,j,q,rfl⟩:=f.in h;obtain⟨kvs,b,n⟩:=q.held;obtain⟨o,e,w⟩:=q.done;obtain⟨u,c,t⟩:=q.undone;intro a m;simp only[av,ki,or_false]at m;rcases m with rfl|rfl|rfl|rfl|rfl;exact⟨q.gp,by rw[q.ins];exact λz=>nomatch z⟩;exact⟨q.gx,by rw[q.own];exact λz=>nomatch z⟩;exact⟨q.gd,by rw[b];exact λz=>nomatch z⟩;exact⟨q.g1,by rw[e];exact λz=>nomatch z⟩;exact⟨q.g2,by rw[c];exact λz=>nomatch z⟩
def g9.back(h:SL K ad G H ρ σ)(s:Same H H1)(f:g9 H1 ρ σ i as):g9 H ρ σ i as:=by obtain⟨C,r,p,j,d,q,l,c,b,m,o⟩:=f;obtain⟨v,g,u,n,t,q1,e⟩:=h.rk c;rw[b]at q1;cases q1;have:=s _ _ e.ins;rw[m]at this;cases this;exact⟨C,r,p,j,d,q,l,c,b,e.ins,o⟩
def RS.same(R:RS H₀ H ρ σ)(h:SL K ad G H ρ σ)(s:Same H H1):RS H₀ H1 ρ σ:=
 ⟨λi b f=>R.h0 i b (f.back h s),λi b f=>R.ow i b (f.back h s),λi j b c a f d=>R.rr i j b c a (f.back h s) (d.back h s)⟩
def g9.unset(w:sn.isRk=qu)(f:g9 H (ρ.set i sn) (σ.set i ov) k as):k≠i/\g9 H ρ σ k as:=by
 obtain⟨C,r,p,g,d,n,h,b,e,j,m⟩:=f;have c:k≠i:=λz=>by
  subst z;have l:k<ρ.length:=by have:=(ay.mp b).1;rwa [lg]at this
  rw[bj l]at b;cases b;cases w
 rw[bc (qq c)]at b e;exact⟨c,C,r,p,g,d,n,h,b,e,j,m⟩
theorem RS.set(R:RS H₀ H ρ σ)(w:sn.isRk=qu)(n: ∀a,sn.owns=qt->ov=pi (.ref a)->∀k as,g9 H ρ σ k as->a∉as):RS H₀ H (ρ.set i sn) (σ.set i ov):=by
 refine⟨λk as f=>R.h0 k as (f.unset w).2,λk as f a h j p c g b=>?_,λk l as e a f o=>R.rr k l as e a (f.unset w).2 (o.unset w).2⟩;by_cases z:j=i;subst z;have m:j<ρ.length:=by have:=(ay.mp c).1;rwa [lg]at this
 have d:j<σ.length:=by have:=(ay.mp b).1;rwa [lg]at this
 rw[bj m]at c;rw[bj d]at b;cases c;cases b;exact n a g rfl k as (f.unset w).2 h;rw[bc (qq z)]at c b;exact R.ow k as (f.unset w).2 a h j p c g b
def g9.reset(w:sn.isRk=qu)(f:g9 H (ρ.set i sn) σ k as):g9 H ρ σ k as:=by
 obtain⟨C,r,p,c,d,n,e,b,j,h,m⟩:=f;have g:k≠i:=λz=>by
  subst z;have l:k<ρ.length:=by have:=(ay.mp b).1;rwa [lg]at this
  rw[bj l]at b;cases b;cases w
 rw[bc (qq g)]at b;exact⟨C,r,p,c,d,n,e,b,j,h,m⟩
def RS.re(R:RS H₀ H ρ σ)(w:sn.isRk=qu)(e:ρ[i]? =pi sl₀)(w₀:sl₀.owns=qt):RS H₀ H (ρ.set i sn) σ:=by refine⟨λk b f=>R.h0 k b (f.reset w),λk b f a g j n h l d=>?_,λk m b c a f o=>R.rr k m b c a (f.reset w) (o.reset w)⟩;by_cases z:j=i;subst z;exact R.ow k b (f.reset w) a g j sl₀ e w₀ d;rw[bc (qq z)]at h;exact R.ow k b (f.reset w) a g j n h l d
def RackIn.ups(h:RackIn K ad C G H p r dx d l1 l2)(ha:a∉[p,dx,d,l1,l2]):RackIn K ad C G (upd H a o) p r dx d l1 l2:=by simp only[av,ki,or_false,not_or]at ha;obtain⟨i,n,e,j,m⟩:=ha;obtain⟨kvs,f,l⟩:=h.held;obtain⟨q,b,t⟩:=h.done;obtain⟨s,g,c⟩:=h.undone;exact⟨by rw[aD (qq i)];exact h.ins,by rw[aD (qq n)];exact h.own,⟨kvs,by rw[aD (qq e)];exact f,l⟩,⟨q,by rw[aD (qq j)];exact b,t⟩,⟨s,by rw[aD (qq m)];exact g,c⟩,h.ne,h.gp,h.gx,h.gd,h.g1,h.g2⟩
def RackIn.shr(h:RackIn K ad C G H p r dx d l1 l2)(ha:a∉[p,dx,d,l1,l2])(le:Same G (upd G a o)):RackIn K ad C (upd G a o) H p r dx d l1 l2:=by simp only[av,ki,or_false,not_or]at ha;obtain⟨i,n,e,j,m⟩:=ha;obtain⟨kvs,f,l⟩:=h.held;obtain⟨q,b,t⟩:=h.done;obtain⟨s,g,c⟩:=h.undone;exact⟨h.ins,h.own,⟨kvs,f,l.mono le⟩,⟨q,b,t.mono le⟩,⟨s,g,c.mono le⟩,h.ne,by rw[aD (qq i)];exact h.gp,by rw[aD (qq n)];exact h.gx,by rw[aD (qq e)];exact h.gd,by rw[aD (qq j)];exact h.g1,by rw[aD (qq m)];exact h.g2⟩
end
structure SS(X:Cx)(ad:Ad)(G₀ G H:Hp)(ρ:Rho)(σ:St):Prop where
 st:Step G₀ X.H₀ G H
 sl:SL X.K ad G H ρ σ
 ow: ∀(i:Nat) (sl:Slot) (a:Addr),ρ[i]? =pi sl->sl.owns=qt->σ[i]? =pi (pi (.ref a))->X.H₀ a=qr
 dj: ∀(i j:Nat) (sl sl':Slot) (a:Addr),ρ[i]? =pi sl->ρ[j]? =pi sl'->sl.owns=qt->sl'.owns=qt->σ[i]? =pi (pi (.ref a))->σ[j]? =pi (pi (.ref a))->i=j
 rs:RS X.H₀ H ρ σ
def OKo(X:Cx)(ad:Ad)(G₀:Hp)(o:Out)(D':Ends)(E:St->Nat->Hp->Prop):Prop:=match o with
 |.nx ρ=>∀σ G H,SS X ad G₀ G H ρ σ->D'.nx σ H
 |.bk ρ=>∀σ G H,SS X ad G₀ G H ρ σ->D'.bk σ H
 |.ct ρ=>∀σ G H,SS X ad G₀ G H ρ σ->D'.ct σ H
 |.ex c ρ=>∀σ G H,SS X ad G₀ G H ρ σ->E σ c H
 |.rt (.ok d)=>∀v G H,Step G₀ X.H₀ G H->Rep X.K ad G d v->D'.rt v H
 |.rt (.ow xs)=>∀p vs G H,Step G₀ X.H₀ G H->X.H₀ p=qr->G p=qr->H p=pi (.lst vs)->aI X.K ad G xs vs->D'.rt (.ref p) H
 |.rt _=>False
def XA(X:Cx)(ad:Ad)(Z:(St->Nat->Hp->Prop)->Prop)(E:St->Nat->Hp->Prop):Prop:=(∀σ,XP X ad σ (E σ))/\Z E
def tS(X:Cx)(ad:Ad)(Z:(St->Nat->Hp->Prop)->Prop)(g:FS):TS:=λD' σ H=>∃G₀ G ρ E,SS X ad G₀ G H ρ σ/\XA X ad Z E/\OKo X ad G₀ (g ρ) D' E
abbrev MS(X:Cx)(ad:Ad)(Z:(St->Nat->Hp->Prop)->Prop)(st:Stmt)(g:FS):Prop:=PS X st (tS X ad Z g)
abbrev MSs(X:Cx)(ad:Ad)(Z:(St->Nat->Hp->Prop)->Prop)(st:L1 Stmt)(g:FS):Prop:=PSs X st (tS X ad Z g)
section
variable{X:Cx}{ad:Ad}{Z:(St->Nat->Hp->Prop)->Prop}{σ:St}{H G G₀:Hp}{ρ:Rho}{g:FS}{st:Stmt}
theorem SS.step(S:SS X ad G₀ G H ρ σ)(t:Step G H G1 H1):SS X ad G₀ G1 H1 ρ σ:=⟨S.st.trans t,S.sl.step t,S.ow,S.dj,S.rs.same S.sl t.sh⟩
def jX{G₀ Gs G H H₀ Hs}(a:Step G₀ H₀ Gs Hs)(b:Step Gs H₀ G H):Step G₀ H₀ G H:=
 ⟨a.sg.trans b.sg,b.gh,b.sh,λx c d=>by
  rcases q:Gs x with _|o;exact b.nw x q d;exact a.nw x c (by rw[q];exact λz=>nomatch z)⟩
def SS.up(a:Step G₀ X.H₀ Gs Hs)(S:SS X ad Gs G H ρ σ):SS X ad G₀ G H ρ σ:=⟨jX a S.st,S.sl,S.ow,S.dj,S.rs⟩
def SS.here(S:SS X ad G₀ G H ρ σ):SS X ad G G H ρ σ:=⟨⟨Same.refl _,S.st.gh,S.st.sh,λb c d=>absurd c d⟩,S.sl,S.ow,S.dj,S.rs⟩
def OKo.rebase(h:OKo X ad G₀ o D' E)(a:Step G₀ X.H₀ Gs Hs):OKo X ad Gs o D' E:=by rcases o with f|r|f|f|⟨c,f⟩;exact λb G H S=>h b G H (S.up a);rcases r with d|j|c|_;exact λv G H g q=>h v G H (jX a g) q;exact λp i G H g n m e q=>h p i G H (jX a g) n m e q;exact h;exact h;exact λb G H S=>h b G H (S.up a);exact λb G H S=>h b G H (S.up a);exact λb G H S=>h b G H (S.up a)
def eQ(S:SS X ad G₀ G H ρ σ)(hx:XA X ad Z E)(hr:OKo X ad G₀ (fC ρ (f ρ) k) D' E)(q: ∀v d G1 H1,Step G H G1 H1->Rep X.K ad G1 d v->OKo X ad G₀ (k d) D' E->Q' v H1):tE X ad f σ H Q':=by refine⟨G,ρ,E σ,S.st.gh,S.sl,hx.1 σ,?_⟩;unfold fC at hr;rcases e:f ρ with d|j|c|_;rw[e]at hr;exact λv G1 H1 st r=>q v d G1 H1 st r hr;rw[e]at hr;intro p i G1 H1 st n m h r;obtain⟨g,st2,b⟩:=dW (X:=X) (ad:=ad) st n m h r;exact q _ _ g H1 st2 b hr;rw[e]at hr;exact λG1 H1 st=>hr σ G1 H1 (S.step st);rw[e]at hr;exact hr
def Ha:MS X ad Z (.Pass pos) bC:=PS.imp y6 λg d H b=>by obtain⟨c,G,f,E,S,h,e⟩:=b;exact e d G H S
def oK:MSs X ad Z [] bC:=PSs.imp kY λg d H b=>by obtain⟨c,G,f,E,S,h,e⟩:=b;exact e d G H S
def Az(h1:MS X ad Z st g):MSs X ad Z [st] g:=n6 h1
abbrev LMS(X:Cx)(Δ:Pl->Prop)(ad:Ad)(Z:(St->Nat->Hp->Prop)->Prop)(st:Stmt)(g:FS):Prop:=LPS X Δ st (tS X ad Z g)
abbrev Hb(X:Cx)(Δ:Pl->Prop)(ad:Ad)(Z:(St->Nat->Hp->Prop)->Prop)(st:L1 Stmt)(g:FS):Prop:=qV X Δ st (tS X ad Z g)
def q8(h1:LMS X Δ ad Z st g)(h2:Hb X Δ ad Z sts h):Hb X Δ ad Z (st::sts) (aT g h):=by refine qV.imp (i8 h1 h2) ?_;rintro p o H ⟨f,G,i,E,S,j,b⟩;refine⟨f,G,i,E,S,j,?_⟩;unfold aT at b;rcases e:g i with d|r|d|d|⟨c,d⟩;rw[e]at b;exact λn l q m=>⟨f,l,d,E,m,j,b⟩;rw[e]at b;cases r<;>exact b;rw[e]at b;exact b;rw[e]at b;exact b;rw[e]at b;exact b
def oM(h1:MS X ad Z st g)(h2:MSs X ad Z sts h):MSs X ad Z (st::sts) (aT g h):=Lb (q8 (E4 h1) (gK h2))
def v8(he:ME X ad e f):MS X ad Z (.Return (pi e) pos) (dM f):=by refine PS.imp (vB he) ?_;rintro t i H ⟨l,G,j,E,S,o,b⟩;refine⟨G,j,E i,S.st.gh,S.sl,o.1 i,?_⟩;unfold dM at b;rcases e:f j with d|u|c|_;rw[e]at b;exact λv h g st r=>b v h g (S.st.trans st) r;rw[e]at b;exact λp q h g st n m s r=>b p q h g (S.st.trans st) (S.st.sh.free n) m s r;rw[e]at b;exact λh g st=>b i h g (S.step st);rw[e]at b;exact b
def Hc(he:ME X ad e f)(hs:swapsWith e qr pos.line X.env=pure qu):MS X ad Z (.Expr e pos) (iF f):=by refine PS.imp (jO he hs) ?_;rintro n c H ⟨b,G,m,E,S,h,g⟩;exact eQ S h g λv d l j i r k=>k c l j (S.step i)
theorem SS.set(S:SS X ad G₀ G H ρ σ)(r:Rep X.K ad G d v):SS X ad G₀ G H (ρ.set i (.sh d)) (σ.set i (pi v)):=by
 have b: ∀(j:Nat) (sl:Slot),(ρ.set i (.sh d))[j]? =pi sl->(j=i/\sl= .sh d/\i<ρ.length)\/(j≠i/\ρ[j]? =pi sl):=λj sl e=>by
  by_cases z:j=i;subst z;have c:j<ρ.length:=by have:=(ay.mp e).1;rwa [lg]at this
  rw[bj c]at e;cases e;exact .inl ⟨rfl,rfl,c⟩;rw[bc (qq z)]at e;exact .inr ⟨z,e⟩
 refine⟨S.st,⟨by rw[lg,lg];exact S.sl.len,λj sl e=>?_⟩,λj l a e w h=>?_,λj o l t a e g w m h n=>?_,S.rs.set rfl λ_ z=>nomatch z⟩;rcases b j sl e with ⟨rfl,rfl,c⟩|⟨z,e⟩;exact⟨pi v,bj (by rw[<-S.sl.len];exact c),v,rfl,r⟩;obtain⟨q,s,p⟩:=S.sl.at_ j sl e;exact⟨q,by rw[bc (qq z)];exact s,p⟩;rcases b j _ e with ⟨_,z,_⟩|⟨z,e⟩;subst z;exact(bf w).elim;rw[bc (qq z)]at h;exact S.ow j l a e w h;rcases b j _ e with ⟨_,z,_⟩|⟨z,e⟩;subst z;exact(bf w).elim;rcases b o _ g with ⟨_,f,_⟩|⟨f,g⟩;subst f;exact(bf m).elim;rw[bc (qq z)]at h;rw[bc (qq f)]at n;exact S.dj j o l t a e g w m h n
def SL.own_at{K}{j:Nat}(h:SL K ad G H ρ σ)(e:ρ[j]? =pi sl)(w:sl.owns=qt)(hj:σ[j]? =pi (pi (.ref p))):G p=qr/\H p≠qr:=by obtain⟨n,i,g⟩:=h.at_ j sl e;rw[hj]at i;cases i;rcases sl with _|d|m|m|m|⟨_,_⟩;exact(bf w).elim;exact(bf w).elim;obtain⟨a,l,f,b,c,_⟩:=g;cases f;exact⟨b,by rw[c];exact λz=>nomatch z⟩;obtain⟨a,l,f,b,c,_⟩:=g;cases f;exact⟨b,by rw[c];exact λz=>nomatch z⟩;obtain⟨a,l,f,b,c,_⟩:=g;cases f;exact⟨b,by rw[c];exact λz=>nomatch z⟩;exact(bf w).elim
def SS.setNew{i:Nat}{sn:Slot}{p:Addr}{G1 H1:Hp}(S:SS X ad G₀ G H ρ σ)(st:Step G H G1 H1)(n:H p=qr)(r:SLi X.K ad G1 H1 sn (pi (.ref p)))(wr:sn.isRk=qu:=by rfl):
  SS X ad G₀ G1 H1 (ρ.set i sn) (σ.set i (pi (.ref p))):=by
 have x:=S.step st
 have c: ∀(j:Nat) (sl:Slot),(ρ.set i sn)[j]? =pi sl->(j=i/\sl=sn/\i<ρ.length)\/(j≠i/\ρ[j]? =pi sl):=λj sl e=>by
  by_cases z:j=i
  .subst z;have d:j<ρ.length:=by have:=(ay.mp e).1;rwa [lg]at this
   rw[bj d]at e;cases e;exact .inl ⟨rfl,rfl,d⟩
  .rw[bc (qq z)]at e;exact .inr ⟨z,e⟩
 have b: ∀(j:Nat) (sl:Slot),ρ[j]? =pi sl->sl.owns=qt->σ[j]? ≠pi (pi (.ref p)):=λj sl J w M=>(S.sl.own_at J w M).2 n
 refine⟨x.st,⟨by rw[lg,lg];exact S.sl.len,λj sl o=>?_⟩,λj s a o w h=>?_,λj t s y a I B A C l g=>?_,x.rs.set wr λa _ z k N f m=>by
  cases z;exact((f.back S.sl st.sh).at S.sl p m).2 n⟩
 .rcases c j sl o with ⟨q1,q,d⟩|⟨z,o⟩
  .rw[q1,q];exact⟨pi (.ref p),bj (by rw[<-S.sl.len];exact d),r⟩
  .obtain⟨L,l,g⟩:=x.sl.at_ j sl o;exact⟨L,by rw[bc (qq z)];exact l,g⟩
 .rcases c j _ o with ⟨q1,_,d⟩|⟨z,o⟩
  .rw[q1,bj (by rw[<-S.sl.len];exact d)]at h
   cases h;exact S.st.sh.free n
  .rw[bc (qq z)]at h;exact S.ow j s a o w h
 .rcases c j _ I with ⟨q1,_,d⟩|⟨z,E⟩
  .rcases c t _ B with ⟨q,_,_⟩|⟨u,v⟩
   .rw[q1,q]
   .rw[q1,bj (by rw[<-S.sl.len];exact d)]at l
    cases l;rw[bc (qq u)]at g;exact absurd g (b t y v C)
  .rcases c t _ B with ⟨q,_,d⟩|⟨u,v⟩
   .rw[q,bj (by rw[<-S.sl.len];exact d)]at g
    cases g;rw[bc (qq z)]at l;exact absurd l (b j s E A)
   .rw[bc (qq z)]at l;rw[bc (qq u)]at g;exact S.dj j t s y a E v A C l g
def SS.setOw(S:SS X ad G₀ G H ρ σ)(st:Step G H G1 H1)(n:H p=qr)(m:G1 p=qr)(e:H1 p=pi (.lst vs))(r:aI X.K ad G1 xs vs):
  SS X ad G₀ G1 H1 (ρ.set i (.ow xs)) (σ.set i (pi (.ref p))):=S.setNew st n ⟨p,vs,rfl,m,e,r⟩
def Lg(S:SS X ad G₀ G H ρ σ)(hx:XA X ad Z E)(hr:OKo X ad G₀ (yU i f ρ) D' E):tE X ad f σ H λv H1=>D'.nx (σ.set i (pi v)) H1:=by refine⟨G,ρ,E σ,S.st.gh,S.sl,hx.1 σ,?_⟩;unfold yU at hr;rcases e:f ρ with d|j|c|_;rw[e]at hr;exact λv b H1 st r=>hr _ b H1 ((S.step st).set r);rw[e]at hr;exact λp h b H1 st n m g r=>hr _ b H1 (S.setOw st n m g r);rw[e]at hr;exact λb H1 st=>hr σ b H1 (S.step st);rw[e]at hr;exact hr
def Hd(hc:MT X ad c f)(ha:MSs X ad Z a g)(hb:MSs X ad Z b h):MS X ad Z (.If c a b pos) (sIf f g h):=by
 refine PS.imp (Kb hc ha hb) ?_;rintro q m H ⟨j,G,l,E,S,n,i⟩;unfold sIf at i;rcases e:f l with d|s|k|_;rw[e]at i;cases d<;>try exact i.elim
 rename_i k;refine⟨G,l,E m,S.st.gh,S.sl,n.1 m,.inl ⟨k,e⟩,?_⟩;rw[e];intro v o p st r;unfold Rep at r;subst r;refine⟨k,rfl,?_⟩;rcases k with _|_;exact CJ ⟨j,o,l,E,S.step st,n,i⟩;exact Cq ⟨j,o,l,E,S.step st,n,i⟩;rw[e]at i;exact i.elim;rw[e]at i;refine⟨G,l,E m,S.st.gh,S.sl,n.1 m,.inr ⟨k,e⟩,?_⟩;rw[e];exact λo p st=>i m o p (S.step st);rw[e]at i;exact i.elim
def SS.shareG{i:Nat}{sl₀ sn:Slot}{a:Addr}{o:HO}(S:SS X ad G₀ G H ρ σ)(e:ρ[i]? =pi sl₀)(w₀:sl₀.owns=qt)(h1:σ[i]? =pi (pi (.ref a)))(h3:H a=pi o)(hst:Step G₀ X.H₀ (upd G a o) H)(wn:sn.owns=qu)
  (r:SLi X.K ad (upd G a o) H sn (pi (.ref a))) (wr:sn.isRk=qu:=by rfl):SS X ad G₀ (upd G a o) H (ρ.set i sn) σ:=by
 have h2:G a=qr:=(S.sl.own_at e w₀ h1).1;have u:Same G (upd G a o):=Same.upd_new h2;have hl:i<ρ.length:=(ay.mp e).1;have l: ∀(j:Nat) (sl:Slot),(ρ.set i sn)[j]? =pi sl->(j=i/\sl=sn)\/(j≠i/\ρ[j]? =pi sl):=λj sl e=>by
  by_cases z:j=i;subst z;rw[bj hl]at e;cases e;exact .inl ⟨rfl,rfl⟩;rw[bc (qq z)]at e;exact .inr ⟨z,e⟩
 refine⟨hst,⟨by show(ρ.set i _).length=_;rw[lg];exact S.sl.len,λj sl f=>?_⟩,λj t b f w h=>?_,λj U t Y b J I E N s n=>?_,S.rs.re wr e w₀⟩;rcases l j sl f with ⟨q1,W⟩|⟨z,f⟩;rw[q1,W];exact⟨pi (.ref a),h1,r⟩;obtain⟨ov,s,n⟩:=S.sl.at_ j sl f;refine⟨ov,s,?_⟩;rcases sl with _|d|t|t|t|⟨C,r⟩;trivial;obtain⟨v,c,g⟩:=n;exact⟨v,c,g.mono u⟩;obtain⟨b,y,c,g,x,B⟩:=n;have A:b≠a:=λq=>by
  subst q;subst c;exact z (S.dj j i _ _ b f e rfl w₀ s h1)
 exact⟨b,y,c,by rw[aD A];exact g,x,B.mono u⟩;obtain⟨b,y,c,g,x,B,L⟩:=n;have A:b≠a:=λq=>by
  subst q;subst c;exact z (S.dj j i _ _ b f e rfl w₀ s h1)
 exact⟨b,y,c,by rw[aD A];exact g,x,B.mono u,L⟩;obtain⟨b,y,c,g,x,B,L⟩:=n;have A:b≠a:=λq=>by
  subst q;subst c;exact z (S.dj j i _ _ b f e rfl w₀ s h1)
 exact⟨b,y,c,by rw[aD A];exact g,x,B.mono u,L⟩;obtain⟨p,O,d,Q,M,c,g⟩:=n;have Z:g9 H ρ σ j [p,O,d,Q,M]:=⟨C,r,p,O,d,Q,M,f,by rw[s,c],g.ins,rfl⟩;exact⟨p,O,d,Q,M,c,g.shr (λm=>S.rs.ow j _ Z a m i sl₀ e w₀ h1) u⟩;rcases l j _ f with ⟨_,z⟩|⟨z,f⟩;rw[z,wn]at w;exact(bf w).elim;exact S.ow j t b f w h;rcases l j _ J with ⟨_,z⟩|⟨z,J⟩;rw[z,wn]at E;exact(bf E).elim;rcases l U _ I with ⟨_,T⟩|⟨T,I⟩;rw[T,wn]at N;exact(bf N).elim;exact S.dj j U t Y b J I E N s n
end
section
variable{X:Cx}{ad:Ad}{ce:cg}{s:Shared}{σ:St}{H G G₀:Hp}{ρ:Rho}{E:St->Nat->Hp->Prop}{e:Expr}{f:F}{st:Stmt}
def SS.updG{i:Nat}{sl₀ sn:Slot}{a:Addr}{o:HO}(S:SS X ad G₀ G H ρ σ)(e:ρ[i]? =pi sl₀)(w₀:sl₀.owns=qt)(h1:σ[i]? =pi (pi (.ref a)))(r:SLi X.K ad G (upd H a o) sn (pi (.ref a)))(wr:sn.isRk=qu:=by rfl):SS X ad G₀ G (upd H a o) (ρ.set i sn) σ:=by
 have n0:X.H₀ a=qr:=S.ow i sl₀ a e w₀ h1;have h2:G a=qr:=(S.sl.own_at e w₀ h1).1;have hl:i<ρ.length:=(ay.mp e).1;have s: ∀(j:Nat) (sl:Slot),(ρ.set i sn)[j]? =pi sl->(j=i/\sl=sn)\/(j≠i/\ρ[j]? =pi sl):=λj sl e=>by
  by_cases z:j=i;subst z;rw[bj hl]at e;cases e;exact .inl ⟨rfl,rfl⟩;rw[bc (qq z)]at e;exact .inr ⟨z,e⟩
 refine⟨qW S.st n0 h2,⟨by rw[lg];exact S.sl.len,λj sl e'=>?_⟩,λj E b e' w h=>?_,λj W E T b e1 e2 w1 w2 u t=>?_,?_⟩;rcases s j sl e' with ⟨q1,x⟩|⟨z,g⟩;rw[q1,x];exact⟨pi (.ref a),h1,r⟩;obtain⟨ov,u,t⟩:=S.sl.at_ j sl g;refine⟨ov,u,?_⟩;rcases sl with _|d|E|E|E|⟨C,r⟩;trivial;exact t;obtain⟨b,n,l,y,J,O⟩:=t;have B:b≠a:=λq=>by
  subst q;subst l;exact z (S.dj j i _ _ b g e rfl w₀ u h1)
 exact⟨b,n,l,y,by rw[aD B];exact J,O⟩;obtain⟨b,n,l,y,J,O⟩:=t;have B:b≠a:=λq=>by
  subst q;subst l;exact z (S.dj j i _ _ b g e rfl w₀ u h1)
 exact⟨b,n,l,y,by rw[aD B];exact J,O⟩;obtain⟨b,n,l,y,J,O⟩:=t;have B:b≠a:=λq=>by
  subst q;subst l;exact z (S.dj j i _ _ b g e rfl w₀ u h1)
 exact⟨b,n,l,y,by rw[aD B];exact J,O⟩;obtain⟨p,N,d,U,L,l,y⟩:=t;have Y:g9 H ρ σ j [p,N,d,U,L]:=⟨C,r,p,N,d,U,L,g,by rw[u,l],y.ins,rfl⟩;exact⟨p,N,d,U,L,l,y.ups (λm=>S.rs.ow j _ Y a m i sl₀ e w₀ h1)⟩;rcases s j _ e' with ⟨q1,x⟩|⟨z,g⟩;rw[q1,h1]at h;cases h;exact n0;exact S.ow j E b g w h;rcases s j _ e1 with ⟨q1,_⟩|⟨z,g⟩;rcases s W _ e2 with ⟨x,_⟩|⟨z',A⟩;rw[q1,x];rw[q1]at u ⊢;exact S.dj i W _ T b e A w₀ w2 u t;rcases s W _ e2 with ⟨x,_⟩|⟨z',A⟩;rw[x]at t ⊢;exact S.dj j i E _ b g e w1 w₀ u t;exact S.dj j W E T b g A w1 w2 u t;refine RS.re (H:=upd H a o) ?_ wr e w₀;have bk: ∀{k:Nat} {v:L1 Addr},g9 (upd H a o) ρ σ k v->g9 H ρ σ k v:=λ{k v} f=>by
  obtain⟨C,r,p,N,d,U,L,g,A,f3,f4⟩:=f;obtain⟨p',M,d',Q,I,q1,x⟩:=S.sl.rk g;rw[A]at q1;cases q1;have Y:g9 H ρ σ k [p,M,d',Q,I]:=⟨C,r,p,M,d',Q,I,g,A,x.ins,rfl⟩;have B:p≠a:=λz=>S.rs.ow k _ Y p (by simp) i sl₀ e w₀ (by rw[z];exact h1);rw[aD B]at f3;exact⟨C,r,p,N,d,U,L,g,A,f3,f4⟩
 exact⟨λk v f=>S.rs.h0 k v (bk f),λk v f=>S.rs.ow k v (bk f),λk k' v Z c f f'=>S.rs.rr k k' v Z c (bk f) (bk f')⟩
def HR.rep{K}(h:HR K ad G kvs es):es.map (·.1)=(kvs.map (·.1)).map qo/\aI K ad G (kvs.map (·.2)) (es.map (·.2)):=by
 unfold HR at h;induction h with
 |nil=>exact⟨rfl,aI.nil⟩
 |@cons p q e f h t d=>
  obtain⟨c,b⟩:=d;refine⟨?_,aI.cons h.2 b⟩;rw[mr,mr,mr,h.1,c]
def He{K}(g:G a=pi (.frz o (.dK es)))(h:HR K ad G kvs es):Rep K ad G (.dct (kvs.map (·.1)) (kvs.map (·.2))) (.ref a):=by obtain⟨b,c⟩:=h.rep;unfold Rep;exact⟨a,o,es,rfl,g,b,c⟩
def Inv.frzD(I:Inv X ce σ H s)(e:H a=pi (.dK es)): ∃o,Inv X ce σ (upd H a (.frz o (.dK es))) s:=by obtain⟨z,d,f,b,dd⟩:=zV I.hok e;obtain⟨o,c⟩: ∃o,s.heap.get? a=pi o:=let ⟨o,_,_,h,_⟩:=dd;⟨o,h⟩;exact⟨o,jT (h':=s.heap) (t':=s.toks) I (by rw[e];exact pf) ⟨rfl,λ_ _=>rfl⟩ ⟨o,c⟩ ⟨c,nA z d b dd⟩⟩
theorem SS.frz1(S:SS X ad G₀ G H ρ σ)(I:Inv X ce σ H s): ∃G' H',SS X ad G₀ G' H' (SK.frz1 i ρ) σ/\Same G G'/\Inv X ce σ H' s:=by unfold SK.frz1;rcases e:ρ[i]? with _|sl;exact⟨G,H,S,Same.refl _,I⟩;rcases sl with _|d|v|kvs|d|⟨_,_⟩;exact⟨G,H,S,Same.refl _,I⟩;exact⟨G,H,S,Same.refl _,I⟩;obtain⟨a,l,c,b,g,h⟩:=S.sl.ow e;have f:Same G (upd G a (.lst l)):=Same.upd_new b;exact⟨_,H,S.shareG e rfl c g (S.st.share (S.ow i _ a e rfl c) b g) rfl ⟨.ref a,rfl,by unfold Rep;exact⟨a,l,rfl,SqL.of aH,h.mono f⟩⟩,f,I⟩;obtain⟨a,j,c,b,g,h,u⟩:=S.sl.dc e;obtain⟨o,t⟩:=Inv.frzD I g;have r:i<ρ.length:=(ay.mp e).1;have m:SS X ad G₀ G (upd H a (sdO a (o,j))) (ρ.set i (.sd kvs)) σ:=S.updG e rfl c ⟨a,(o,j),rfl,b,aH,h,u⟩;have q:(ρ.set i (.sd kvs))[i]? =pi (.sd kvs):=bj r;have f:Same G (upd G a (sdO a (o,j))):=Same.upd_new b;have n:=m.shareG (sn:=Slot.sh (D.dct (kvs.map λp:Str×D=>p.1) (kvs.map λp:Str×D=>p.2))) q rfl c aH (m.st.shareO (S.ow i _ a e rfl c) b aH) rfl ⟨.ref a,rfl,He aH (h.mono f)⟩;rw[List.set_set]at n;exact⟨_,_,n,f,t⟩;exact⟨G,H,S,Same.refl _,I⟩;exact⟨G,H,S,Same.refl _,I⟩
theorem SS.frz{is}: ∀{ρ} {G H},SS X ad G₀ G H ρ σ->Inv X ce σ H s->∃G' H',SS X ad G₀ G' H' (SK.frz is ρ) σ/\Same G G'/\Inv X ce σ H' s:=by
 induction is with
 |nil=>intro ρ G H S I;exact⟨G,H,S,Same.refl _,I⟩
 |cons i is l=>
  intro ρ G H S I;obtain⟨n,m,d,j,c⟩:=S.frz1 (i:=i) I;obtain⟨f,h,g,b,e⟩:=l d c;exact⟨f,h,g,j.trans b,e⟩
def gM(h1:MS X ad Z st g):MS X ad Z st (dU is g):=by rcases is with _|⟨i,is⟩;exact h1;rintro n s l H m I ⟨b,G,o,E,S,d,c⟩;obtain⟨f,e,h,_,j⟩:=S.frz (is:=i::is) I;exact h1 n s l e m j ⟨b,f,_,E,h,d,c⟩
theorem SS.upd(S:SS X ad G₀ G H ρ σ)(e:ρ[i]? =pi (.ow xs))(h1:σ[i]? =pi (pi (.ref a)))(h2:G a=qr)(r:aI X.K ad G ys ws):SS X ad G₀ G (L2.upd H a (.lst ws)) (ρ.set i (.ow ys)) σ:=
 S.updG e rfl h1 ⟨a,ws,rfl,h2,aH,r⟩
def fI(hs:starEach [e] X.env=(qu,eval e X.env)::starEach [] X.env):((backTo cpos (starEach [e] X.env)).all (fun x=> !x.1)&&(backToKw cpos (keywordEach [] X.env)).all (fun x=>x.1.isSome)
   &&decide ([e].length+([]:L1 Keyword).length+(if([]:L1 Keyword).isEmpty then 0 else 1)<30))=qt:=by
 rw[hs];rfl
def Lh(hV:mU X i x)(he:ME X ad e f)(hs:starEach [e] X.env=(qu,eval e X.env)::starEach [] X.env)(hline:(ap.endLine==cp.line)=qt):MS X ad Z (.Expr (.Call (.Attribute (.Name x p) "append" ap) [e] [] cp) pos) (CM i f):=by refine PS.imp (jO (Ge (T:="list") ew PySem.F.slot_list_append PySem.F.type_list_append lF (bZ hV) (cG he dR hs) rfl (fI hs) hline hs rfl) rfl) ?_;rintro C B H ⟨c,G,n,E,S,w,b⟩;unfold CM at b;rcases q:n[i]? with _|sl;rw[q]at b;exact b.elim;rw[q]at b;rcases sl with _|d|m|d|d|⟨_,_⟩;exact b.elim;exact b.elim;obtain⟨a,s,u,z,o,t⟩:=S.sl.ow q;refine⟨.ref a,u,.inl ⟨rfl,s,SqL.of o⟩,?_⟩;refine eQ S w b λv d A J h r k=>?_;obtain⟨y,j⟩:=fW h z o;have g:OKo X ad c (if m.length<LIM then .nx (n.set i (.ow (m++[d])))else .rt .bad) C E:=k;by_cases l:m.length<LIM;rw[if_pos l]at g;have I:=t.mono h.sg;refine⟨a,s,v,rfl,rfl,j,?_,g B A _ ((S.step h).upd q u y (I.append (aI.cons r aI.nil)))⟩;rw[t.length];exact bg l (by decide);rw[if_neg l]at g;exact g.elim;exact b.elim;exact b.elim;exact b.elim
def QW(K:nq):V->L1 V->Hp->VK->Prop:=λx vs H Q=>∃l b xs zs,x= .ref l/\vs=[.ref b]/\H l=pi (.lst xs)/\SqL K H b zs/\xs.length+zs.length<=sizeLine/\Q .non (upd H l (.lst (xs++zs)))
def Li:MtM X "list.extend" (QW X.K):=by
 intro W s T H x S v O Q I C L h;obtain⟨l,b,Z,U,rfl,rfl,w,J,N,q⟩:=h;cases C;obtain⟨u,rfl,G⟩:=L.one;cases G;obtain⟨z,d,n,r,Y,e⟩:=I.lstM w;obtain⟨c,y,⟨⟨A,t,m,o⟩,M,B,i,g,j⟩,_⟩:=I.list J;simp only at i j g;subst i j;have E:=y.length;have p:d.toArray.size+c.toArray.size<=sizeLine:=by rw[ax,ax];lia
 have f: ¬(!d.toArray.isEmpty&&eg (d.toArray.size+c.toArray.size))=qt:=by
  rw[vH p,Bool.and_false];exact bf
 refine call_meets F.slot_list_extend ⟨_,e,rfl⟩ F.entry_list_extend (F.args_list_extend_2 _ _)
  (qC l d.toArray n b c.toArray M t o f (by rw[ax];lia) (by lia)) ⟨e,B,?_⟩
 refine⟨.non,_,I.lset (its':=d++c) w e (by simp) (r.append y) ?_,rfl,q⟩;rw[bo];lia
def Lj(hV:mU X i x)(he:ME X ad e f)(hs:starEach [e] X.env=(qu,eval e X.env)::starEach [] X.env)(hline:(ap.endLine==cp.line)=qt):MS X ad Z (.Expr (.Call (.Attribute (.Name x p) "extend" ap) [e] [] cp) pos) (Gk i f):=by
 refine PS.imp (jO (Ge (T:="list") ew PySem.F.slot_list_extend PySem.F.type_list_extend Li (bZ hV) (cG he dR hs) rfl (fI hs) hline hs rfl) rfl) ?_;rintro K J H ⟨g,G,s,E,S,A,c⟩;unfold Gk at c;rcases q:s[i]? with _|sl;rw[q]at c;exact c.elim;rw[q]at c;rcases sl with _|d|o|d|d|⟨_,_⟩;exact c.elim;exact c.elim;obtain⟨a,y,z,M,w,t⟩:=S.sl.ow q;refine⟨.ref a,z,.inl ⟨rfl,y,SqL.of w⟩,?_⟩;refine eQ S A c λv d B O j r k=>?_;obtain⟨I,m⟩:=fW j M w;cases d<;>try exact ba k
 rename_i n;have h:OKo X ad g (if o.length+n.length<=LIM then .nx (s.set i (.ow (o++n)))else .rt .bad) K E:=k;by_cases l:o.length+n.length<=LIM;rw[if_pos l]at h;have C:=t.mono j.sg;unfold Rep at r;obtain⟨b,L,rfl,N,u⟩:=r;refine⟨a,b,y,L,rfl,rfl,m,j.gh.seq N,?_,h J B _ ((S.step j).upd q z I (C.append u))⟩;rw[t.length,u.length];exact ny l (by decide);rw[if_neg l]at h;exact h.elim;exact c.elim;exact c.elim;exact c.elim
structure ItG(X:Cx)(ad:Ad)(J:It)(G:Hp)(ds:List D):Prop where
 go: ∀(i:Nat) (G1 H1:Hp) (d:D),Same G G1->Same G1 H1->ds[i]? =pi d->J.go i H1/\∀x H2,J.yld i H1 x H2->∃G2,Step G1 H1 G2 H2/\Rep X.K ad G2 d x
 stop: ∀(G1 H1:Hp),Same G G1->Same G1 H1->J.stop ds.length H1
def IGK(X:Cx)(ad:Ad)(G H:Hp)(r:R)(W:It->Hp->Prop)(E:Nat->Hp->Prop):Prop:=match r with
 |.ok d=>∃ds,mZ d=pi ds/\∀J G' H',Step G H G' H'->ItG X ad J G' ds->W J H'
 |.ow xs=>∀J G' H',Step G H G' H'->ItG X ad J G' xs->W J H'
 |.ex c=>∀G' H',Step G H G' H'->E c H'
 |.bad=>False
def tIG(X:Cx)(ad:Ad)(f:F):TI:=λσ H W=>∃G ρ E,Same G H/\SL X.K ad G H ρ σ/\XP X ad σ E/\IGK X ad G H (f ρ) W E
abbrev MIG(X:Cx)(ad:Ad)(tg e:Expr)(f:F):Prop:=PI X tg e (tIG X ad f)
def Hf(hq:SqL X.K G a vs)(r:aI X.K ad G ds vs):ItG X ad (Itl X.K a) G ds:=by refine⟨λi g h d b c e=>?_,λg h b c=>⟨vs,c.seq (b.seq hq),by rw[r.length];exact aj _⟩⟩;obtain⟨v,f,j⟩:=r.get e;refine⟨⟨vs,v,c.seq (b.seq hq),f⟩,?_⟩;rintro x l ⟨rfl,y⟩;have:=y vs (c.seq (b.seq hq));rw[f]at this;cases this;exact⟨g,Step.refl c,j.mono b⟩
def Hg{lo}:ItG X ad (Itr lo n) G ((pb n).map λ(i:Nat)=>D.int (lo+(i:Int))):=by refine⟨λi f h d g b e=>?_,λf h g b=>by simp[Itr]⟩;rw[jj]at e;rcases q:(pb n)[i]? with _|j;rw[q]at e;cases e;rw[q]at e;obtain⟨hi,c⟩:=ay.mp q;rw[jq]at hi;rw[List.getElem_range]at c;subst c;cases e;refine⟨hi,?_⟩;rintro x l ⟨rfl,rfl⟩;exact⟨f,Step.refl b,bU⟩
def oN{tg a}{f}(ha:ME X ad a f):MIG X ad tg a f:=by
 rintro L s z H W I ⟨G,M,E,S,N,O,x⟩;have C: ∀(d:D) (B:L1 D),mZ d=pi B->(∀J G' H',Step G H G' H'->ItG X ad J G' B->W J H')->∀u i v g h,Inv X L z g i->bH v u->Step G H h g->Rep X.K ad h d v->X.wp (pyIter u) (PIE X L z tg W) X.xe i:=by
  intro d B e Q u i v g h t y r q;cases d<;>try (cases e;done)
  cases e;unfold Rep at q;obtain⟨p,Z,rfl,T,U⟩:=q;cases (show u=qe p from y);obtain⟨ab,rv,pt,hz⟩:=t.list (r.gh.seq T);refine wpAny_pyIter_list pt.isList ?_;refine⟨i.z,[i.z],_,_,g,rfl,t.kept (t':=i.toks) λb o e=>ae _ e,pT p _,⟨_,af _ rfl,rfl,rfl⟩,λb hb=>?_,Q _ h g r (Hf T U)⟩;have e:b=i.z:=by simpa using hb
  subst e;exact t.fpOk (aj _) (t.hok.fresh (aj _))
 rcases e:f M with d|l|c|_;rw[e]at x;obtain⟨B,Y,Q⟩:=x;exact L2.thn (ha L s z H (λv g=>∃h,Step G H h g/\Rep X.K ad h d v) I ⟨G,M,E,S,N,O,by rw[e];exact λv h g r q=>⟨h,r,q⟩⟩) λu i j=>by obtain⟨v,g,t,y,h,r,q⟩:=j;exact C d B Y Q u i v g h t y r q
 rw[e]at x;exact L2.thn (ha L s z H (λv g=>∃h,Step G H h g/\Rep X.K ad h (.lst l) v) I ⟨G,M,E,S,N,O,by rw[e];exact λp Z h g r n m e' q=>dW r n m e' q⟩) λu i j=>by obtain⟨v,g,t,y,h,r,q⟩:=j;exact C (.lst l) l rfl x u i v g h t y r q
 rw[e]at x;exact L2.thn (ha L s z H (λv g=>False) I ⟨G,M,E,S,N,O,by rw[e];exact x⟩) λu i j=>by obtain⟨v,g,t,y,q⟩:=j;exact q.elim
 rw[e]at x;exact ba x
def AA{tg a}{f}(hg:L2.Gl X "range")(hm:X.mg "range"=qr)(ha:ME X ad a f)(hs:starEach [a] X.env=(qu,eval a X.env)::starEach [] X.env):MIG X ad tg (.Call (.Name "range" p) [a] [] pos) (eW f):=by
 rintro z s n H W I ⟨G,m,E,y,q,t,b⟩;refine pU (ta:=sV (tE X ad f) JC) hg hm (cG ha dR hs) hs z s n H W I ?_;show tE X ad f n H λv h=>∃j:Int,[v]=[.int j]/\ -(2^62)<=j/\j<2^62/\W (Itr 0 j.toNat) h;refine⟨G,m,E,y,q,t,?_⟩;unfold eW at b;rcases e:f m with d|l|c|_;rw[e]at b;cases d<;>try exact ba b
 rename_i i;have g:IGK X ad G H (if -100000<=i/\i<=100000 then .ok (.lst (x8 i.toNat))else .bad) W E:=b;by_cases o: -100000<=i/\i<=100000;rw[if_pos o]at g;obtain⟨A,e,u⟩:=g;cases e;intro v x h w r;unfold Rep at r;subst r;refine⟨i,rfl,by lia,by lia,u _ x h w ?_⟩;rw[Ay];exact Hg;rw[if_neg o]at g;exact g.elim;rw[e]at b;exact ba b;rw[e]at b;exact b;rw[e]at b;exact b
end
def gIs:L1 Nat->TGs
 |[]=>NZ
 |i::is=>F4 (kZ i) (gIs is)
noncomputable def Dc:L1 Nat->L1 V->St->St
 |i::is,v::vs,σ=>Dc is vs (σ.set i (pi v))
 |_,_,σ=>σ
theorem AB: ∀{is} {vs} {σ} {H} {Q:St->Hp->Prop},vs.length=is.length->Q (Dc is vs σ) H->gIs is vs σ H Q
 |[],[],_,_,_,_,h=>⟨rfl,h⟩
 |i::is,v::vs,σ,H,Q,e,h=>⟨v,vs,rfl,AB (is:=is) (vs:=vs) (by simpa using e) h⟩
 |[],_::_,_,_,_,e,_=>by simp at e
 |_::_,[],_,_,_,e,_=>by simp at e
def gTs(K:nq)(k:Nat)(is:L1 Nat):TG:=match k,is with
 |0,[i]=>kZ i
 |k,is=>Kc K is.length (gIs is)
def NB(X:Cx)(x:Str)(i:Nat):Prop:=X.N[i]? =pi x/\Loc X.env.scope x/\(X.fn x=qt\/X.env.scope.names.lookup x=pi .local)
inductive NmsOk(X:Cx):List Str->List Nat->Prop
 |nil:NmsOk X [] []
 |cons {x:Str} {i:Nat} {xs:List Str} {is:List Nat}:NB X x i->NmsOk X xs is->NmsOk X (x::xs) (i::is)
section
variable{X:Cx}{ad:Ad}{Z:(St->Nat->Hp->Prop)->Prop}{σ:St}{H G G₀:Hp}{ρ:Rho}{D':Ends}{E:St->Nat->Hp->Prop}{e tg:Expr}{f:F}{g h:FS}
theorem NmsOk.len: ∀{xs} {is},NmsOk X xs is->is.length=xs.length
 |_,_,.nil=>rfl
 |_,_,.cons _ h=>by simp[NmsOk.len h]
theorem AC(hN:X.N.Nodup): ∀{es} {xs} {is},eL (λe=>match e with|.Name x _=>pi x|_=>qr) es=pi xs->NmsOk X xs is->PGs X es (gIs is)
 |[],xs,is,e,h=>by
  cases e;cases h;exact y8
 |a::es,xs,is,e,h=>by
  unfold eL at e;cases a<;>try (cases e)
  rename_i x g;simp only at e;obtain⟨r,c,f⟩:=zMd e;subst f;cases h with
  |cons b d=>exact vC (k8 hN b.1 b.2.1 b.2.2) (AC hN c d) rfl
theorem jY: ∀{es} {xs},eL (λe=>match e with|.Name x _=>pi x|_=>qr) es=pi xs->(assignEach es X.env).length=xs.length/\(assignEach es X.env).findIdx? (·.1)=qr
 |[],xs,e=>by cases e;exact⟨rfl,rfl⟩
 |a::es,xs,e=>by
  unfold eL at e;cases a<;>try (cases e)
  rename_i x b;simp only at e;obtain⟨r,c,f⟩:=zMd e;subst f;obtain⟨d,g⟩:=jY c;have q:assignEach (.Name x b::es) X.env=(qu,assign (.Name x b) X.env)::assignEach es X.env:=rfl;rw[q];refine⟨by simp[d],?_⟩;rw[i0];simp[g]
def Lk(hc:X.calm=qt)(hN:X.N.Nodup)(e:bT tg=pi (xs,k))(h:NmsOk X xs is):PG X tg (gTs X.K k is)/\(k=0/\is.length=1\/k≠0/\k=is.length):=by
 cases tg<;>try (cases e)
 rename_i x g;cases h with
 |cons c l=>
  cases l;exact⟨k8 hN c.1 c.2.1 c.2.2,.inl ⟨rfl,rfl⟩⟩
 rename_i q j g;unfold bT at e;obtain⟨m,d,b⟩:=zBd e;by_cases f:2<=m.length;rw[if_pos f]at b;cases b;obtain⟨q1,o⟩:=jY (X:=X) d;have hk:=h.len;refine⟨?_,.inr ⟨by lia,hk.symm⟩⟩;have P:=Ez (pos:=g) (k:=j) (n:=is.length) hc (AC hN d h) (by rw[q1,hk]) o;have:gTs X.K xs.length is=Kc X.K is.length (gIs is):=by
  unfold gTs;rcases is with _|⟨i,is⟩;simp at hk;lia;rcases p:xs.length with _|n;lia;rfl
 rw[this];exact P;rw[if_neg f]at b;cases b
theorem SS.setN: ∀{is} {ds} {vs} {ρ} {σ},SS X ad G₀ G H ρ σ->aI X.K ad G ds vs->SS X ad G₀ G H (SK.setN is ds ρ) (Dc is vs σ)
 |[],ds,vs,ρ,σ,S,r=>by
  have b:SK.setN [] ds ρ=ρ:=by cases ds<;>rfl
  have f:Dc [] vs σ=σ:=by cases vs<;>rfl
  rw[b,f];exact S
 |i::is,[],vs,ρ,σ,S,r=>by
  unfold aI at r;subst r;exact S
 |i::is,d::ds,vs,ρ,σ,S,r=>by
  unfold aI at r;obtain⟨v,e,rfl,g,c⟩:=r;exact SS.setN (is:=is) (ds:=ds) (vs:=e) (ρ:=ρ.set i (.sh d)) (σ:=σ.set i (pi v)) (S.set g) c
def E6{Q:St->Hp->Prop}(hk:k=0/\is.length=1\/k≠0/\k=is.length)(e:m7 is (k==0) d ρ=pi ρ1)(S:SS X ad G₀ G H ρ σ)(r:Rep X.K ad G d v)(q: ∀σ1,SS X ad G₀ G H ρ1 σ1->Q σ1 H):gTs X.K k is v σ H Q:=by
 rcases hk with ⟨rfl,c⟩|⟨c,p⟩;obtain⟨i,rfl⟩:=fy.mp c;cases e;exact q _ (S.set r);have j:(k==0)=qu:=by simpa using c
 rw[j]at e;have n:m7 is qu d ρ=match(generalizing:=false) d with|.tup f=>if f.length=is.length then pi (SK.setN is f ρ)else qr|_=>qr:=by
  rcases is with _|⟨_,_⟩;rfl;rfl
 have b:=n.symm.trans e;have l:gTs X.K k is=Kc X.K is.length (gIs is):=by
  unfold gTs;rcases k with _|k;exact absurd rfl c;rfl
 rw[l];cases d<;>try (cases b)
 rename_i f;simp only at b;by_cases g:f.length=is.length;rw[if_pos g]at b;cases b;unfold Rep at r;obtain⟨a,m,rfl,o,h⟩:=r;exact⟨a,m,rfl,S.st.gh.seqT o,by rw[h.length,g],AB (by rw[h.length,g]) (q _ (S.setN h))⟩;rw[if_neg g]at b;cases b
def Hh{α:Type}{ds:L1 α}{d}(e:ds[i]? =pi d):ds.drop i=d::ds.drop (i+1):=by obtain⟨h,rfl⟩:=ay.mp e;exact dz h
def v9{J}{G' H'}{ds}{k}{is}(hk:k=0/\is.length=1\/k≠0/\k=is.length)(S:SS X ad G₀ G' H' ρ σ)(hx:XA X ad Z E)(it:ItG X ad J G' ds)(hr:OKo X ad G₀ (eK (m7 is (k==0)) g ds ρ) D' E):
  ∃W:Nat->Nat->St->Hp->Prop,(∃m,W 0 m σ H')/\∀i m σ H,W i m σ H->
   (J.stop i H/\D'.nx σ H)\/(J.go i H/\∃N:St->Hp->Prop,(∀σ' H',N σ' H'->∃m',m'<m/\W (i+1) m' σ' H')/\∀x H',J.yld i H x H'->gTs X.K k is x σ H' λσ2 H2=>tS X ad Z g {D' with nx:=N,ct:=N,bk:=D'.nx} σ2 H2):=by
 refine⟨λi m σ H=>m=ds.length-i/\i<=ds.length/\∃G ρ,SS X ad G₀ G H ρ σ/\Same G' G/\OKo X ad G₀ (eK (m7 is (k==0)) g (ds.drop i) ρ) D' E,⟨_,rfl,bu _,G',ρ,S,Same.refl _,hr⟩,?_⟩;rintro i m s z ⟨rfl,hi,A,B,o,p,f⟩;rcases q:ds[i]? with _|d;have U:ds.length<=i:=List.getElem?_eq_none_iff.mp q;have:i=ds.length:=by lia
 subst this;refine .inl ⟨it.stop A z p o.st.gh,?_⟩;rw[kh]at f;exact f s A z o;have w:i<ds.length:=(ay.mp q).1;obtain⟨go,M⟩:=it.go i A z d p o.st.gh q;refine .inr ⟨go,λσ' H'=>∃G ρ,SS X ad G₀ G H' ρ σ'/\Same G' G/\OKo X ad G₀ (eK (m7 is (k==0)) g (ds.drop (i+1)) ρ) D' E,λσ' H' u=>by obtain⟨I,v,Q,sa,L⟩:=u;exact⟨_,by lia,rfl,w,I,v,Q,sa,L⟩,λx H2 y=>?_⟩;obtain⟨C,st,O⟩:=M x H2 y;rw[Hh q]at f;unfold eK at f;rcases t:m7 is (k==0) d B with _|b;rw[t]at f;exact f.elim;rw[t]at f;have T:=o.step st;refine E6 hk t T O λσ2 l=>?_;refine⟨C,C,b,E,l.here,hx,?_⟩;have e:OKo X ad G₀ (match g b with
  |.nx b=>eK (m7 is (k==0)) g (ds.drop (i+1)) b
  |.ct b=>eK (m7 is (k==0)) g (ds.drop (i+1)) b
  |.bk b=>.nx b
  |.rt r=>.rt r
  |.ex c b=>.ex c b) D' E:=f
 rcases n:g b with h|r|h|h|⟨c,h⟩;rw[n]at e;exact λσ G H j=>⟨G,h,j.up l.st,(p.trans st.sg).trans j.st.sg,e⟩;rw[n]at e;have:=e.rebase l.st;cases r<;>exact this;rw[n]at e;exact λσ G H j=>e σ G H (j.up l.st);rw[n]at e;exact λσ G H j=>⟨G,h,j.up l.st,(p.trans st.sg).trans j.st.sg,e⟩;rw[n]at e;exact λσ G H j=>e σ G H (j.up l.st)
def AD(hp:PassesOwn (model X.prog X.w) X.A X.env X.xe)(hc:X.calm=qt)(hN:X.N.Nodup)(hi:MIG X ad tg it f)(ht:bT tg=pi (xs,k))(hn:NmsOk X xs is)(hb:Hb X Δ ad Z body g)(hs: ∀x,foldedSetIterable it X.env x=pure x):LMS X Δ ad Z (.For tg it body [] pos) (vM is (k==0) f g):=by obtain⟨r,hk⟩:=Lk hc hN ht hn;refine LPS.imp (GT hp hc hi r hb hs) ?_;rintro u n H ⟨i,G,j,E,S,l,b⟩;refine⟨G,j,E n,S.st.gh,S.sl,l.1 n,?_⟩;unfold vM fC at b;rcases e:f j with d|xs|c|_;rw[e]at b;have h:OKo X ad i (match mZ d with|some o=>eK (m7 is (k==0)) g o j|none=>.rt .bad) u E:=b;rcases m:mZ d with _|o;rw[m]at h;exact h.elim;rw[m]at h;exact⟨o,m,λJ q p st it=>v9 hk (S.step st) l it h⟩;rw[e]at b;exact λJ q p st it=>v9 hk (S.step st) l it b;rw[e]at b;exact λt s st=>b n t s (S.step st);rw[e]at b;exact b
def E7(hp:PassesOwn (model X.prog X.w) X.A X.env X.xe)(hc:X.calm=qt)(hN:X.N.Nodup)(hi:MIG X ad tg it f)(ht:bT tg=pi (xs,k))(hn:NmsOk X xs is)(hb:MSs X ad Z body g)(hs: ∀x,foldedSetIterable it X.env x=pure x):MS X ad Z (.For tg it body [] pos) (vM is (k==0) f g):=La (AD hp hc hN hi ht hn (gK hb) hs)
def Ll{st}:MS X ad Z st Nx:=λ_ _ _ _ _ _ b=>by obtain⟨_,_,_,_,_,_,c⟩:=b;exact ba c
end
section
variable{X:Cx}{ad:Ad}{s3:Shared}{σ σ2:St}{H3:Hp}{pos pos' cpos:Pos}{elt it tg:Expr}{ifs:L1 Expr}{fi fe:F}{fc:L7 F}{sc:Scope}{k:Nat}{cs:L1 Nat}{xs:L1 Str}
def tV(I3:Inv X ce σ H3 s3)(I2:Inv X ce σ2 H' s2)(hf:H' s3.z=qr)(sb:n5 s3.z s2.heap h'):Inv X ce σ2 H' {s2 with heap:=h'}:=by refine I2.turned (t':=s2.toks) (it:=s3.z) (λb o g e=>(sb.2 b g).trans e) hf ?_ (.inr I3.sz) (λx c h z=>?_) λp f z=>?_;intro z;obtain⟨m,i,_⟩:=I3.loc;obtain⟨o,_,_,d,_⟩:=i;exact absurd (ah d) (by rw[<-z];exact mq _);obtain⟨v,o,d,_⟩:=I3.cell x c h;exact absurd (ah d) (by rw[z];exact mq _);obtain⟨d,_⟩:=I3.pin p f;exact absurd (ah d) (by rw[z];exact mq _)
def Dd(n:h.Ns C m)(sb:n5 a h h')(ne:C≠a):h'.Ns C m:=by obtain⟨o,d,c,b,r⟩:=n;exact⟨o,d,c,(sb.2 C ne).trans b,r⟩
def Hi{C}{i}{x}(hN:X.N.Nodup)(hi:NB X x i)(hc:X.calm=qt)(S:CompSc X C sc xs cs)(hit:MI X ad tg it fi)(hset: ∀a b c,it≠ .Set a b c)(hxs:xs.length=if k=0 then 1 else k)
  (hg: ∀fp s3 H3 pins',PG (cX X (xs++aN sc) sc s3 H3 fp pins') tg (gTg X.K k)) (hts: ∀fp s3 H3 pins',MTs (cX X (xs++aN sc) sc s3 H3 fp pins') ad ifs fc) (he: ∀fp s3 H3 pins',ME (cX X (xs++aN sc) sc s3 H3 fp pins') ad elt fe)
  (hs:swapsWith (.ListComp elt [⟨tg,it,ifs,0⟩] sc cpos) (pi (.Name x pos')) pos.line X.env=pure qt):
  PS X (.Assign [.Name x pos'] (.ListComp elt [⟨tg,it,ifs,0⟩] sc cpos) pos) (JB (tE X ad (aY k cs fi fc fe)) (kZ i)):=by
 rintro ce s w H D' I ⟨G,Z,E,hG,hS,l,hr⟩;rw[exec_Assign_Name_used _ _ _ _ hs]
 have O:closureFor sc X.env=pure (lS X.env.cells sc.names []):=jV λx l=>by
  obtain⟨c,h⟩:=I.ok.has x (S.fre x l);rw[h];rfl
 refine aa (wpAny_standAt (aa ?_));show wpAny _ X.A (do let _<-comprehension (.ListComp elt [⟨tg,it,ifs,0⟩] sc cpos) sc X.env _ (newList []) qu (eval it X.env) (pi (assign (.Name x pos') X.env))) _ _ s
 refine aa (wpAny_mono (wpAny_comprehension_free (use:=pi (assign (.Name x pos') X.env)) (Q:=λ_ M=>SP X ce D' .next M) rfl (Aw hset) O S.kind S.names ?_) (λ_ M hq=>ac (ac hq)) λ_ _ e=>e)
 refine L2.thn (hit ce s w H _ I ⟨G,Z,E,hG,hS,l,Lf (W:=λJ j=>∃f g all,Step G H f j/\ItH X ad J f j g/\bE (dJ k (jP cs Z) fc fe) g=pi all/\RK X.K ad f j (.ow all) (λv H1=>kZ i v w H1 D'.nx) E) hr λJ f j g all a b c d=>⟨f,g,all,a,b,c,d⟩⟩) λv s1 h1=>
  L2.thn h1 λag s2 Y=>?_
 obtain⟨ab,fp,tn,J,j,e,I2,T,st2,f2,f,g,all,sp,hit,t,u⟩:=Y;subst e;obtain⟨σc,l1,l2,l3⟩:=nF (xs:=xs) (sc:=sc) (nt:=if k=0 then 1 else k) hxs S.N S.cs (λx h=>qZ h) (hS.step sp) I2.len
 refine qY (σc:=σc) (L:=[]) (ce:=ce) hc v5 Ap I2 T st2 f2 hit t sp.gh S.kind S.cell S.fre S.frl l1 l2 rfl l3 (hg _) (hts _) (λs3 H3 pins'=>Ao (he _ s3 H3 pins')) λL' s3 M H3 H' G' D vs T' B J' ⟨m,n⟩ J4 q hD gD p r'=>?_
 have I4:=J4 _ ⟨rfl,λ_ _=>rfl⟩
 cases T'.tb
 show wpAny _ X.A (assign (.Name x pos') X.env (.ref D)) _ _ _;refine wpAny_assign_Name (pR I4 hN hi.1 hi.2.1 (v:=.ref D) rfl (λak I5 ⟨a,sb,U⟩=>?_) hi.2.2)
 have ne:s3.z≠a:=by
  rcases U with rfl|U
  .intro z;obtain⟨m',hn,_⟩:=B.loc;obtain⟨o,_,_,y,_⟩:=hn;exact absurd (ah y) (by rw[<-z];exact mq _)
  .intro z;obtain⟨v,o,y,_⟩:=B.cell x a U;exact absurd (ah y) (by rw[<-z];exact mq _)
 refine⟨m,Dd n sb ne,λh' r=>?_⟩
 exact⟨w.set i (pi (.ref D)),H',tV B I5 J' r,u D vs G' H' q hD gD p r'⟩
end
open PySem.Calls Builtin Builtin.ObjectAttr Builtin.Getset_descriptor
section
variable{E:cf}{K:Frag}{R:Result->Shared->Prop}
def oG.ty(I:oG h x C):Looks M h (typeOf (.ref x)) (.ref C):=by obtain⟨o,d,b,c,e⟩:=I;exact c▸(Looks.ld b).andThen .now
def Hj(X:K.In s.heap)(I:oG s.heap x C)(hm:mroIn K C (.type "object")=pi qt)(h:R (.ok (.ret (.ref C))) s):
  codeAny (model prog w) A (.call (.builtin "getset_descriptor.__get__") ⟨[.builtin "object.__class__",.ref x,tp],[]⟩) R s:=by
 obtain⟨c,g,dr,t,d⟩:=s;have b:=I.ty (M:=model prog w);have e:=looks_mroIn (M:=model prog w) X hm;refine codeAny_call_builtin KF.slot_gs.plain KF.entry_gs (KF.slot_gs.check _ _ _ _ _ _ _ _ KF.type_class (KF.args_gs _ _ _) ?_);unfold Builtin.«getset_descriptor.__get__» descrGet;rw[dga_obj];refine aa (ac ?_);unfold descrGetter descrCheckInstance descrNameAndClass isInstance;simp only[KF.owner_class];repeat lk
 refine⟨Code.quiet_builtin _ (by decide+kernel),codeAny_builtin KF.entry_class ?_⟩;unfold Builtin.«object.__class__» shownTypeOf;repeat lk
 exact h
def AE(X:K.In s.heap)(I:oG s.heap x C)(hm:mroIn K C (.type "BaseException")=pi qt)(hq:Q () s):wpAny M A (checkBuiltinCall "BaseException.__getattribute__" ⟨[.ref x,nameV],[]⟩) Q E s:=by
 obtain⟨e,g,dr,t,f⟩:=s;have hk:builtinKind "BaseException.__getattribute__"=pi .slot:=by decide+kernel
 have b:splitId "BaseException.__getattribute__"=pi ("BaseException","__getattribute__"):=by decide+kernel
 have c:=I.ty (M:=M);have d:=looks_mroIn (M:=M) X hm;have h:=F.args_bexc_ga (.ref x) nameV;simp only[checkBuiltinCall,hk,b];refine aa ?_;unfold isInstance;refine aa (c.at (d.at ?_));repeat (any_goals (first|assumption|wp_step))
def AF(X:K.In s.heap)(I:oG s.heap x C)(hm:mroIn K C (.type "object")=pi qt)(ha:findIn K (.ref C) "__class__"=pi (pi (.builtin "object.__class__")))(hq:Q (.done (.ret (.ref C))) s):
  wpAny (model prog w) A (Builtin.«object.__getattribute__» ⟨[.ref x,.str "__class__" tk],[]⟩) Q E s:=by
 obtain⟨h,g,d,t,e⟩:=s;have c:(⟨h,g,d,t,e⟩:Shared).TypeIs (.builtin "object.__class__") "getset_descriptor":=F.typeOf_object_class;have m:=F.typeOf_object_class;have p:=F.slot_gs_get.lookup;have j:=F.slot_gs_set.lookup;have q:=I.ty (M:=model prog w);have i:=looks_findIn (M:=model prog w) X ha;obtain⟨o,l,f,b,n⟩:=id I;repeat (any_goals (first|assumption|(with_reducible refine wpAny_loadPart_at f ?_;rw[b])|with_reducible refine i.at ?_|wp_step))
 refine Hj X I hm ?_;repeat (any_goals (first|assumption|wp_step))
def AG(X:K.In s.heap)(I:oG s.heap x C)(hm:mroIn K C (.type "object")=pi qt)(hb:mroIn K C (.type "BaseException")=pi qt)(ha:findIn K (.ref C) "__class__"=pi (pi (.builtin "object.__class__")))(hg:findIn K (.ref C) "__getattribute__"=pi (pi (.builtin "BaseException.__getattribute__")))(hn:findIn K (.ref C) "__getattr__"=pi qr)(h:Q (pi (.ref C)) {s with toks:=s.toks+1}):
  wpAny (model prog w) A (getAttr? (.ref x) "__class__") Q E s:=by
 obtain⟨q,g,d,t,m⟩:=s;have r:=I.ty (M:=model prog w);have j:=looks_findIn (M:=model prog w) X hg;have i:=looks_findIn (M:=model prog w) X hn;have l:=PySem.F.excAttr_ValueError.ga.bind (.ref x);have b:(nh "BaseException.__getattribute__"==nh "object.__getattribute__")=qu:=by decide+kernel
 have c:(onTheHeap (qe C)&&nh "BaseException.__getattribute__"==nh "object.__getattribute__")=qu:=by rw[b];rfl
 obtain⟨o,n,f,e,p⟩:=id I;unfold getAttr? getAttrBy? getAttrBy;repeat (any_goals (first|assumption|(with_reducible refine wpAny_loadPart_at f ?_;rw[e])|with_reducible refine j.at ?_|with_reducible refine i.at ?_|wp_step))
 refine codeAny_call_builtin PySem.F.excAttr_ValueError.ga.plain F.entry_bexc_ga (AE X I hb (AF X I hm ha ?_));repeat (any_goals (first|assumption|wp_step))
end
def _root_.L2.ObjOk.there(x:ObjOk P w H h a o): ∃ob,h.get? a=pi ob:=by rcases o with b|b|kvs|kvs|⟨S,n⟩|⟨C,c,fs⟩|y|fs|⟨f,y⟩|⟨lo,hi⟩|⟨ob,u⟩|g|d;obtain⟨_,_,_,_,e⟩:=x;exact⟨_,e⟩;obtain⟨_,_,_,⟨ob,e,_⟩,_⟩:=x;exact⟨_,e⟩;obtain⟨_,_,_,_,o,_,_,e,_⟩:=x;exact⟨_,e⟩;obtain⟨_,_,_,_,o,_,_,e,_⟩:=x;exact⟨_,e⟩;obtain⟨o,_,_,_,e,_⟩:=x;exact⟨_,e⟩;obtain⟨_,_,_,e,_⟩:=x;exact⟨_,e⟩;exact x;obtain⟨_,⟨_,_,_,e,_⟩,_⟩:=x;exact⟨_,e⟩;exact⟨_,(show h.get? a=pi _ from x)⟩;obtain⟨_,_,_,e⟩:=x;exact⟨_,e⟩;obtain⟨e,_⟩:=x;exact⟨_,e⟩;exact⟨_,(show h.get? a=pi _ from x)⟩;obtain⟨_,e,_⟩:=x;exact e
section
variable{X:Cx}{ad:Ad}{σ:St}{E₀:XK}
structure DefX(X:Cx)(E₀:XK):Prop where
 ex:X.ex=[]
 stk:X.stack=X.env::X.outer
 fr:X.env.frame=pi X.env.locals
 xe: ∀e s',X.wp (leaving X.env e) (λ_ s''=>CXe X.prog X.w X.outer X.H₀ X.s₀ E₀ e s'') (λe' s''=>CXe X.prog X.w X.outer X.H₀ X.s₀ E₀ e' s'') s'->X.xe e s'
def wB(J:Inv X ce σ H s)(e:X.s₀.heap.get? b=pi o):b≠X.env.locals:=λz=>by
 have:=ah e;rw[z]at this;exact absurd (bg this J.ok.above) (mq _)
def AH(J:Inv X ce σ H s)(e:X.s₀.heap.get? b=pi o)(nf:b∉X.fs):b∉frs X.stack:=λz=>by
 rcases av.mp (J.stkSub b z)with q|q;exact wB J e q;exact nf q
def E8(T:DefX X E₀)(J:Inv X ce σ H' s)(fly:Heap.FlyingW B X.outer ea cls a0 h')(ff:s.heap.FunFrames B X.stack)(stays:B.StaysIn s.heap)(up:s.heap.UpToSlots h')(c8: ∀b o,X.s₀.heap.get? b=pi o->b∉X.fs->∃o',B.get? b=pi o')(c9: ∀b o,H' b=pi o->∃o',B.get? b=pi o')(ne:H' ea=qr)(q:E₀ cls qr H'):
  CXe X.prog X.w X.outer X.H₀ X.s₀ E₀ (.ref ea) {s with heap:=h'}:=by
 have nx: ∀b,b∉X.ex:=λb=>by rw[T.ex];simp
 have st2:B.StaysIn h':=fly.1;have f: ∀b o,s.heap.get? b=pi o->(∃o',B.get? b=pi o')->h'.get? b=pi o:=λb o e ⟨o',p⟩=>by
  have:=stays b o' p;rw[e]at this;cases this;exact st2 b o p
 have d: ∀b∈X.fs, ∀o,s.heap.get? b=pi o->∃m,h'.get? b=pi {o with slots:=m}:=λb r o e=>by
  obtain⟨_,u,i,t⟩:=ff.mem (b:=b) (by rw[T.stk];show b∈frs (X.env::X.outer);unfold frs;rw[ic,T.fr];exact gw _ r);rw[e]at i;cases i;exact up b o e t
 refine⟨ea,cls,a0,H',B,rfl,J.os,J.bare,fly,⟨λb o e n g _=>?_,λb o e n g _=>?_,λb o e n _=>?_,λb o e _=>?_,J.base.tups,J.base.frzs,J.base.tbls⟩,λb o e=>?_,ne,c8,c9,q⟩;exact f b o (J.base.keep b o e n g (nx b)) (c8 b o e g);obtain⟨m,h⟩:=J.base.slot b o e n g (nx b);obtain⟨j,i⟩:=d b g _ h;exact⟨j,i⟩;exact J.base.free b o e n (nx b);obtain⟨o',h⟩:=J.base.there b o e (nx b);by_cases g:b∈X.fs;obtain⟨m,i⟩:=d b g _ h;exact⟨_,i⟩;exact⟨o',f b o' h (c8 b o e g)⟩;refine(J.hok b o e).stay (λc v l h=>?_) (λ_ z=>z) λ_ _ z=>z;rcases l with rfl|l;exact f c v h (c9 c o e);exact f c v h (c9 c _ l)
def lW(T:DefX X E₀):XP X ad σ (λc H'=>E₀ (.ref (ad.cls c)) qr H'):=by
 intro v H s e x I t;obtain⟨C,cls,y,H',B,rfl,r,l,d,un,h,j,u,n,c,rfl,q⟩:=t;have J:Inv X v σ H' x:=I.call' (ch:=[]) r un h l λb i=>by simp at i
 refine T.xe _ _ ?_;have g:X.A.frames=pi (X.env::X.outer):=by rw[<-T.stk];exact I.ok.frames
 rw[T.stk]at d;refine wpAny_leaves_onW g T.fr d λz f up=>?_;refine E8 T J f (by rw[T.stk];exact d.2.2.1) d.1 up (λb o e w=>?_) n j q;obtain⟨p,m⟩:=I.base.there b o e (by rw[T.ex];simp);exact u b p m (AH I e w)
def wC(T:DefX X E₀)(hc:X.calm=qt)(hg:L2.Gl X x)(hm:X.mg x=pi (.ref C))(hd:(x==gV)=qu)(hi:excIn X.K C [.type "ValueError",.type "Exception",.type "BaseException",.type "object"] "ValueError.__new__"=qt)(I:Inv X ce σ H s)(q:E₀ (.ref C) qr H):X.wp (exec (.Raise (pi (.Call (.Name x np) [.Constant (.str msg) j kp] [] cpos)) qr pos) X.env) (SP X ce D') X.xe s:=by
 have r: ∀c:Heap,X.K.In c->∃bm N nm q bs hdct sn sub ab col dd k0 k1 k2 k3 k5 mN,c.get? C=pi (excClassObj nm q C N bs bm hdct sn sub ab col dd k0 k1 k2 k3 k5 "ValueError.__new__")/\c.Ns N mN/\mN "__init__"=qr/\OwnTail c [.type "ValueError",.type "Exception",.type "BaseException",.type "object"] bm:=by
  intro c Z;have q:=hi;unfold excIn at q;split at q
  .rename_i dd cd L ho;split at q
   .rename_i C' bm k0 k1 k2 k3 n k5 hm S;simp only[aw,beq_iff_eq,js]at q;obtain⟨⟨⟨⟨⟨rfl,rfl⟩,g⟩,ht⟩,hok⟩,f⟩:=q;obtain⟨nm,bs,ad,W,B,hd,sn,sub,ab,col,ag⟩:=cd
    dsimp only at hm g hok f
    subst hm g
    have y:L= #[k0,k1,k2,k3,pi (.builtin "ValueError.__new__"),k5]:=by
     obtain⟨l⟩:=L
     simp only at S
     rw[S]
    subst y;exact⟨bm,W,nm,B,bs,hd,sn,sub,ab,col,dd,k0,k1,k2,k3,k5,_,Z _ _ ho,.of_isNs (isNs_of_in Z hok),nsMap_none_of_in Z hok f,tail_of_in Z ht⟩
   .cases q
  .cases q
 obtain⟨bm,N,nm,B,bs,hdct,sn,sub,ab,col,dd,k0,k1,k2,k3,k5,mN,hC,Y,f,G⟩:=r X.base I.ok.mod.kin
 refine wpAny_Raise_call_subT (C:=C) (nm:=nm) (q:=B) (N:=N) (bs:=bs) (bm:=bm) (hdct:=hdct) (sn:=sn) (sub:=sub) (ab:=ab) (col:=col) (dd:=dd) (k0:=k0) (k1:=k1) (k2:=k2) (k3:=k3) (k5:=k5)
  PySem.F.excBase_ValueError (mN:=mN) (G.hasType PySem.F.excBase_ValueError.hasBase) (I.ok.hd hc) rfl f (eJ I hg hm ⟨rfl,?_⟩ hd)
 refine gz (ix (Calls.Constant_str (k:=j) (pos:=kp) (ji ⟨rfl,(show 1<=sizeLine from by decide),?_,?_,?_,λQ e M=>?_⟩)))
 .exact I.bk _ _ hC
 .exact Y.keeps I.bk
 .exact G.keeps I.bk
 .
  have I1:Inv X ce σ H {s with toks:=s.toks+1}:=I.tok _
  have J:Inv X ce σ H {s with heap:=Q,toks:=s.toks+1}:=I.kept (t':=s.toks+1) M.keeps
  refine T.xe _ _ ?_
  have u:X.A.frames=pi (X.env::X.outer):=by rw[<-T.stk];exact I.ok.frames
  have U:s.heap.FunFrames (hideAll s.heap (frs X.stack)) X.stack:=funFrames_hide I.stack λenv he a ea=>iw.mpr ⟨env,he,ea⟩
  have O:Q.FunFrames (hideAll s.heap (frs X.stack)) X.stack:=U.of_keeps λb o hb _=>⟨o,M.keeps b o hb,rfl⟩
  have v:(hideAll s.heap (frs X.stack)).StaysIn s.heap:=λb o e=>of_hideAll _ e
  have m:=U;rw[T.stk]at m;have d:(hideAll s.heap (frs (X.env::X.outer))).StaysIn s.heap:=λb o e=>of_hideAll _ e
  refine wpAny_leaves_madeW (h:=s.heap) (base:=hideAll s.heap (frs (X.env::X.outer))) u T.fr d m M λh2 t E _ _ up=>?_
  refine E8 T J E (by rw[T.stk]at O ⊢;exact O) (λb o e=>M.keeps b o (of_hideAll _ e)) up (λb o e hf=>?_) (λb o e=>?_) ?_ q
  .obtain⟨p,i⟩:=I.base.there b o e (by rw[T.ex];simp)
   exact⟨p,hideAll_get _ i (by have:=AH I e hf;rwa [T.stk]at this)⟩
  .obtain⟨p,i⟩:=(I.hok b o e).there
   exact⟨p,hideAll_get _ i λz=>by
    have:=I.stkFree b (by rw[T.stk];exact z)
    rw[this]at e
    cases e⟩
  .cases z:H e with
   |none=>rfl
   |some o=>
    obtain⟨p,i⟩:=(I.hok e o z).there;rw[M.new]at i;cases i
end
section
variable{σ:St}{B:Heap}
def De{E:cf}(I:Inv X ce σ H s)(hN:X.N.Nodup)(hi:X.N[i]? =pi x)(hk:X.env.scope.names.lookup x=pi .local)(hv:σ[i]? =pi (pi v))(h: ∀s',Inv X ce (σ.set i qr) H s'->Q () s'):wpAny M A (unbindName X.env x) Q E s:=by
 obtain⟨m,O,S⟩:=id I.loc;have r:(X.env.scope.kind== .class||(X.env.scope.kind== .module&&X.env.locals != X.env.globals))=qu:=by rw[I.ok.kind];rfl
 have cne:=I.cne;obtain⟨u0,_,W⟩:=S i x v hi hv (.inl hk);have hm:m x=pi u0:=by
  rcases W with ⟨_,e⟩|⟨k,_⟩;exact e;rcases k with k|k;have:X.env.kindOf x=pi .local:=hk;rw[this]at k;cases k;have:X.env.kindOf x=pi .local:=hk;rw[this]at k;cases k
 refine wpAny_unbindName_local hk O hm r λh' u G f=>?_;obtain⟨oL,_,_,T,_⟩:=id O;refine h {s with heap:=h'} ⟨I.ok,I.os,I.bare,⟨λb o e n C l=>?_,λb o e n C l=>?_,I.base.free,λb o e l=>?_,I.base.tups,I.base.frzs,I.base.tbls⟩,⟨_,G,λj y v' g t e3=>?_⟩,λy c e=>?_,I.free,I.freeC,λp Y=>?_,λb ob e=>?_,by simpa using I.len⟩;exact(f.2 b (wB I e)).trans (I.base.keep b o e n C l);obtain⟨Z,g⟩:=I.base.slot b o e n C l;exact⟨Z,(f.2 b (wB I e)).trans g⟩;obtain⟨U,g⟩:=I.base.there b o e l;exact⟨U,(f.2 b (wB I e)).trans g⟩;by_cases B:j=i;subst B;have J:j<σ.length:=(ay.mp hv).1;rw[bj J]at t;cases t;rw[bc (qq B)]at t;obtain⟨u',r',q⟩:=S j y v' g t e3;refine⟨u',r',?_⟩;rcases q with ⟨k,e⟩|⟨k,c,e,z⟩;refine .inl ⟨k,?_⟩;have:y≠x:=λe=>B (nZ hN g (e▸hi));simp[this,e];exact .inr ⟨k,c,e,z.sameBut f (cne y c e)⟩;obtain⟨K,z⟩:=I.cell y c e;exact⟨K,z.sameBut f (cne y c e)⟩;obtain⟨e,n,L,nf,d⟩:=I.pin p Y;exact⟨(f.2 p.1 L).trans e,n,L,nf,d⟩;refine(I.hok b ob e).stay (λc K w q=>(f.2 c ?_).trans q) (λ_ q=>q) λ_ _ q=>q;rintro rfl;rcases w with rfl|w;rw[I.free]at e;cases e;rw[I.free]at w;cases w
def OD(un:Un fs [] H H' h h1)(stays:B.StaysIn h1)(st2:B.StaysIn h2)(up:h1.UpToSlots h2)(nf: ∀b∈fs, ∀o,h1.get? b=pi o->∀vs,o.data≠ .fields vs)(c8: ∀b o,h.get? b=pi o->b∉fs->∃o',B.get? b=pi o'):Un fs [] H H' h h2:=by
 have g: ∀b o,h1.get? b=pi o->(∃o',B.get? b=pi o')->h2.get? b=pi o:=λb o e ⟨o',l⟩=>by
  have:=stays b o' l;rw[e]at this;cases this;exact st2 b o l
 refine⟨λb o e n c f=>g b o (un.keep b o e n c f) (c8 b o e c),λb o e n c f=>?_,un.free,λb o e f=>?_,un.tups,un.frzs,un.tbls⟩;obtain⟨m,d⟩:=un.slot b o e n c f;obtain⟨j,i⟩:=up b _ d (nf b c _ d);exact⟨j,i⟩;obtain⟨o',d⟩:=un.there b o e f;by_cases c:b∈fs;obtain⟨m,i⟩:=up b _ d (nf b c _ d);exact⟨_,i⟩;exact⟨o',g b o' d (c8 b o e c)⟩
def Lm(hok:HOk P w H' h1)(stays:B.StaysIn h1)(st2:B.StaysIn h2)(c9: ∀b o,H' b=pi o->∃o',B.get? b=pi o'):HOk P w H' h2:=by
 have d: ∀b o,h1.get? b=pi o->(∃o',B.get? b=pi o')->h2.get? b=pi o:=λb o e ⟨o',g⟩=>by
  have:=stays b o' g;rw[e]at this;cases this;exact st2 b o g
 intro b o e;refine(hok b o e).stay (λc v f h=>?_) (λ_ z=>z) λ_ _ z=>z;rcases f with rfl|f;exact d c v h (c9 c o e);exact d c v h (c9 c _ f)
def _root_.L2.Inv.track(J:Inv X ce σ H s)(hn:H a=qr)(n0:X.s₀.heap.get? a=qr)(hL:a≠X.env.locals)(hC: ∀x c,X.env.cells.lookup x=pi c->c≠a)(hp: ∀p∈X.pn++ce,p.1≠a)(new:ObjOk X.prog X.w (upd H a o) s.heap a o):Inv X ce σ (upd H a o) s:=by
 refine⟨J.ok,J.os,J.bare,⟨J.base.keep,J.base.slot,λb g e n r=>?_,J.base.there,λb j e=>?_,λb g u e=>?_,λb t e=>?_⟩,J.loc,J.cell,?_,λx c e=>?_,λp i=>?_,λb u e=>?_,J.len⟩;have:b≠a:=λz=>by rw[z,n0]at e;cases e
 rw[aD this];exact J.base.free b g e n r;have f:=J.base.tups b j e;rw[aD (aQ f hn)];exact f;have f:=J.base.frzs b g u e;rw[aD (aQ f hn)];exact f;obtain⟨m,f⟩:=J.base.tbls b t e;exact⟨m,by rw[aD (aQ f hn)];exact f⟩;rw[aD (qq hL)];exact J.free;rw[aD (hC x c e)];exact J.freeC x c e;obtain⟨e,n,l,v,d⟩:=J.pin p i;exact⟨e,by rw[aD (hp p i)];exact n,l,v,d⟩;by_cases h:b=a;subst h;rw[aH]at e;cases e;exact new;rw[aD h]at e;exact(J.hok b u e).stay (λ_ _ _ q=>q) (λc q=>by rw[aD (aQ q hn)];exact q) λc j q=>by rw[aD (aQ q hn)];exact q
end
noncomputable def tX(X:Cx)(ce:cg)(D':Ends)(hd:ExceptHandler):Cx:=
 {X with pn:=X.pn++ce,xe:=λe s₁=>X.wp (noteFrame e X.env) (λ_ s₂=>X.wp (setFlight e qr) (λ_ s₃=>X.wp (handleBy e X.env [hd]) (SP X ce D') X.xe s₃) X.xe s₂) X.xe s₁}
section
variable{X:Cx}{ad:Ad}{σ:St}{H:Hp}
def OE(I:Inv X ce σ H s):Inv (tX X ce D' hd) [] σ H s:=
 ⟨⟨I.ok.mod,I.ok.kind,I.ok.glob,I.ok.blt,I.ok.above,I.ok.inj,I.ok.has,I.ok.cab,I.ok.hd,I.ok.frames,I.ok.stk,I.ok.exf,I.ok.bs,I.ok.bsz,I.ok.noex,I.ok.exfs,I.ok.funs,I.ok.frf⟩,I.os,I.bare,I.base,I.loc,I.cell,I.free,I.freeC,
  λp b=>I.pin p (by have:p∈(X.pn++ce)++[]:=b;rwa [k7]at this),I.hok,I.len⟩
def Ln(I:Inv (tX X ce D' hd) pins' σ H s):Inv X ce σ H s:=
 ⟨⟨I.ok.mod,I.ok.kind,I.ok.glob,I.ok.blt,I.ok.above,I.ok.inj,I.ok.has,I.ok.cab,I.ok.hd,I.ok.frames,I.ok.stk,I.ok.exf,I.ok.bs,I.ok.bsz,I.ok.noex,I.ok.exfs,I.ok.funs,I.ok.frf⟩,I.os,I.bare,I.base,I.loc,I.cell,I.free,I.freeC,
  λp b=>I.pin p (gy _ b),I.hok,I.len⟩
structure Fram(X:Cx):Prop where
 ex:X.ex=[]
 stk:X.stack=X.env::X.outer
 fr:X.env.frame=pi X.env.locals
def Df{E₀}{x}{c}{np cpos pos kp}{msg}{j}(T:DefX X E₀)(hc:X.calm=qt)(hg:L2.Gl X x)(hm:X.mg x=pi (.ref (ad.cls c)))(hd:(x==gV)=qu)(hi:excIn X.K (ad.cls c) [.type "ValueError",.type "Exception",.type "BaseException",.type "object"] "ValueError.__new__"=qt):
  MS X ad (λE=>∀σ c H,E σ c H->E₀ (.ref (ad.cls c)) qr H) (.Raise (pi (.Call (.Name x np) [.Constant (.str msg) j kp] [] cpos)) qr pos) (gI c):=by
 rintro h s σ H g I ⟨d,G,f,E,S,b,e⟩;exact wC T hc hg hm hd hi I (b.2 σ c H (e σ G H S))
end
structure ExcCls(K:Frag)(C:Addr):Prop where
 is:(clsIn K C).isSome=qt
 ob:mroIn K C (.type "object")=pi qt
 be:mroIn K C (.type "BaseException")=pi qt
 ca:findIn K (.ref C) "__class__"=pi (pi (.builtin "object.__class__"))
 ga:findIn K (.ref C) "__getattribute__"=pi (pi (.builtin "BaseException.__getattribute__"))
 gn:findIn K (.ref C) "__getattr__"=pi qr
def Dg{K}(T:ExcCls K C):KitX K (.ref x) (.ref C) (λh=>oG h x C) where
 ty:=λ_ _ _ I=>I.ty;it:=λ_ _ Z _=>by
  obtain⟨f,b⟩:=ef.mp T.is;unfold clsIn at b;split at b;rename_i l m i d g;intro r t p u k q;unfold isType loadHead;exact aa (wpAny_loadPart (k _ _ (Z _ _ g)) (ac q));cases b
 ne:=λh o dd j n s Z c=>by
  obtain⟨f,b⟩:=ef.mp T.is;refine Bool.eq_false_iff.mpr λq=>?_;have e:C=o:=qe.inj (beq_iff_eq.mp q);subst e;unfold clsIn at b;split at b;rename_i l m i d g;have z:=(Z _ _ g).symm.trans c;cases z;cases b
 ca:=λZ I k=>AG Z I T.ob T.be T.ca T.ga T.gn k
noncomputable def tyD(ad:Ad):D->L7 Value
 |.non=>pi (.type "NoneType")
 |.bl _=>pi (.type "bool")
 |.int _=>pi (.type "int")
 |.str _=>pi (.type "str")
 |.tup _=>pi (.type "tuple")
 |.lst _=>pi (.type "list")
 |.exc c=>pi (.ref (ad.cls c))
 |.fn _=>qr
 |.dct _ _=>qr
def OF(X:Cx)(ad:Ad)(cv:Value)(p:D->L7 Bool):Prop:= ∀d b,p d=pi b->∃t,tyD ad d=pi t/\kitOne X.K t cv=pi b
section
variable{X:Cx}{ad:Ad}{σ:St}
def AI{Q:cf}{Ex:cf}(hx: ∀c,ExcCls X.K (ad.cls c))(I:Inv X ce σ H s)(hG:Same G H)(q:Rep X.K ad G d v)(r:bH v u)(ht:tyD ad d=pi t)(e:kitOne X.K t cv=pi b)(h: ∀tk,Q (.bool b) {s with toks:=tk}):wpAny (model X.prog X.w) A (call (.builtin "isinstance") [u,cv]) Q Ex s:=by rcases d with _|k|k|k|m|m|c|k|⟨_,_⟩;unfold Rep at q;subst q;cases (show u=pc from r);cases ht;exact kia_one kitx_none I.kIn pf e (by intro z;cases z) h;unfold Rep at q;subst q;cases (show u=pd k from r);cases ht;exact kia_one kitx_bool I.kIn pf e (by intro z;cases z) h;unfold Rep at q;subst q;obtain⟨l,rfl⟩:=r;cases ht;exact kia_one kitx_int I.kIn pf e (by intro z;cases z) h;unfold Rep at q;subst q;obtain⟨l,rfl⟩:=r;cases ht;exact kia_one kitx_str I.kIn pf e (by intro z;cases z) h;unfold Rep at q;obtain⟨p,x,rfl,f,_⟩:=q;cases (show u=qe p from r);cases ht;obtain⟨i,_,⟨o,g,j,_⟩,_⟩:=I.tuple (hG.seqT f);exact kia_one kitx_tuple I.kIn ⟨o,g,j⟩ e (by intro z;cases z) h;unfold Rep at q;obtain⟨p,x,rfl,f,_⟩:=q;cases (show u=qe p from r);cases ht;obtain⟨i,_,⟨o,n,g,j,_⟩,_⟩:=I.list (hG.seq f);exact kia_one kitx_list I.kIn ⟨o,g,j⟩ e (by intro z;cases z) h;unfold Rep at q;obtain⟨p,rfl,f⟩:=q;cases (show u=qe p from r);cases ht;obtain⟨ex,_,_⟩:=(show ObjOk X.prog X.w H s.heap p (EJ (ad.cls c) p) from I.hok p _ (hG _ _ f));exact kia_one (Dg (hx c)) I.kIn ex e (by intro z;cases z) h;cases ht;cases ht
inductive ClNm(X:Cx)(t:Str)(cv:Value):Prop
 |blt (T:String):cv= .type T->L2.Gl X t->X.mg t=qr->bootBuiltins t=pi (.type T)->t≠"__name__"->(t==gV)=qu->ClNm X t cv
 |own (C:Addr):cv= .ref C->L2.Gl X t->X.mg t=pi (.ref C)->(t==gV)=qu->ClNm X t cv
def ClNm.ev{Ex:cf}{Q:cf}(c:ClNm X t cv)(I:Inv X ce σ H s)(h:Q cv s):X.wp (eval (.Name t tp) X.env) Q Ex s:=by
 cases c with
 |blt T e g m b n d=>subst e;exact gE I g m b h n d
 |own C e g m d=>subst e;exact eJ I g m h d
def tW(hx: ∀c,ExcCls X.K (ad.cls c))(hg:L2.Gl X "isinstance")(hm:X.mg "isinstance"=qr)(c:ClNm X t cv)(k:OF X ad cv P)(ha:ML X ad a f)(he:starEach [a,.Name t tp] X.env=(qu,eval a X.env)::starEach [.Name t tp] X.env):ME X ad (.Call (.Name "isinstance" p) [a,.Name t tp] [] pos) (rIs P f):=by refine λx s B H Q I M=>M.el λG J E S O n L=>?_;refine wpAny_Call_Name_kw (gE (u:=.builtin "isinstance") I hg hm (by decide+kernel) ?_ (by decide) (by decide));refine dt ?_ he rfl;rw[he];refine ix (L2.thn (ha.lk x s B H G J _ Q E I S O n L) λu T l=>?_);obtain⟨v,d,A,y,i,C,j,q,N⟩:=l;refine ix (c.ev i (ji ?_));have g:RK X.K ad A y (match P d with|some b=>.ok (.bl b)|none=>.bad) Q E:=N;rcases e:P d with _|b;rw[e]at g;exact g.elim;rw[e]at g;obtain⟨ty,w,r⟩:=k d b e;have h: ∀m,EP X x B Q (.bool b) {T with toks:=m}:=λm=>⟨.bl b,y,i.tok m,rfl,g.ok_now j.gh dN⟩;rcases q with q|⟨a',vs,ds,rfl,rfl,g1,h1,rp⟩;exact AI hx i j.gh q C w r h;refine AI (G:=upd A a' (.lst vs)) hx i (λb o e=>?_) ?_ C w r h;by_cases z:b=a';subst z;rw[aH]at e;rw[h1];exact e;rw[aD z]at e;exact j.gh b o e;unfold Rep;exact⟨a',vs,rfl,SqL.of aH,rp.mono (Same.upd_new g1)⟩
end
structure RkC(K:Frag)(A:Addr):Prop where
 cl:Cls K A
 n1:iG K A "held"
 n2:iG K A "done"
 n3:iG K A "undone"
structure StepR(foot:List Addr)(G H G' H':Hp):Prop where
 sg:Same G G'
 gh:Same G' H'
 sh: ∀b o,b∉foot->H b=pi o->H' b=pi o
 nw: ∀b,G b=qr->G' b≠qr->H b=qr
 th: ∀b,H b≠qr->H' b≠qr
def RMK(K:Frag)(ad:Ad)(A:Nat)(G H:Hp)(p dx d l1 l2:Addr)(m:RM)(Q:VK)(E:Nat->Hp->Prop):Prop:=match m with
 |.pure x=>RK K ad G H x Q E
 |.chg x r'=>∀v G' H' l2',StepR [p,dx,d,l1,l2] G H G' H'->RackIn K ad A G' H' p r' dx d l1 l2'->(l2'=l2\/H l2'=qr)->Rep K ad G' x v->Q v H'
def spM(K:Frag)(ad:Ad)(A n:Nat)(m:FM):Sp:=λvs H Q E=>∃G p r dx d l1 l2 ds ws,vs=V.ref p::ws/\Same G H/\RackIn K ad A G H p r dx d l1 l2/\aI K ad G ds ws/\ds.length=n/\RMK K ad A G H p dx d l1 l2 (m r ds) Q (λc H'=>E (.ref (ad.cls c)) qr H')
def RRK(K:Frag)(ad:Ad)(A:Nat)(G H:Hp)(m:RR)(Q:VK)(E:Nat->Hp->Prop):Prop:=match m with
 |.rk r=>∀p dx d l1 l2 G' H',Step G H G' H'->RackIn K ad A G' H' p r dx d l1 l2->(∀a∈[p,dx,d,l1,l2],H a=qr)->Q (.ref p) H'
 |.ex c=>∀G' H',Step G H G' H'->E c H'
 |.bad=>False
def spR(K:Frag)(ad:Ad)(A n:Nat)(m:FR):Sp:=λvs H Q E=>∃G ds,Same G H/\aI K ad G ds vs/\ds.length=n/\RRK K ad A G H (m ds) Q (λc H'=>E (.ref (ad.cls c)) qr H')
def AJ(X:Cx)(x:Str)(sp:Sp):Prop:= ∃f k fd ps,X.mg x=pi (.ref f)/\l7 X.K (.ref f)=qt/\FnOk X.prog X.w X.K X.mg X.base (CXe X.prog X.w) k f fd ps sp/\Room k X.A/\eE X.K fd ps []
structure MetOk(X:Cx)(ad:Ad)(A:Addr)(m:Str)(n:Nat)(M:FM):Prop where
 no:m≠"held"/\m≠"done"/\m≠"undone"
 ok: ∃f k fd ps,Meth X.K A m f/\FnOk X.prog X.w X.K X.mg X.base (CXe X.prog X.w) k f fd ps (spM X.K ad A n M)/\Room k X.A/\eE X.K fd ps []
section
variable{ad:Ad}{G:Hp}{p:Pos}{b o:Expr}{f g:F}
theorem AL: ∀{ds} {ts},oB ds=pi ts->ds=ts.map D.str
 |[],ts,h=>by cases h;rfl
 |d::ds,ts,h=>by
  cases d<;>try (cases h;done)
  obtain⟨r,b,rfl⟩:=zMd (show(oB ds).map _=pi ts from h);rw[AL b];rfl
theorem nG{K}: ∀{ts:L1 Str} {vs},aI K ad G (ts.map D.str) vs->vs=ts.map V.str
 |[],vs,h=>by unfold aI at h;exact h
 |t::ts,vs,h=>by
  have c:aI K ad G (D.str t::ts.map D.str) vs:=h;unfold aI at c;obtain⟨v,r,rfl,b,d⟩:=c;unfold Rep at b;rw[b,nG d];rfl
theorem AM{K}: ∀(ts:L1 Str),aI K ad G (ts.map D.str) (ts.map V.str)
 |[]=>aI.nil
 |t::ts=>aI.cons (by unfold Rep;rfl) (AM ts)
theorem nH: ∀{ts} {us},bW (ts.map V.str) us->∃l,us=strValues l/\l.map (·.1)=ts
 |[],us,h=>by cases h;exact⟨[],rfl,rfl⟩
 |t::ts,us,h=>by
  cases h with
  |cons c b=>
   obtain⟨k,rfl⟩:=c;obtain⟨l,rfl,rfl⟩:=nH b;exact⟨(t,k)::l,rfl,rfl⟩
theorem q9: ∀l,bW ((l.map (·.1)).map V.str) (strValues l)
 |[]=>.nil
 |(x,t)::l=>.cons ⟨t,rfl⟩ (q9 l)
def Hk(ha:ML X ad a g)(he:starEach [a] X.env=(qu,eval a X.env)::starEach [] X.env)(hl:(ap.endLine==cp.line)=qt):
  ME X ad (.Call (.Attribute (.Constant (.str sep) j p) "join" ap) [a] [] cp) (lK sep g):=by
 refine λJ s A H Q I O=>O.el λG M E hG S W hr=>?_;refine wpAny_Call_method rfl (fI he) hl fz PySem.F.slot_str_join PySem.F.type_str_join (L2.thn (Ey J s A H (λv o=>v= .str sep/\o=H) I ⟨rfl,rfl⟩) λu s1 b=>?_);obtain⟨v,o,U,r1,rfl,rfl⟩:=b;obtain⟨t,rfl⟩:=(show ∃t,u=qc sep t from r1);refine⟨typeIs_str _ _ _,λ_ z=>(nomatch z),?_⟩;rw[he];refine fw rfl (gz (ix (L2.thn (ha.lk J s1 A o G M _ Q E U hG S W hr) λiv s2 b=>ji ?_)));obtain⟨w,d,r,m,B,r2,y,q,k⟩:=b;cases d with
 |lst h=>
  have c:RK X.K ad r m (match oB h with|some f=>if JoinOk sep f then .ok (.str (qj sep f))else .bad|none=>.bad) Q E:=k;rcases e:oB h with _|f;rw[e]at c;exact c.elim;rw[e]at c;have i:RK X.K ad r m (if JoinOk sep f then .ok (.str (qj sep f))else .bad) Q E:=c;by_cases n:JoinOk sep f=qt;rw[if_pos n]at i;have Z:Seq X ad r m (.lst h) w:=q;obtain⟨C,vs,rfl,x,L⟩:=Z.items y.gh (rfl:items (.lst h)=pi h);cases AL e;cases nG L;rcases x with ⟨z,_⟩|⟨_,x⟩;cases z;obtain⟨ab,rv,Y,_⟩:=B.list x;cases (show iv=qe C from r2);obtain⟨l,rfl,T⟩:=nH rv;exact PySem.SC.join (D:=C) Y.isList T n λN c=>⟨.str _,m,B.tok c,⟨N,rfl⟩,i.ok_now y.gh eM⟩;rw[if_neg n]at i;exact i.elim
 |_=>exact ba k
def AN{E:cf}{Q:cf}(hy:(y.length==0)=qu)(hq: ∀l k,l.map (·.1)=qg x y->Q (.ref s.z) {s with heap:=s.heap.push {cls:=.type "list",data:=.seq (strValues l).toArray},toks:=k})(hsz:x.length<=sizeLine)(hsz2:(eh x (er x y 0 x.length (x.length+1)) y.length).length<=sizeLine):
  wpAny (model prog w) A (call (.builtin "str.split") [.str x t,.str y u]) Q E s:=by
 cases b:(decide (x.length<y.length)||decide (Builtin.Str.strKind x<Builtin.Str.strKind y));cases c:(er x y 0 x.length (x.length+1)).isEmpty;refine call_meets kj (typeIs_str _ _ _) jt (jb _ _) (meets_str_split_sep x y t u b hy c hsz hsz2) ?_;show wants Q E _ {s with toks:=_,heap:=s.heap.push {cls:=.type "list",data:=.seq (strsFrom s.toks (eh x (er x y 0 x.length (x.length+1)) y.length)).toArray} };rw[strsFrom_eq];exact hq (numbered s.toks _) _ ((numbered_texts _ _).trans ((if_neg (ne_true_of_eq_false b)).trans (if_neg (ne_true_of_eq_false c))).symm);exact call_meets kj (typeIs_str _ _ _) jt (jb _ _) (meets_str_split_not_found x y t u b hy c)
  (hq [(x,t)] s.toks ((if_neg (ne_true_of_eq_false b)).trans (if_pos c)).symm)
 exact call_meets kj (typeIs_str _ _ _) jt (jb _ _) (meets_str_split_cannot_occur x y t u b)
  (hq [(x,t)] s.toks (if_pos b).symm)
def Dh(ho:ME X ad o f)(hb:ME X ad b g)(hbase:attributeBase o "split" X.env (eval o X.env)=eval o X.env)(he:starEach [b] X.env=(qu,eval b X.env)::starEach [] X.env)(hl:(ap.endLine==cp.line)=qt):
  ME X ad (.Call (.Attribute o "split" ap) [b] [] cp) (gH f g):=by
 refine λce s σ H Q I J=>J.el λG ρ E Y p q U=>?_;refine wpAny_Call_method_late hbase (fI he) hl rfl (L2.thn (ho.thn I Y p q U) λv s1 h=>?_);obtain⟨x,d,G1,H1,M,T,st1,q1,B⟩:=h;cases d with
 |str z=>
  unfold Rep at q1;subst q1;obtain⟨t,rfl⟩:=(show ∃t,v=qc z t from T);refine⟨"str",_,fz,PySem.F.slot_str_split,PySem.F.type_str_split,typeIs_str _ _ _,λ_ w=>(nomatch w),?_⟩;rw[he];refine fw rfl (gz (ix (L2.thn (hb.thn M st1.gh (p.step st1) q B) λiv s2 h=>ji ?_)));obtain⟨y,N,O,S,A,W,st2,r,u⟩:=h;cases N with
  |str c=>
   unfold Rep at r;subst r;obtain⟨t2,rfl⟩:=(show ∃t,iv=qc c t from W);have i:RK X.K ad O S (if c.length=1/\z.length<=LIM then .ow ((qg z c).map D.str)else .bad) Q E:=u;by_cases j:c.length=1/\z.length<=LIM;rw[if_pos j]at i;have C:z.length<=sizeLine:=ny j.2 (by decide);have Z:(eh z (er z c 0 z.length (z.length+1)) c.length).length<=z.length+2:=by
    rw[length_partsBetween];have:=StrLaws.occ_length_le z c 0 z.length (z.length+1);lia
   have n:LIM+2<=sizeLine:=by decide
   refine AN (by rw[j.1];rfl) (λl k e=>?_) C (by lia);have m:(l.map (·.1)).length<=sizeLine:=by
    rw[e];unfold qg;split;exact(by decide:1<=sizeLine);split;exact(by decide:1<=sizeLine);lia
   have L:(qg z c).map D.str=(l.map (·.1)).map D.str:=by rw[e]
   rw[L]at i;exact⟨.ref _,_,A.lnew (t':=k) (q9 l) (by rw[aq];exact m),rfl,i.ow_new st2.gh (AM _) A.fresh⟩;rw[if_neg j]at i;exact i.elim
  |_=>exact ba u
 |_=>exact ba B
def wD{σ:St}(I:Inv X ce σ H s)(hv:bW ys its)(hz:ys.length<=sizeLine):
  Inv X ce σ (upd H s.z (.tup ys)) {s with heap:=s.heap.push {cls:=.type "tuple",data:=.seq its.toArray},toks:=t'}:=
 I.laid (t':=t') (λ_ _ q=>ae _ q) (aj _) (show ObjOk X.prog X.w _ _ _ (.tup ys) from⟨hz,its,hv,⟨_,af _ rfl,rfl,_,rfl⟩,⟨_,af _ rfl,rfl⟩⟩)
def Hl(ho:ME X ad o f)(hb:ME X ad b g)(hbase:attributeBase o "partition" X.env (eval o X.env)=eval o X.env)(he:starEach [b] X.env=(qu,eval b X.env)::starEach [] X.env)(hl:(ap.endLine==cp.line)=qt):
  ME X ad (.Call (.Attribute o "partition" ap) [b] [] cp) (zL f g):=by
 refine λce s Z H Q I C=>C.el λG Y E W n p T=>?_;refine wpAny_Call_method_late hbase (fI he) hl rfl (L2.thn (ho.thn I W n p T) λv s1 j=>?_);obtain⟨x,d,G1,H1,J,O,st1,q1,B⟩:=j;cases d with
 |str z=>
  unfold Rep at q1;subst q1;obtain⟨t,rfl⟩:=(show ∃t,v=qc z t from O);refine⟨"str",_,fz,PySem.F.slot_str_partition,PySem.F.type_str_partition,typeIs_str _ _ _,λ_ w=>(nomatch w),?_⟩;rw[he];refine fw rfl (gz (ix (L2.thn (hb.thn J st1.gh (n.step st1) p B) λiv q j=>ji ?_)));obtain⟨y,L,M,N,l,U,st2,u,A⟩:=j;cases L with
  |str c=>
   unfold Rep at u;subst u;obtain⟨S,rfl⟩:=(show ∃t,iv=qc c t from U);have h:RK X.K ad M N (if(c.length==0)=qu/\z.length<=LIM then .ok (.tup (jQ z c))else .bad) Q E:=A;by_cases m:(c.length==0)=qu/\z.length<=LIM;rw[if_pos m]at h;refine call_meets F.slot_str_partition (typeIs_str _ _ _) F.entry_str_partition (F.args_str_partition_2 _ _) (meets_str_partition z c t S m.1 (ny m.2 (by decide))) ?_;unfold jQ at h;rcases e:er z c 0 z.length 1 with _|⟨i,r⟩;rw[e]at h;exact⟨.ref _,_,wD l (ys:=[.str z,.str qf,.str qf]) (t':=q.toks+1) (.cons ⟨_,rfl⟩ (.cons ⟨_,rfl⟩ (.cons ⟨_,rfl⟩ .nil))) (by show 3<=sizeLine;decide),rfl,h.tup_new st2.gh (aI.cons eM (aI.cons eM (aI.cons eM aI.nil))) l.fresh⟩;rw[e]at h;exact⟨.ref _,_,wD l (ys:=[.str (iz z 0 i),.str c,.str (iz z (i+c.length) z.length)]) (t':=q.toks+1+1) (.cons ⟨_,rfl⟩ (.cons ⟨_,rfl⟩ (.cons ⟨_,rfl⟩ .nil))) (by show 3<=sizeLine;decide),rfl,h.tup_new st2.gh (aI.cons eM (aI.cons eM (aI.cons eM aI.nil))) l.fresh⟩;rw[if_neg m]at h;exact h.elim
  |_=>exact ba A
 |_=>exact ba B
def AO(P:Program)(w:World)(K:nq)(ad:Ad)(A:Addr)(kvs:L1 (Str×D)):Prop:=
 (A==sysModules)=qu/\∃vs:L1 (Str×Value),(∃o es ep,K.lookup A=pi o/\o.ExactDict/\o.data= .dict es ep/\KeysOf (ni P w) es/\Pairs (ni P w) es.toList vs/\(vs.map (·.1)).Nodup)/\
  Paired (λ(p:Str×D) (q:Str×Value)=>p.1=q.1/\∃v,bH v q.2/\∀G,Rep K ad G p.2 v) kvs vs
theorem wE{K}: ∀{kvs} {vs} (x:Str),Paired (λp q=>p.1=q.1/\∃v,bH v q.2/\∀G,Rep K ad G p.2 v) kvs vs->∃v,bH v ((valueAt vs x).getD .none)/\∀G,Rep K ad G ((kvs.lookup x).getD .non) v
 |[],_,x,.nil=>⟨.non,rfl,λG=>by show Rep K ad G .non .non;unfold Rep;rfl⟩
 |(k,d)::kvs,(k',u)::vs,x,.cons ⟨h1,h2⟩ h=>by
  cases (show k=k' from h1);by_cases e:x=k;subst e;obtain⟨v,c,b⟩:=h2;refine⟨v,?_,λG=>?_⟩;simpa[valueAt]using c;simpa[kg]using b G;obtain⟨v,c,b⟩:=wE x h;refine⟨v,?_,λG=>?_⟩;have g: ¬k=x:=λz=>e z.symm;simpa[valueAt,li,g]using c;have f:(x==k)=qu:=by simpa using e
  simpa[kg,f]using b G
def Lo(hF:AO X.prog X.w X.K ad A kvs)(hg:L2.Gl X x)(hm:X.mg x=pi (.ref A))(hd:(x==gV)=qu)(hb:ME X ad b g)(he:starEach [b] X.env=(qu,eval b X.env)::starEach [] X.env)(hl:(ap.endLine==cp.line)=qt):
  ME X ad (.Call (.Attribute (.Name x p) "get" ap) [b] [] cp) (Gj kvs g):=by
 refine λce s M H Q I q=>q.el λG ρ E hG r u U=>?_;obtain⟨d,B,⟨o,es,ep,i,h,Y,J,S,Z⟩,O⟩:=hF;have dd: ∀{s':Shared} {H':Hp},Inv X ce M H' s'->s'.heap.DictOf (ni X.prog X.w) A B:=λN=>⟨o,es,ep,N.kIn _ _ i,h,Y,J,S,Z⟩;refine wpAny_Call_method rfl (fI he) hl eu gj gm (eJ I hg hm ?_ hd);refine⟨(dd I).typeIs,λb' z=>?_,?_⟩;cases z;exact⟨o,I.kIn _ _ i,h.2.1⟩;rw[he];refine fw rfl (gz (ix (L2.thn (hb.thn I hG r u U) λiv s2 f=>ji ?_)));obtain⟨y,L,m,n,e,W,st2,j,l⟩:=f;cases L with
 |str c=>
  unfold Rep at j;subst j;obtain⟨t2,rfl⟩:=(show ∃t,iv=qc c t from W);have C:RK X.K ad m n (.ok ((kvs.lookup c).getD .non)) Q E:=l;obtain⟨v,rv,T⟩:=wE c O;exact call_meetsIn gj (dd e).typeIs fx (et _ _) (meets_dict_get (ni X.prog X.w) A (by simp[ni,Value.isStrOf]) d) ⟨_,(dd e).mapOf,v,n,e.tok _,rv,C.ok_now st2.gh (T m)⟩
 |_=>exact ba l
end
noncomputable def d6:Py->Str
 |.len=>"len"|.range=>"range"|.enum=>"enumerate"|.zip=>"zip"|.isin=>"isinstance"|.int=>"int"|.bool=>"bool"|.str=>"str"|.tuple=>"tuple"|.list=>"list"
 |.sum=>"sum"|.all=>"all"|.any=>"any"|.sorted=>"sorted"|.min=>"min"|.max=>"max"|.abs=>"abs"|.set=>"set"|.dict=>"dict"
def NC(X:Cx)(ad:Ad)(x:Str):SK.Gl->Prop
 |.fn k n F=>∃r f,FnGood X ad r x n F f/\Room r X.A/\f=ad.fnA k
 |.exc c=>X.mg x=pi (.ref (ad.cls c))/\c<ad.nb
 |.verr=>x="ValueError"/\X.mg x=qr
 |.val d=>∃u v,X.mg x=pi u/\bH v u/\∀G,Rep X.K ad G d v
 |.py p=>x=d6 p/\X.mg x=qr
 |.tbl kvs=>∃A,X.mg x=pi (.ref A)/\AO X.prog X.w X.K ad A kvs
 |.cls A ms=>X.mg x=pi (.ref A)/\RkC X.K A/\∀m n M,ms.lookup m=pi (n,M)->MetOk X ad A m n M
 |.rfn A M=>AJ X x (spM X.K ad A 0 M)
 |.rmk A n M=>AJ X x (spR X.K ad A n M)
structure CtxOk(X:Cx)(ad:Ad)(C:SK.Ctx):Prop where
 N:X.N=C.N
 nd:X.N.Nodup
 vis: ∀x i,loc C x=pi i->mU X i x
 gk: ∀x,C.sc.names.lookup x=pi .globalImplicit->L2.Gl X x
 gt: ∀x g,C.tab.lookup x=pi g->(x==gV)=qu/\NC X ad x g
 cap: ∀x i,eF C x=pi i->X.env.kindOf x=pi .cell\/X.env.kindOf x=pi .free
 calm:X.calm=qt
 un:X.A.units+62<cLine
 hd:X.A.handled=qr
 exc: ∀c,ExcCls X.K (ad.cls c)
 kin: ∀c e,c<ad.nb->kitOne X.K (.ref (ad.cls e)) (.ref (ad.cls c))=pi (hit c e)
 kve: ∀e,kitOne X.K (.ref (ad.cls e)) (.type "ValueError")=pi qt
 fnv: ∀j n F,C.fns[j]? =pi (n,F)->∃r,FnAt X ad r n F (ad.fnA j)/\Room r X.A
section
variable{ad:Ad}
def Hm(h:glo C x=pi g):C.sc.names.lookup x=pi .globalImplicit/\C.tab.lookup x=pi g:=by unfold glo at h;split at h;rename_i e;exact⟨e,h⟩;cases h
def CtxOk.gl(O:CtxOk X ad C)(h:glo C x=pi g):L2.Gl X x/\(x==gV)=qu/\NC X ad x g:=
 let ⟨a,b⟩:=Hm h;⟨O.gk x a,(O.gt x g b).1,(O.gt x g b).2⟩
def E9(O:CtxOk X ad C)(h:glo C t=pi g)(e:isP g=pi P): ∃cv,ClNm X t cv/\OF X ad cv P:=by
 obtain⟨j,l,hk⟩:=O.gl h;cases g with
 |fn _ _ _=>cases e
 |cls _ _=>cases e
 |rfn _ _=>cases e
 |rmk _ _ _=>cases e
 |val _=>cases e
 |tbl _=>cases e
 |exc c=>
  cases e;obtain⟨i,n⟩:=hk;refine⟨.ref (ad.cls c),.own _ rfl j i l,λd b f=>?_⟩;cases d<;>try (cases f;done)
  rename_i k;cases f;exact⟨_,rfl,O.kin c k n⟩
 |verr=>
  cases e;obtain⟨m,i⟩:=hk;subst m;refine⟨.type "ValueError",.blt "ValueError" rfl j i (by decide+kernel) (by decide) l,λd b f=>?_⟩;cases d<;>try (cases f;done)
  rename_i k;cases f;refine⟨_,rfl,?_⟩;rw[O.kve k];congr 1;unfold hit;simp
 |py p=>
  obtain⟨m,i⟩:=hk;cases p<;>try (cases e;done)
  all_goals
   cases e;subst m
  refine⟨.type "int",.blt "int" rfl j i (by decide+kernel) (by decide) l,λd b f=>?_⟩;cases d<;>first|(cases f;done)|(cases f;exact⟨_,rfl,by rfl⟩)
  refine⟨.type "bool",.blt "bool" rfl j i (by decide+kernel) (by decide) l,λd b f=>?_⟩;cases d<;>first|(cases f;done)|(cases f;exact⟨_,rfl,by rfl⟩)
  refine⟨.type "str",.blt "str" rfl j i (by decide+kernel) (by decide) l,λd b f=>?_⟩;cases d<;>first|(cases f;done)|(cases f;exact⟨_,rfl,by rfl⟩)
  refine⟨.type "tuple",.blt "tuple" rfl j i (by decide+kernel) (by decide) l,λd b f=>?_⟩;cases d<;>first|(cases f;done)|(cases f;exact⟨_,rfl,by rfl⟩)
  refine⟨.type "list",.blt "list" rfl j i (by decide+kernel) (by decide) l,λd b f=>?_⟩;cases d<;>first|(cases f;done)|(cases f;exact⟨_,rfl,by rfl⟩)
def cQ{l:L1 (Str×NameKind)}(h:(l.lookup x==pi k)=qt):l.lookup x=pi k:=by simpa using h
def hJ(h:iY sc xs=qt):sc.kind= .function/\(oC sc=[]\/(oC sc=xs/\xs.length=1))/\(∀x∈xs,sc.names.lookup x=pi (if(oC sc).isEmpty then .local else .cell))/\(∀y∈sc.names,y.2= .local->sc.names.lookup y.1=pi .local)/\
  (xs++aN sc).Nodup/\(∀x∈xs++aN sc,(x==gV)=qu/\(x==hZ)=qu)/\∀x∈aN sc,sc.names.lookup x=pi .free:=by
 unfold iY at h;simp only[aw]at h;obtain⟨⟨⟨⟨⟨⟨f,l⟩,e⟩,i⟩,c⟩,j⟩,d⟩:=h;refine⟨by simpa using f,by simpa using l,λx b=>?_,λy g z=>?_,of_decide_eq_true c,λx b=>?_,λx b=>?_⟩;exact cQ (zAd e x b);have:=zAd i y g;rw[z]at this;simpa using this;have:=zAd j x b;simpa using this;exact cQ (zAd d x b)
def tY(h:idx x N=pi i):x∈N:=List.mem_of_getElem? (gL h)
def tZ(h:loc C x=pi i):idx x C.N=pi i/\(C.sc.names.lookup x=pi .local\/C.sc.names.lookup x=pi .cell\/C.sc.names.lookup x=pi .free):=by unfold loc at h;split at h;rename_i e;exact⟨h,.inl e⟩;rename_i e;exact⟨h,.inr (.inl e)⟩;rename_i e;exact⟨h,.inr (.inr e)⟩;cases h
def eU(h:eF C x=pi i):idx x C.N=pi i/\(C.sc.names.lookup x=pi .cell\/C.sc.names.lookup x=pi .free):=by unfold eF at h;split at h;rename_i e;exact⟨h,.inl e⟩;rename_i e;exact⟨h,.inr e⟩;cases h
theorem i9{α β}{f:α->L7 β}: ∀{l} {r},eL f l=pi r->∀a∈l, ∃b,f a=pi b
 |[],_,_,a,ha=>by cases ha
 |x::l,r,h,a,ha=>by
  unfold eL at h;rcases e:f x with _|y;rw[e]at h;cases h;rw[e]at h;obtain⟨d,c,_⟩:=zMd h;rcases av.mp ha with rfl|ha;exact⟨y,e⟩;exact i9 c a ha
def nI{l:L1 (Str×NameKind)}(h:l.lookup x=pi k):(x,k)∈l:=ii h
def jA(h:(x,m4)∈sc.names):x∈aN sc:=by unfold aN;exact au.mpr ⟨(x,.free),kz.mpr ⟨h,by simp⟩,rfl⟩
def rB(O:CtxOk X ad C)(h:iY sc xs=qt)(hc:eL (λx=>eF C x) (aN sc)=pi cs):CompSc X C sc xs cs:=by
 obtain⟨f,m,d,j,n,o,c⟩:=hJ h;have g:Cel sc:=by
  rcases m with z|⟨z,l⟩;exact .inl z;obtain⟨x,rfl⟩:=fy.mp l;have:=d x (.head _);rw[z]at this;exact .inr ⟨x,z,this⟩
 refine⟨f,g,j,λx b=>?_,λx b=>c x (jA b),O.N,hc⟩;obtain⟨i,e⟩:=i9 hc x (jA b);exact O.cap x i e
def Hn{tg}(hN:X.N.Nodup)(e:bT tg=pi (xs,k))(hx:xs=[x])(h1:X.N[0]? =pi x)(h2:X.env.scope.names.lookup x=pi .cell)(h3:X.fn x=qt):PG X tg (gTg X.K k):=by
 subst hx;cases tg<;>try (cases e)
 exact k8 hN h1 (.inr h2) (.inl h3);rename_i g j h;unfold bT at e;obtain⟨d,f,b⟩:=zBd e;by_cases c:2<=d.length;rw[if_pos c]at b;cases b;exact absurd c (by simp);rw[if_neg c]at b;cases b
def Fa(O:CtxOk X ad C)(h:iY sc xs=qt)(hc:eL (λx=>eF C x) (aN sc)=pi cs):
  CtxOk (cX X (xs++aN sc) sc s3 H3 fp ce) ad {C with sc:=sc,N:=xs++aN sc}:=by
 obtain⟨E,I,B,H,y,v,J⟩:=hJ h;have o: ∀x,(relabel sc X.env).names.lookup x=(sc.names.lookup x).map (λk=>if(k==m4&&X.env.scope.kind== .function&&X.env.kindOf x==pi .cell)then ng else k):=λx=>cP;have u: ∀x,sc.names.lookup x=pi .free->(relabel sc X.env).names.lookup x=pi .cell\/(relabel sc X.env).names.lookup x=pi .free:=λx e=>by
  rw[o x,e];simp only[qa];split;exact .inl rfl;exact .inr rfl
 have t: ∀x,sc.names.lookup x=pi .cell->(relabel sc X.env).names.lookup x=pi .cell:=λx e=>by rw[o x,e];rfl
 refine⟨rfl,y,λx i e=>?_,λx e=>?_,λx g e=>?_,λx i e=>?_,O.calm,O.un,O.hd,O.exc,O.kin,O.kve,λj n F e=>let ⟨r,T,s⟩:=O.fnv j n F e;⟨r,⟨T.kp,T.ok⟩,s⟩⟩;obtain⟨l,b⟩:=tZ e;have q:=tY l;refine⟨gL l,?_,(v x q).1,(v x q).2⟩;rcases b with b|b|b;refine .inl ?_;show(relabel sc X.env).names.lookup x=pi .local;rw[o x];have:sc.names.lookup x=pi .local:=b;rw[this];rfl;exact .inr (.inl (t x b));rcases u x b with z|z;exact .inr (.inl z);exact .inr (.inr z);show(relabel sc X.env).names.lookup x=pi .globalImplicit;rw[o x];have:sc.names.lookup x=pi .globalImplicit:=e;rw[this];rfl;obtain⟨l,b⟩:=O.gt x g e;refine⟨l,?_⟩;rcases g with ⟨k,n,F⟩|c|_|d|p|kvs|⟨A,G⟩|⟨A,M⟩|⟨A,n,M⟩;obtain⟨r,f,T,s,w⟩:=b;exact⟨r,f,⟨T.mg,T.kp,T.ok⟩,s,w⟩;exact b;exact b;exact b;exact b;exact b;exact⟨b.1,b.2.1,λm n M q=>let z:=b.2.2 m n M q;⟨z.no,z.ok⟩⟩;exact b;exact b;obtain⟨l,b⟩:=eU e;rcases b with b|b;exact .inl (t x b);exact u x b
end
section
variable{Ex:cf}
def Di{items}{Q:cf}(hh:A.handled=qr)(hit:s.heap.IsTupleIter it t i)(ht:s.heap.IsTuple t items)(hQ: ∀x,items[i]? =pi x->∀h',h'.IsTupleIter it t (i+1)->n5 it s.heap h'->Q x {s with heap:=h'})(hE:items[i]? =qr->∀h' e,Heap.ExtBut it s.heap h'->(∃o,h'.get? e=pi o/\o.cls= .type "StopIteration")->Ex (.ref e) {s with heap:=h'}):wpAny (model prog w) A (ee (.ref it)) Q Ex s:=by
 obtain⟨o,d,j,c⟩:=id hit;obtain⟨u,g,_,n,l⟩:=ht;unfold ee;refine aa (wpAny_callSpecial?_slot (name:=oq "__next__") hit.typeIs F.slot_tuple_iterator_next (wpAny_call_entry F.slot_tuple_iterator_next hit.typeIs F.entry_tuple_iterator_next ?_ (F.args_tuple_iterator_next_1 _)));show wpAny _ _ (field (.ref it) 0 >>= _) _ _ s;refine aa (wpAny_field d c (x:=.ref t) rfl ?_);show wpAny _ _ (if(qe t==pc)=qt then _ else _) _ _ s;rw[if_neg (show ¬((qe t==pc)=qt) from bf)];show wpAny _ _ (field (.ref it) 1 >>= _) _ _ s;refine aa (wpAny_field d c (x:=.int i 0) rfl ?_);show wpAny _ _ (seqItems? (.ref t) >>= _) _ _ s;refine aa (wpAny_seqItems g l ?_);rcases f:items[i]? with _|x;simp only[ju,f];refine aa (wpAny_rule (aa (wpAny_setField d c (by simp) ?_)));show wpAny _ _ (newExc (.type "StopIteration") [] >>= _) _ _ _;refine aa ?_;simp only[newExc,newTuple];refine aa (wpAny_newObj_type ?_ (by size_fits));refine aa (m:=firstArgMember _ _) (wpAny_of_eq (a:=pc) (by first|rfl|(simp only[firstArgMember];rfl)) ?_);refine wpAny_newObj_type ?_ (by size_fits);simp only[raiseNew];refine aa (wpAny_handled ?_);first|rw[show A.in1.handled=qr from hh]|rw[hh]
 refine aa (ac (wpAny_throw ?_));refine hE f _ _ (λb p h e=>?_) ⟨_,af _ rfl,rfl⟩;exact ae _ (ae _ ((fq _ _ (qq h)).trans e));simp only[ju,f];refine aa (wpAny_setField d c (by simp) (ac ⟨x,rfl,ac (hQ x f _ ?_ (n5.update ..))⟩));exact⟨_,gi _ d (Obj.isFreed_of_fields (Obj.data_mapFields c _)),(Obj.cls_mapFields ..).trans j,by rw[Obj.data_mapFields c];simp[rawInt]⟩
end
def rC{n l m:Nat}(a:l<n)(b:m<n):ZipApart (n+4) (n+2) (n+3) n (n+1) l m:=by constructor<;>(intro h;have c:(_:Nat)=_:=h;revert c;lia)
def jB{σ:L2.St}{fp:L1 Addr}(I:Inv X ce σ H s)(k: ∀b o,b∉fp->s.heap.get? b=pi o->h'.get? b=pi o)(hf: ∀b∈fp,pM X ce H b):Inv X ce σ H {s with heap:=h',toks:=t'}:=by
 have f: ∀b u,H b=pi u->b∉fp:=λb u e z=>by rw[(hf b z).1]at e;cases e
 refine I.step (g':=s.gens) (d':=s.drawn) (ch:=fp) (λb g=>?_) (λb o _ _ d e _=>k b o d e) (λb o _ _ d e _=>⟨o.slots,k b o d e⟩) (λ_ _ _ _ n=>n)
  (λb o d e=>⟨o,k b o d e⟩) (λ_ _ e=>e) (λ_ _ _ e=>e) (λb y e=>⟨#[],by rw[e];simp⟩) (λm p=>?_) (λb u e=>?_) I.bare
 obtain⟨_,i,_,j,w,t⟩:=hf b g;exact⟨j,i,w,t⟩;obtain⟨o,h,x,l,r⟩:=p;exact⟨o,h,x,k _ o (λz=>(hf _ z).2.1 rfl) l,r⟩;refine(I.hok b u e).stay (λc v d q=>k c v ?_ q) (λ_ q=>q) λ_ _ q=>q;rcases d with z|z;rw[z];exact f b u e;exact f c _ z
abbrev ItA(h:Heap)(it l:Addr)(i:Nat):Prop:=h.IsTupleIter it l i
abbrev SeA(h:Heap)(l:Addr)(xs:Array Value):Prop:=h.IsTuple l xs
section
variable{σ:L2.St}
def eN(I:Inv X ce σ H s)(h:SqT X.K H a xs): ∃its,bW xs its/\SeA s.heap a its.toArray/\xs.length<=sizeLine:=by obtain⟨its,r,p,z⟩:=I.tuple h;exact⟨its,r,p,z⟩
def lX(I:Inv X ce σ H s)(h:SqT X.K H a xs)(h':SqT X.K H a ys):xs=ys:=by exact I.tuple_inj h h'
def a8{K}(e:Same H H')(h:SqT K H a xs):SqT K H' a xs:=by exact e.seqT h
def dA(q:ItA h it l i)(k: ∀o,h.get? it=pi o->h'.get? it=pi o):ItA h' it l i:=by obtain⟨o,e,r⟩:=q;exact⟨o,k o e,r⟩
end
def Ho(q:SeA h l it)(k: ∀o,h.get? l=pi o->h'.get? l=pi o):SeA h' l it:=by obtain⟨o,b,c⟩:=q;exact⟨o,k o b,c⟩
def eO(q:ItA h it l k)(sb:n5 c h h')(ne:it≠c):ItA h' it l k:=dA q λo e=>(sb.2 _ ne).trans e
def lY(q:SeA h l it)(sb:n5 c h h')(ne:l≠c):SeA h' l it:=Ho q λo e=>(sb.2 _ ne).trans e
def oO(x:ItA h it l k): ∃o,h.get? it=pi o/\o.data= .fields #[.ref l,.int k 0]:=by obtain⟨o,a,_,c⟩:=x;exact⟨o,a,c⟩
section
variable{Ex:cf}
def OG{z TI TO i1 i2 l1 l2}(hh:A.handled=qr)(D:ZipApart z TI TO i1 i2 l1 l2)(hz:IsZip s.heap z TI TO .none)(hTI:IsPair s.heap TI (.ref i1) (.ref i2))(hTO:IsPair s.heap TO a b)(h1:ItA s.heap i1 l1 k1)(h2:ItA s.heap i2 l2 k2)(hl1:SeA s.heap l1 xs)(hl2:SeA s.heap l2 ys)(hQ: ∀h' x y,xs[k1]? =pi x->ys[k2]? =pi y->IsZip h' z TI TO (rawInt s.z)->IsPair h' TO x y->ItA h' i1 l1 (k1+1)->ItA h' i2 l2 (k2+1)->IsPair h' s.z x y->h'.objs.size=s.z+1->
   (∀c o,c≠z->c≠TO->c≠i1->c≠i2->s.heap.get? c=pi o->h'.get? c=pi o)->Q (pi (.ref s.z)) {s with heap:=h'})(hE:(xs[k1]? =qr\/ys[k2]? =qr)->∀h',(∀c o,c≠z->c≠TO->c≠i1->c≠i2->s.heap.get? c=pi o->h'.get? c=pi o)->Q qr {s with heap:=h'}):wpAny (model prog w) A (pyNext (.ref z)) Q Ex s:=by
 have Y:s.TypeIs (.ref z) "zip":=⟨_,hz,rfl⟩;unfold pyNext;have r: ∀(h':Heap) (e:Addr),(xs[k1]? =qr\/ys[k2]? =qr)->(∀c o,c≠z->c≠TO->c≠i1->c≠i2->s.heap.get? c=pi o->h'.get? c=pi o)->(∃o,h'.get? e=pi o/\o.cls= .type "StopIteration")->wpAny (model prog w) A (do if(<-isInstance (.ref e) (.type "StopIteration"))=qt then pure qr else throw (.ref e)) Q Ex {s with heap:=h'}:=λh' e hn kk u=>by
  obtain⟨o,ho,hc⟩:=u;exact aa (wpAny_isInstance (T:="StopIteration") (b:=qt) ⟨o,ho,hc⟩ isSubtype_stop (ac (hE hn _ kk)))
 refine aa (wpAny_attempt (wpAny_callSpecial?_slot (name:=oq "__next__") Y lw (wpAny_call_entry lw Y F.entry_zip_next ?_ (F.args_zip_next_1 _))));show wpAny _ _ (field (.ref z) 2 >>= _) _ _ _;refine aa (wpAny_field hz rfl (x:=.bool qu) rfl ?_);show wpAny _ _ (field (.ref z) 3 >>= _) _ _ _;refine aa (wpAny_field hz rfl (x:=.ref TI) rfl (aa (wpAny_seqItems hTI rfl ?_)));show wpAny _ _ (dq (.ref z) >>= _) _ _ _;refine aa ?_;unfold dq;refine aa (wpAny_field hz rfl (x:=.none) rfl (ac ?_));simp only[if_true];refine aa (wpAny_rule (aa (wpAny_field hz rfl (x:=.ref TO) rfl (aa (wpAny_setField_rec hz (by simp) λg1 q i=>?_)))));replace q:IsZip g1 z TI TO .ellipsis:=q;refine aa ?_;simp only[List.zipIdx_cons,List.zipIdx_nil,List.forIn_cons,List.forIn_nil];refine aa (aa (wpAny_onRaise ?_));show wpAny _ _ (ee (.ref i1) >>= _) _ _ _;refine aa (Di hh (eO h1 i D.i1z) (lY hl1 i D.l1z) (λx H L p2 g=>ac ?_) λH L e g u=>?_);rotate_left;obtain⟨K,q1,m⟩:=u;have z2:IsZip L z TI TO .ellipsis:=g _ _ D.i1z.symm q;have M:e≠z:=λx=>by subst x;rw[z2]at q1;cases q1;simp at m
 exact wpAny_setField_rec z2 (by simp) λO _ h=>r O e (.inl H) (λc o f _ n _ x=>(h.2 _ f).trans (g _ _ n ((i.2 _ f).trans x))) ⟨K,(h.2 _ M).trans q1,m⟩;have X:IsPair L TO a b:=(g.2 _ D.TOi1).trans ((i.2 _ D.TOz).trans hTO);refine aa (wpAny_seqItems X rfl (aa (wpAny_updateSeq_pair X λO J h=>?_)));replace J:IsPair O TO x b:=J;refine aa (wpAny_letGo (ac (aa (aa (wpAny_onRaise ?_)))));show wpAny _ _ (ee (.ref i2) >>= _) _ _ _;refine aa (Di hh (eO (eO (eO h2 i D.i2z) g D.i12.symm) h D.TOi2.symm) (lY (lY (lY hl2 i D.l2z) g D.l2i1) h D.l2TO) (λy I U p4 j=>ac ?_) λI U e j u=>?_);rotate_left;obtain⟨K,q1,m⟩:=u;have z4:IsZip U z TI TO .ellipsis:=j _ _ D.i2z.symm ((h.2 _ D.TOz.symm).trans ((g.2 _ D.i1z.symm).trans q));have M:e≠z:=λx=>by subst x;rw[z4]at q1;cases q1;simp at m
 exact wpAny_setField_rec z4 (by simp) λd _ l=>r d e (.inr I) (λc o f p n B x=>(l.2 _ f).trans (j _ _ B ((h.2 _ p).trans ((g.2 _ n).trans ((i.2 _ f).trans x))))) ⟨K,(l.2 _ M).trans q1,m⟩;have W:IsPair U TO x b:=(j.2 _ D.TOi2).trans J;refine aa (wpAny_seqItems W rfl (aa (wpAny_updateSeq_pair W λd C l=>?_)));replace C:IsPair d TO x y:=C;refine aa (wpAny_letGo (ac (ac (aa (wpAny_seqItems C rfl (aa (wpAny_newTuple ?_)))))));have t:d.objs.size=s.z:=by rw[l.1,j.1,h.1,g.1,i.1]
 have z5:IsZip d z TI TO .ellipsis:=(l.2 _ D.TOz.symm).trans ((j.2 _ D.i2z.symm).trans ((h.2 _ D.TOz.symm).trans ((g.2 _ D.i1z.symm).trans q)));have k5: ∀c o,c≠z->c≠TO->c≠i1->c≠i2->s.heap.get? c=pi o->d.get? c=pi o:=λc o f p n B e=>(l.2 _ p).trans ((j.2 _ B).trans ((h.2 _ p).trans ((g.2 _ n).trans ((i.2 _ f).trans e))));have q1:ItA d i1 l1 (k1+1):=eO (eO (eO p2 h D.TOi1.symm) j D.i12) l D.TOi1.symm;have m:ItA d i2 l2 (k2+1):=eO p4 l D.TOi2.symm;have Z:z<d.objs.size:=ah z5;show wpAny _ _ (dm (.ref z) (.ref d.objs.size) >>= _) _ _ _;refine aa ?_;unfold dm;have z6:IsZip (d.push {cls:=.type "tuple",data:=.seq #[x,y]}) z TI TO .ellipsis:=ae _ z5;refine aa (wpAny_setField_rec z6 (by simp) λg7 N S=>?_);replace N:IsZip g7 z TI TO (rawInt d.objs.size):=N;refine wpAny_setField_rec N (by simp) λv E G=>?_;replace E:IsZip v z TI TO (rawInt d.objs.size):=E;have up: ∀c o,c≠z->d.get? c=pi o->v.get? c=pi o:=λc o f e=>(G.2 _ f).trans ((S.2 _ f).trans (ae _ e));have t8:IsPair v d.objs.size x y:=(G.2 _ (oe Z)).trans ((S.2 _ (oe Z)).trans (af _ rfl));have n8:v.objs.size=d.objs.size+1:=by rw[G.1,S.1,ai]
 rw[t]at E t8 n8;refine ac ⟨_,rfl,ac ?_⟩;show Q (pi (.ref d.objs.size)) _;rw[t];refine hQ v x y H I E (up _ _ D.TOz C) ?_ ?_ t8 n8 λc o f p n B e=>up c o f (k5 c o f p n B e);exact dA q1 λo e=>up _ o D.i1z e;exact dA m λo e=>up _ o D.i2z e
end
noncomputable abbrev zg1(h:Heap)(l:Addr):Heap:=h.push {cls:=.type "tuple_iterator",data:=.fields #[.ref l,.int 0 0]}
noncomputable abbrev zg3(h:Heap)(l m:Addr):Heap:=(zg1 (zg1 h l) m).push {cls:=.type "tuple",data:=.seq #[.ref h.objs.size,.ref (zg1 h l).objs.size]}
noncomputable abbrev zg4(h:Heap)(l m:Addr):Heap:=(zg3 h l m).push {cls:=.type "tuple",data:=.seq #[.none,.none]}
noncomputable abbrev zg5(h:Heap)(l m:Addr):Heap:=(zg4 h l m).push {cls:=.type "zip",data:=.fields #[.none,.bool qu,.bool qu,.ref (zg1 (zg1 h l) m).objs.size,.ref (zg3 h l m).objs.size]}
def Dj l m xs ys:Meets (Builtin.«zip.__new__» ⟨[.type "zip",.ref l,.ref m],[]⟩) (λ_ R s=>SeA s.heap l xs/\SeA s.heap m ys/\R (.ok (.ret (.ref (zg4 s.heap l m).objs.size))) {s with heap:=zg5 s.heap l m}):=
 .of_wp λi w A R s h=>by
  obtain⟨c,g,d,f,e⟩:=s;obtain⟨n,b,h⟩:=h;have j:=sub_zip;have q1:Heap.IsTuple (Shared.heap ⟨c,g,d,f,e⟩) l xs:=n;have o:Heap.IsTuple (Shared.heap ⟨c.push {cls:=.type "tuple_iterator",data:=.fields #[.ref l,.int 0 0]},g,d,f,e⟩) m ys:=Heap.IsTuple.push b _;wp_walk using wpAny_pyIter_tuple q1,wpAny_pyIter_tuple o
  exact⟨_,rfl,h⟩
section
variable{Ex:cf}{s:Shared}
def AQ(e:h.get? it=pi {cls:=.type "tuple_iterator",data:=.fields #[.ref l,.int 0 0]}):ItA h it l 0:=by exact⟨_,e,rfl,rfl⟩
def rD{Q:cf}(t1:SeA s.heap l xs)(t2':SeA s.heap m ys)(h: ∀h',IsZip h' (s.z+4) (s.z+2) (s.z+3) .none->IsPair h' (s.z+2) (.ref s.z) (.ref (s.z+1))->IsPair h' (s.z+3) .none .none->
   ItA h' s.z l 0->ItA h' (s.z+1) m 0->h'.objs.size=s.z+5->(∀c o,s.heap.get? c=pi o->h'.get? c=pi o)->Q (.ref (s.z+4)) {s with heap:=h'}):
  wpAny (model prog w) A (call (.type "zip") [.ref l,.ref m]) Q Ex s:=by
 refine callType_new F.called_zip rfl (F.typeCall_zip_2 _ _) (F.newCall_zip_2 _ _) (λd=>F.args_object_init_3 d _ _) F.entry_zip_new (Dj l m xs ys) ⟨t1,t2',?_⟩;have g:(zg1 s.heap l).objs.size=s.z+1:=ai ..;have j:(zg1 (zg1 s.heap l) m).objs.size=s.z+2:=by rw[ai,g]
 have f:(zg3 s.heap l m).objs.size=s.z+3:=by rw[ai,j]
 have i:(zg4 s.heap l m).objs.size=s.z+4:=by rw[ai,f]
 have t:(zg5 s.heap l m).objs.size=s.z+5:=by rw[ai,i]
 have up: ∀{h:Heap} {o:Obj} {c:Addr} {x:Obj},h.get? c=pi x->(h.push o).get? c=pi x:=λe=>ae _ e;have b:(zg5 s.heap l m).get? (zg4 s.heap l m).objs.size=pi _:=af _ rfl;have q:(zg5 s.heap l m).get? (zg3 s.heap l m).objs.size=pi _:=up (af _ rfl);have p:(zg5 s.heap l m).get? (zg1 (zg1 s.heap l) m).objs.size=pi _:=up (up (af _ rfl));have n:(zg5 s.heap l m).get? (zg1 s.heap l).objs.size=pi _:=up (up (up (af _ rfl)));have r:(zg5 s.heap l m).get? s.z=pi _:=up (up (up (up (af _ rfl))));show _/\_;rw[j,f,i]at b;rw[g,j]at p;rw[f]at q;rw[g]at n;rw[i];exact⟨⟨_,b,rfl⟩,h _ b p q (AQ r) (AQ n) t λc o x=>up (up (up (up (up x))))⟩
end
noncomputable def Hq(K:nq)(l m:Addr):It:=
 ⟨λi H=>∃xs ys x y,SqT K H l xs/\SqT K H m ys/\xs[i]? =pi x/\ys[i]? =pi y,
  λi H v H'=>∃p x y,H p=qr/\v= .ref p/\(∀xs,SqT K H l xs->xs[i]? =pi x)/\(∀ys,SqT K H m ys->ys[i]? =pi y)/\H'=upd H p (.tup [x,y]),
  λi H=>∃xs ys,SqT K H l xs/\SqT K H m ys/\(xs.length<=i\/ys.length<=i)⟩
def wF{σ:St}{z TI TO i1 i2}(I:Inv X ce σ H s)(ru:bH x u)(rv:bH y v)(hf: ∀b∈[z,TI,TO,i1,i2],pM X ce H b)(hlt: ∀b∈[z,TI,TO,i1,i2],b<s.z)(a5:IsPair h' s.z u v)(a7: ∀c o,c≠z->c≠TO->c≠i1->c≠i2->s.heap.get? c=pi o->h'.get? c=pi o):(∀b∈[z,TI,TO,i1,i2],pM X ce (upd H s.z (.tup [x,y])) b)/\Inv X ce σ (upd H s.z (.tup [x,y])) {s with heap:=h'}:=by
 have h:Inv X ce σ (upd H s.z (.tup [x,y])) {s with heap:=s.heap.push {cls:=.type "tuple",data:=.seq #[u,v]} }:=
  I.laid (t':=s.toks) (λb o e=>ae _ e) (aj _) (show ObjOk X.prog X.w _ _ _ (.tup [x,y]) from⟨by rw[sizeLine_eq];simp,[u,v],.cons ru (.cons rv .nil),⟨_,af _ rfl,rfl,_,rfl⟩,⟨_,af _ rfl,rfl⟩⟩)
 have f: ∀b∈[z,TI,TO,i1,i2],pM X ce (upd H s.z (.tup [x,y])) b:=λb d=>⟨by rw[aD (bh (hlt b d))];exact(hf b d).1,(hf b d).2⟩;refine⟨f,jB (s:={s with heap:=s.heap.push {cls:=.type "tuple",data:=.seq #[u,v]} }) (t':=s.toks) h (λb o d e=>?_) f⟩;simp only[av,ki,or_false,not_or]at d;by_cases g:b=s.z;subst g;rw[show(s.heap.push {cls:=.type "tuple",data:=.seq #[u,v]}).get? s.z=pi _ from af _ rfl]at e;cases e;exact a5;have i:s.heap.get? b=pi o:=by
  exact(Heap.get?_push_ne _ b _ g).symm.trans e
 exact a7 b o d.1 d.2.2.1 d.2.2.2.1 d.2.2.2.2 i
def AR{K}{z TI TO i1 i2 l m}(D:ZipApart z TI TO i1 i2 l m):
  Turn P w K (.Tuple es x1 tp) (Hq K l m) [z,TI,TO,i1,i2] z (λi h=>IsZip h z TI TO .none/\IsPair h TI (.ref i1) (.ref i2)/\(∃a b,IsPair h TO a b)/\ItA h i1 l i/\ItA h i2 m i) where
 mem:=by simp
 obj:=λi h g b d=>by
  obtain⟨n,f,⟨a,c,j⟩,y4,y5⟩:=g;obtain⟨o4,r,d4⟩:=oO y4;obtain⟨o5,p,d5⟩:=oO y5;simp only[av,ki,or_false]at d;rcases d with rfl|rfl|rfl|rfl|rfl;exact⟨_,n,λv e=>by cases e⟩;exact⟨_,f,λv e=>by cases e⟩;exact⟨_,j,λv e=>by cases e⟩;exact⟨_,r,λv e=>by rw[d4]at e;cases e⟩;exact⟨_,p,λv e=>by rw[d5]at e;cases e⟩
 keep:=λi h M g k=>by
  obtain⟨n,f,⟨a,c,j⟩,y4,y5⟩:=g;exact⟨k _ (by simp) _ n,k _ (by simp) _ f,⟨a,c,k _ (by simp) _ j⟩,dA y4 λo e=>k _ (by simp) o e,dA y5 λo e=>k _ (by simp) o e⟩
 item:=by
  intro X hP hw hK T i ce s σ H E I hf g Z;subst hP hw hK;obtain⟨xs,ys,x,y,q1,L,O,hy⟩:=Z;obtain⟨us,r1,N,_⟩:=eN I q1;obtain⟨vs,U,p2,_⟩:=eN I L;obtain⟨u,J,ru⟩:=r1.get O;obtain⟨v,G,rv⟩:=U.get hy;obtain⟨n,f,⟨a,c,j⟩,r,p⟩:=g;have tI:TI<s.z:=ah f;have tz:z<s.z:=ah n;have tO:TO<s.z:=ah j;have t4:i1<s.z:=by obtain⟨o,e,_⟩:=oO r;exact ah e
  have t5:i2<s.z:=by obtain⟨o,e,_⟩:=oO p;exact ah e
  refine OG (I.ok.hd T) D n f j r p N p2 (λM u' v' t C a1 a2 a3 a4 a5 a6 a7=>⟨_,rfl,?_⟩) λh=>by simp[J,G]at h
  simp only[gr,J,G,Option.some.injEq]at t C;subst t C;have Q:H s.z=qr:=I.hok.fresh (aj _);have S: ∀b∈[z,TI,TO,i1,i2],b<s.z:=λb d=>by
   simp only[av,ki,or_false]at d;rcases d with rfl|rfl|rfl|rfl|rfl;exact tz;exact tI;exact tO;exact t4;exact t5
  obtain⟨A,Ib⟩:=wF I ru rv hf S a5 a7;refine wpAny_letOwnedTupleGo_zip a1 λh2 b1 B=>?_;have Ic:Inv X ce σ (upd H s.z (.tup [x,y])) {s with heap:=h2}:=jB (s:={s with heap:=M}) (t':=s.toks) Ib (λb o d e=>(B.2 b (λq=>d (by simp[q]))).trans e) A;refine⟨.ref s.z,_,Ic,rfl,⟨_,x,y,Q,rfl,λag ab=>by rw[lX I ab q1];exact O,λad Y=>by rw[lX I Y L];exact hy,rfl⟩,⟨b1,?_,⟨u,v,?_⟩,?_,?_⟩,λb d=>(A b d).1⟩;exact(B.2 _ D.TIz).trans (a7 _ _ D.TIz D.TITO D.TIi1 D.TIi2 f);exact(B.2 _ D.TOz).trans a2;exact dA a3 λo e=>(B.2 _ D.i1z).trans e;exact dA a4 λo e=>(B.2 _ D.i2z).trans e
 done:=by
  intro X hP hw hK T i ce s σ H E I hf g Z;subst hP hw hK;obtain⟨xs,ys,q1,L,O⟩:=Z;obtain⟨us,r1,N,_⟩:=eN I q1;obtain⟨vs,U,p2,_⟩:=eN I L;obtain⟨n,f,⟨a,c,j⟩,r,p⟩:=g;have n1:=r1.length;have n2:=U.length;refine OG (I.ok.hd T) D n f j r p N p2 (λM u v J G=>absurd (ay.mp (gr▸J)) λ⟨a,_⟩=>absurd (ay.mp (gr▸G)) λ⟨b,_⟩=>by lia) λ_ M k=>⟨rfl,jB (t':=s.toks) I (λb o d e=>?_) hf⟩;simp only[av,ki,or_false,not_or]at d;exact k b o d.1 d.2.2.1 d.2.2.2.1 d.2.2.2.2 e
 self:=λ_ _ _ _ _ g h=>wpAny_pyIter_zip g.1 h
section
variable{X:Cx}{ad:Ad}{ce:cg}{s:Shared}{σ:St}{H G:Hp}{Q:VK}{E:Nat->Hp->Prop}{ap cp:Pos}{o a:Expr}{f g:F}
def AS(e:Same G1 H1)(q:Seq X ad G1 H1 (.lst ds) x): ∃l xs,x= .ref l/\SqL X.K H1 l xs/\aI X.K ad G1 ds xs:=by rcases q with q|⟨l,b,ds',e1,e2,e3,e4,e5⟩;unfold Rep at q;obtain⟨l,b,rfl,c,d⟩:=q;exact⟨l,b,rfl,e.seq c,d⟩;cases e1;exact⟨l,b,e2,SqL.of e4,e5⟩
def AT{m}{id}{r}(slot:PySem.Slot "list" m id)(hty:typeOf (.builtin id)=pure (.type "method_descriptor"))
  (ho:ML X ad o f) (ha:ME X ad a g) (hs:starEach [a] X.env=(qu,eval a X.env)::starEach [] X.env) (hbase:attributeBase o m X.env (eval o X.env)=eval o X.env) (hline:(ap.endLine==cp.line)=qt)
  (hm: ∀ce s (σ:St) H G l xs ds y v u Q E,Inv X ce σ H s->Same G H->SqL X.K H l xs->aI X.K ad G ds xs->Rep X.K ad G y v->bH v u->
   RK X.K ad G H (r [.lst ds,y]) Q E->X.wp (call (.builtin id) [.ref l,u]) (EP X ce σ Q) X.xe s):ME X ad (.Call (.Attribute o m ap) [a] [] cp) (oA r f g):=by
 refine λce s σ H Q I B=>B.el λG z E hG c e W=>?_
 refine wpAny_Call_method_late hbase (fI hs) hline rfl (L2.thn (ho.lk ce s σ H G z _ Q E I hG c e W) λv s1 b=>?_)
 obtain⟨x,d,G1,H1,h,U,st1,q1,p⟩:=b
 cases d<;>try exact ba p
 rename_i ds;obtain⟨l,xs,rfl,q,t⟩:=AS st1.gh q1
 cases (show v=qe l from U)
 obtain⟨ab,rv,L,_⟩:=h.list q;obtain⟨j,n,i,C,Z,e4⟩:=L;refine⟨"list",id,ew,slot,hty,⟨j,i,C⟩,λa' ea=>by cases ea;exact⟨j,i,Z⟩,?_⟩
 rw[hs];refine fw rfl (gz (ix (L2.thn (ha.thn h st1.gh (c.step st1) e p) λu J ⟨w,y,S,T,O,Y,st2,N,M⟩=>ji ?_)))
 exact hm ce J σ T S l xs ds y w u Q E O st2.gh (st2.sh.seq q) (t.mono st2.sg) N Y M
def wG(hu:X.A.units+62<cLine)(ho:ML X ad o f)(ha:ME X ad a g)(hs:starEach [a] X.env=(qu,eval a X.env)::starEach [] X.env)(hbase:attributeBase o "count" X.env (eval o X.env)=eval o X.env)(hline:(ap.endLine==cp.line)=qt):
  ME X ad (.Call (.Attribute o "count" ap) [a] [] cp) (oA vK f g):=by
 refine AT PySem.F.slot_list_count PySem.F.type_list_count ho ha hs hbase hline ?_;intro S s O H G l T h y v u Q E I t N x q r k;have c:RK X.K ad G H (if Gh y h then .ok (.int ((h.countP λz=>deq z y):Nat))else .bad) Q E:=k;by_cases d:Gh y h=qt
 .rw[if_pos d]at c;obtain⟨i,M,⟨⟨J,dd,w,B⟩,n,m,j,C,p⟩,_⟩:=I.list N;simp only at j C p;subst j p;obtain⟨e,L,_,b,_⟩:=EN hu I t d q r x M;refine call_meets PySem.F.slot_list_count ⟨_,m,rfl⟩ PySem.F.entry_list_count (PySem.F.args_list_count_2 _ _) (SeqAt.list_countAt l i.toArray n dd B u e) ⟨m,L,?_⟩;refine⟨.int _,H,I.tok _,⟨_,rfl⟩,?_⟩;rw[<-b]at c;exact c.ok_now t bU
 .rw[if_neg d]at c;exact c.elim
def wI(hu:X.A.units+62<cLine)(ho:ML X ad o f)(ha:ME X ad a g)(hs:starEach [a] X.env=(qu,eval a X.env)::starEach [] X.env)(hbase:attributeBase o "index" X.env (eval o X.env)=eval o X.env)(hline:(ap.endLine==cp.line)=qt):
  ME X ad (.Call (.Attribute o "index" ap) [a] [] cp) (oA vL f g):=by
 refine AT PySem.F.slot_list_index PySem.F.type_list_index ho ha hs hbase hline ?_;intro ce s σ H G l xs d y v u Q E I J Y N q r k;have c:RK X.K ad G H (if Gh y d then(match d.findIdx? λz=>deq z y with|some k=>.ok (.int (k:Nat))|none=>.bad)else .bad) Q E:=k;by_cases h:Gh y d=qt;rw[if_pos h]at c;obtain⟨p,M,⟨⟨U,dd,L,O⟩,n,x,w,T,C⟩,Z⟩:=I.list Y;simp only at w T C;subst w C;obtain⟨e,W,_,_,b⟩:=EN hu I J h q r N M;cases B:d.findIdx? λz=>deq z y with
 |none=>rw[B]at c;exact c.elim
 |some j=>
  rw[B]at c b;obtain⟨S,hit,i⟩:=List.findIdx?_eq_some_iff_getElem.mp b;have hl:=M.length;refine call_meets PySem.F.slot_list_index ⟨_,x,rfl⟩ PySem.F.entry_list_index (PySem.F.args_list_index_2 _ _) (SeqAt.list_indexAt l p.toArray n dd O u e j (by simpa using S) ?_ (by simpa using hit) (λm hm t=>by simpa using i m t)) ⟨x,W,?_⟩;have:(sizeLine:Nat)<2^63-1:=by decide
  lia;exact⟨.int _,H,I.tok _,⟨_,rfl⟩,c.ok_now J bU⟩
 rw[if_neg h]at c;exact c.elim
def iZp(K:nq)(ta:TA):TI:=λσ H R=>ta σ H λvs H1=>∃l m xs ys,vs=[.ref l,.ref m]/\SqT K H1 l xs/\SqT K H1 m ys/\(xs.length<=sizeLine->R (Hq K l m) H1)
def Lp{kt}(hg:L2.Gl X "zip")(hm:X.mg "zip"=qr)(ha:PA X [a,b] ta)(he:starEach [a,b] X.env=(qu,eval a X.env)::starEach [b] X.env)(he2:starEach [b] X.env=(qu,eval b X.env)::starEach [] X.env):
  PI X (.Tuple es kt tp) (.Call (.Name "zip" p) [a,b] [] pos) (iZp X.K ta):=by
 intro Q s A H R I h;refine Call_ (gE (u:=.type "zip") I hg hm (by decide+kernel) (du (L2.thn (ha pos Q s A H _ I h) λT c ⟨U,M,d,C,q1⟩=>?_) he (by rw[he2];rfl)) (by decide) (by decide));obtain⟨l,m,xs,Y,rfl,g,i,q⟩:=q1;obtain⟨u,v,rfl,J,N⟩:=C.two;cases (show u=qe l from J);cases (show v=qe m from N);obtain⟨G,_,j,x⟩:=eN d g;obtain⟨r,_,w,_⟩:=eN d i;refine rD j w λZ n z y O L W B=>wpAny_pyIter_zip n ?_;have S:l<c.z:=by obtain⟨o,e,_⟩:=j;exact ah e
 have E:m<c.z:=by obtain⟨o,e,_⟩:=w;exact ah e
 refine⟨c.z+4,[c.z+4,c.z+2,c.z+3,c.z,c.z+1],_,Hq X.K l m,M,rfl,d.kept (t':=c.toks) B,AR (rC S E),⟨n,z,⟨_,_,y⟩,O,L⟩,λb t=>?_,q x⟩;have f:c.z<=b:=by
  simp only[av,ki,or_false]at t;rcases t with rfl|rfl|rfl|rfl|rfl;exact kl _ 4;exact kl _ 2;exact kl _ 3;exact aj _;exact kl _ 1
 exact d.fpOk f (d.hok.fresh f)
def AU{ds es:L1 D}{i:Nat}{d}(e:((ds.zip es).map λp=>D.tup [p.1,p.2])[i]? =pi d): ∃x y,ds[i]? =pi x/\es[i]? =pi y/\d= .tup [x,y]:=by rw[jj]at e;rcases q:(ds.zip es)[i]? with _|p;rw[q]at e;cases e;rw[q]at e;rw[List.getElem?_zip_eq_some]at q;exact⟨p.1,p.2,q.1,q.2,(ku e).symm⟩
abbrev isA(ds:L1 D)(d:D):Prop:=d= .tup ds
def oP(c:isA ds d)(r:Rep X.K ad G1 d v): ∃l vs,v= .ref l/\SqT X.K G1 l vs/\aI X.K ad G1 ds vs:=by cases c;unfold Rep at r;exact r
def Dk{G1 H1 H2:Hp}{l m}{i}{vs ws}{ds es}{d}{x:V}(h1:SqT X.K G1 l vs)(r1:aI X.K ad G1 ds vs)(h2:SqT X.K G1 m ws)(r2:aI X.K ad G1 es ws)(hg:Same G1 H1)(e:((ds.zip es).map λp=>D.tup [p.1,p.2])[i]? =pi d):
  (Hq X.K l m).go i H1/\∀x H2,(Hq X.K l m).yld i H1 x H2->∃G2,Step G1 H1 G2 H2/\Rep X.K ad G2 d x:=by
 obtain⟨x,y,o,n,rfl⟩:=AU e;obtain⟨v,c,q1⟩:=r1.get o;obtain⟨w,h,q⟩:=r2.get n;refine⟨⟨vs,ws,v,w,a8 hg h1,a8 hg h2,c,h⟩,?_⟩;rintro u r ⟨p,z,A,b,rfl,s,t,rfl⟩;have f:=s vs (a8 hg h1);rw[c]at f;cases f;have g:=t ws (a8 hg h2);rw[h]at g;cases g;refine⟨upd G1 p (.tup [v,w]),Step.new hg b,?_⟩;have j:Same G1 (upd G1 p (.tup [v,w])):=Same.upd_new (hg.free b);unfold Rep;exact⟨p,[v,w],rfl,SqT.of aH,aI.cons (q1.mono j) (aI.cons (q.mono j) aI.nil)⟩
def Dl{G1 H1:Hp}{l m}{vs ws}{ds es:L1 D}(h1:SqT X.K H1 l vs)(n1:vs.length=ds.length)(h2:SqT X.K H1 m ws)(n2:ws.length=es.length):(Hq X.K l m).stop ((ds.zip es).map λp=>D.tup [p.1,p.2]).length H1:=by
 refine⟨vs,ws,h1,h2,?_⟩;simp only[aq,ly]
 lia
def Lq{kt}(hg:L2.Gl X "zip")(hm:X.mg "zip"=qr)(ha:ME X ad a f)(hb:ME X ad b g)(he:starEach [a,b] X.env=(qu,eval a X.env)::starEach [b] X.env)(he2:starEach [b] X.env=(qu,eval b X.env)::starEach [] X.env):
  MI X ad (.Tuple es kt tp) (.Call (.Name "zip" p) [a,b] [] pos) (qG f g):=by
 rintro ce s t H W I ⟨G,ρ,E,hG,y,z,U⟩;refine Lp (ta:=sV (tE X ad f) (sV (tE X ad g) JC)) hg hm (cG ha (cG hb dR he2) he) he he2 ce s t H W I ?_;show tE X ad f t H λv M=>tE X ad g t M λN H2=>∃l m xs ys,[v,N]=[.ref l,.ref m]/\SqT X.K H2 l xs/\SqT X.K H2 m ys/\(xs.length<=sizeLine->W (Hq X.K l m) H2);refine tU hG y z U λv d G1 M A r k=>?_;refine tU A.gh (y.step A) z k λN B J H2 st2 Y o=>?_;obtain⟨u,h,Z,c2,o⟩: ∃u h,isA u d/\isA h B/\IK X ad J H2 (.ok (.lst ((u.zip h).map λp=>D.tup [p.1,p.2]))) W E:=by
  cases d<;>try exact ba o
  cases B<;>try exact ba o
  exact⟨_,_,rfl,rfl,o⟩
 obtain⟨al,e,O⟩:=o;cases e;obtain⟨l,Q,rfl,q1,y1⟩:=oP Z r;obtain⟨m,T,rfl,q,w⟩:=oP c2 Y;have n:=a8 st2.sg q1;have j:=y1.mono st2.sg;refine⟨l,m,Q,T,rfl,a8 st2.gh n,a8 st2.gh q,λS=>O _ J H2 (Step.refl st2.gh) ⟨λi C L d' c e=>?_,λC L c=>Dl (G1:=C) (a8 c.sh (a8 st2.gh n)) j.length (a8 c.sh (a8 st2.gh q)) w.length,?_⟩⟩;exact Dk (H2:=L) (x:=.ref l) (a8 c.sg n) (j.mono c.sg) (a8 c.sg q) (w.mono c.sg) c.gh e;have:=j.length;simp only[aq,ly];lia
end
section
open AutoSeq1 (wpAny_loadPart')
open MeetsSeq MeetsSeq2 MeetsSeq3 SeqRoads2 SeqAt
end
section
variable{X:Cx}{ad:Ad}
def aI.rev(r:aI X.K ad G ds vs):aI X.K ad G ds.reverse vs.reverse:=by
 induction ds generalizing vs with
 |nil=>cases vs with
  |nil=>exact r
  |cons v vs=>exact absurd r.length (by simp)
 |cons d ds f=>
  rcases vs with _|⟨v,vs⟩;exact absurd r.length (by simp);obtain⟨w,g,e,c,b⟩:=r;cases e;rw[jk,jk];exact(f b).append (aI.cons c aI.nil)
def Lr(ha:MLk X ad a f):ME X ad (.Subscript a (.Slice qr qr (pi (.UnaryOp .USub (.Constant (.int 1) j p4) p3)) p2) pos) (KA f):=by
 refine λM s C H Q I U=>U.el λG u E hG w z hr=>?_;refine Subscript_ (L2.thn (ha M s C H G u JE Q E I hG w z hr) λv s1 c=>?_);obtain⟨x,g,G1,H1,W,r1,st1,q1,k1⟩:=c;refine wpAny_Slice ?_;rw[evalPart_none];refine ac (ac ?_);rw[evalPart_some];have n:RK X.K ad G1 H1 ((Gi (rK (.int 1)) u).bind λy=>match y with|.int i=>if i= -1 then JE g else .bad|_=>.bad) Q E:=k1;refine L2.thn (ME.thn (ES (iZ (d:=.int 1) rfl)) W st1.gh (w.step st1) z n) λvk e c=>?_;obtain⟨y,Y,J,m,Z,r2,st2,B,h⟩:=c;cases Y<;>try exact ba h
 rename_i i;by_cases hi:i= -1;subst hi;have A:RK X.K ad J m (JE g) Q E:=h;unfold Rep at B;subst B;obtain⟨t,rfl⟩:=r2;have p:Inv X M C m {e with heap:=e.heap.push {cls:=.type "slice",data:=.fields #[.none,.none,.int (-1) t]} }:=Z.kept (t':=e.toks) λb ob q=>ae _ q;cases g<;>try exact ba A
 rename_i ds;obtain⟨l,xs,rfl,hq,O⟩:=AS st2.gh (Seq.step q1 st2);cases (show v=qe l from r1);obtain⟨ab,r,N,S⟩:=p.list hq;have L:=r.length;refine tail_any (T:="list") N.isList.typeIs list_getitem_lookup ?_ (by with_unfolding_all rfl);refine wpAny_getItem_list_slice N.isList (Heap.IsSliceOf.new ..) .none .none (.int (-1) t) (by decide) ?_ (by rw[ax]<;>lia);rw[krv_pick];refine⟨.ref _,_,p.laid (t':=e.toks) (o:=.lst xs.reverse) (λb ob q=>ae _ q) (aj _) ?_,rfl,RK.ow_new (xs:=ds.reverse) A st2.gh O.rev (p.hok.fresh (aj _))⟩;exact⟨by simpa using S,_,0,r.reverse,af _ rfl⟩;have:RK X.K ad J m (if i= -1 then JE g else .bad) Q E:=h;rw[if_neg hi]at this;exact this.elim
end
def OH(o:Obj)(q:Str):Prop:= ∃vs t,o.data= .fields vs/\vs[1]? =pi (.str q t)
structure Tb(P:Addr)(q:Str)(ps:Array Value)(cs:cg):Prop where
 ok:TriplesOk ps.toList
 cod: ∀pos cv,codeAmong pos ps.toList=pi cv->∃c o,cv= .ref c/\(c,o)∈cs/\OH o q
 ne: ∀p∈cs,p.1≠P
def rE{a b:Nat}(h:TriplesOk l):TriplesOk (l++[.int i a,.int j b,c]):=by
 fun_induction TriplesOk l with
 |case1=>trivial
 |case2 _ _ _ _ _ _ e=>exact e h
 |case3=>exact h.elim
def yD{pos pos':Pos}(t:TriplesOk l)(h:codeAmong pos' (l++[rawInt pos.line,rawInt pos.col,c])=pi cv):codeAmong pos' l=pi cv\/cv=c:=by
 fun_induction TriplesOk l with
 |case1=>
  simp only[lh,codeAmong,rawInt]at h;split at h;exact .inr (ku h).symm;cases h
 |case2 _ _ _ _ _ _ e=>
  simp only[km,codeAmong]at h ⊢;split at h;rename_i d;rw[if_pos d];exact .inl h;rename_i d;rw[if_neg d];exact e t h
 |case3=>exact t.elim
section
variable{cs ce:cg}{σ:St}{R':cf}
def AV(I:Inv X ((P,mh ps)::(cs++ce)) σ H s)(T:Tb P q ps cs)(hx:P∈X.ex)(hpn: ∀p∈X.pn++ce,p.1≠P)(hpar:defaultsOf params X.env=([],[]))(hq:X.env.qual++"<lambda>"=q)(hfree: ∀x,(x,m4)∈sc.names->X.env.kindOf x=pi .cell\/X.env.kindOf x=pi .free)(hcode:X.env.code= .ref c)(hC:mi s.heap c P)(hB:s.heap.BuiltinsAt X.mg P)(k: ∀(a:Addr) ps' (cs':cg) cv ctv s',Inv X ((P,mh ps')::(cs'++ce)) σ H s'->Tb P q ps' cs'->(∃more,ps'=ps++more)->(∀p∈cs',p∈cs\/s.z<=p.1)->s.z<=a->
   s'.heap.get? a=pi {cls:=.type "function",data:=.func (mj "<lambda>" q params body sc (lS X.env.cells sc.names []) ((X.mg "__name__").getD .none) cv ctv)}->s'.heap.CodeRec cv q->(∃c',cv= .ref c'/\H c'=qr/\c'≠X.env.locals/\c'∉X.fs)->
   (∀b o,b≠P->s.heap.get? b=pi o->s'.heap.get? b=pi o)->R' (.ref a) s'):
  X.wp (eval (.Lambda params body sc pos) X.env) R' X.xe s:=by
 have Q:closureFor sc X.env=pure (lS X.env.cells sc.names []):=jV λx hx=>by
  obtain⟨c,h⟩:=I.ok.has x (hfree x hx);rw[h];rfl
 have l:=I.pin (P,mh ps) (bt _ (.head _));have hg:s.heap.Ns mainGlobals X.mg:=I.mod.glob.keeps I.bk
 have ad:mainGlobals≠P:=λz=>by
  obtain⟨o,es,ep,e,S,_⟩:=hg;have Z:=l.1;rw[z]at e;rw[e]at Z;cases Z;cases S
 have I0:Inv X (cs++ce) σ H s:=I.pins_of λp g=>I.pin p (bt _ (.tail _ g))
 have K: ∀p∈X.pn++(cs++ce),p.1≠P:=λp g=>by
  rcases k6.mp g with h|h
  .exact hpn p (gy _ h)
  .rcases k6.mp h with h|h
   .exact T.ne p h
   .exact hpn p (bt _ h)
 have al: ∀b∈[P],(b∈X.ex\/X.s₀.z<=b)/\b≠X.env.locals/\(∀x c,X.env.cells.lookup x=pi c->c≠b)/\∀p∈X.pn++(cs++ce),p.1≠b:=λb j=>by
  rw[ja.mp j];exact⟨.inl hx,(I.ok.exf P hx).1,(I.ok.exf P hx).2,K⟩
 have after: ∀(C:Heap) (E:Nat),(∀b o,b≠P->s.heap.get? b=pi o->C.get? b=pi o)->Inv X (cs++ce) σ H {s with heap:=C,toks:=E}:=λC E f=>by
  have y: ∀b,b∉[P]->b≠P:=λb j z=>j (by rw[z];exact .head _)
  refine I0.step (ch:=[P]) (g':=s.gens) (d':=s.drawn) al (λb o _ _ j e _=>f b o (y b j) e) (λb o _ _ j e _=>⟨o.slots,f b o (y b j) e⟩) (λb o _ _ n=>n) (λb o j e=>⟨o,f b o (y b j) e⟩) (λ_ _ e=>e) (λ_ _ _ e=>e) (λb ps e=>⟨#[],by rw[e];simp⟩) (λm hn=>?_) (λa o e=>?_) I.bare
  .obtain⟨o,es,ep,e,r⟩:=hn;exact⟨o,es,ep,f _ o (I.ok.exf P hx).1.symm e,r⟩
  .have nP: ∀b,H b≠qr->b≠P:=λb j z=>j (by rw[z];exact l.2.1)
   refine(I.hok a o e).stay (λb u j q=>f b u ?_ q) (λ_ q=>q) λ_ _ q=>q
   rcases j with rfl|j
   .exact nP _ (by rw[e];exact λz=>nomatch z)
   .exact nP _ (by rw[j];exact λz=>nomatch z)
 refine PySem.W.kla_eval hpar ?_;rw[hq]
 cases hf:codeAmong pos ps.toList with
 |some cv=>
  refine PySem.W.kla_makeFunctionHit (mg:=X.mg) Q I.ok.glob hg hcode hC l.1 T.ok hf hB λctv C E hk ab=>?_
  obtain⟨O,Y,e1,m1,r1⟩:=T.cod pos cv hf;have U:=I.pin (O,Y) (bt _ (.tail _ (gy _ m1)))
  have f: ∀b o,s.heap.get? b=pi o->(C.push {cls:=.type "function",data:=.func (mj "<lambda>" q params body sc (lS X.env.cells sc.names []) ((X.mg "__name__").getD .none) cv ctv)}).get? b=pi o:=λb o e=>ae _ (hk b o e)
  refine k _ ps cs cv ctv _ ((after _ E λb o _ e=>f b o e).pins_of λp g=>?_) T ⟨#[],by simp⟩ (λp g=>.inl g) ab (af _ rfl) ?_ ⟨O,e1,U.2.1,U.2.2.1,U.2.2.2.1⟩ λb o _ e=>f b o e
  .have:=I.pin p (bt _ g)
   exact⟨f _ _ this.1,this.2⟩
  .obtain⟨vs,t,d,v⟩:=r1;exact⟨O,Y,vs,t,e1,f _ _ U.1,d,v⟩
 |none=>
  refine PySem.W.kla_makeFunction (mg:=X.mg) Q I.ok.glob hg hcode hC l.1 T.ok hf ad hB λc' ctv C E ag i am L ak=>?_
  obtain⟨c2,oc,vs,t,Z,G,S,hv⟩:=L;cases Z
  have f: ∀b o,b≠P->s.heap.get? b=pi o->(C.push (PySem.W.kla_obj "<lambda>" q params body sc (lS X.env.cells sc.names []) ((X.mg "__name__").getD .none) c' ctv)).get? b=pi o:=λb o ne e=>ae _ (ag b o ne e)
  have J:P<s.z:=ah l.1;have B: ∀v,oc.data≠ .cell v:=λv z=>by rw[S]at z;cases z
  have N:H c'=qr:=I.hok.fresh i
  refine k _ (ps++ #[rawInt pos.line,rawInt pos.col,.ref c']) ((c',oc)::cs) (.ref c') ctv _ ((after _ E f).pins_of λp g=>?_) ⟨?_,?_,?_⟩ ⟨_,rfl⟩ (λp g=>(av.mp g).elim (λz=>.inr (by rw[z];exact i)) .inl) (ny i (nz am)) (af _ rfl) ?_ ⟨c',rfl,N,oe (bg I.lt i),I.nofs i⟩ f
  .rcases av.mp g with rfl|g
   .exact⟨ae _ ak,l.2.1,l.2.2.1,l.2.2.2.1,λv z=>nomatch z⟩
   .rcases av.mp g with rfl|g
    .refine⟨ae _ G,N,?_,I.nofs i,B⟩;exact oe (bg I.lt i)
    .have:=I.pin p (bt _ (.tail _ g))
     exact⟨f _ _ (K p (bt _ g)) this.1,this.2⟩
  .rw[Array.toList_append];exact rE T.ok
  .intro M cv h;rw[Array.toList_append]at h;rcases yD T.ok h with h|rfl
   .obtain⟨O,Y,e1,m1,r1⟩:=T.cod M cv h;exact⟨O,Y,e1,.tail _ m1,r1⟩
   .exact⟨c',oc,rfl,.head _,vs,t,S,hv⟩
  .intro p g;rcases av.mp g with rfl|g
   .exact oe (bg J i)
   .exact T.ne p g
  .exact⟨c',oc,vs,t,rfl,ae _ G,S,hv⟩
end
noncomputable abbrev Dm(qual:Str)(sc:Scope)(L f:Addr)(cd:Value)(cl:L1 (Str×Addr)):qh:=PySem.W.envX qual sc L f cd cl
noncomputable def cxL(CX:CXT)(P:Program)(w:World)(K:nq)(mg:Str->L7 Value)(base:Heap)(N:L1 Str)(qual:Str)(sc:Scope)(f:Addr)(cd:Value)(cl:L1 (Str×Addr))(A:Around)(outer:L1 qh)(s:Shared)(H:Hp)(E:XK):Cx where
 prog:=P;w:=w;K:=K;mg:=mg;base:=base;A:=A.deeper (Dm qual sc s.z f cd cl);N:=N;s₀:=s;H₀:=H;env:=Dm qual sc s.z f cd cl;outer:=outer;stack:=Dm qual sc s.z f cd cl::outer;ex:=[];calm:=qt;fn:=λ_=>qu;pn:=[];xe:=λe s'=>wpAny (model P w) (A.deeper (Dm qual sc s.z f cd cl)) (leaving (Dm qual sc s.z f cd cl) e) (λ_ s''=>CX outer H s E e s'') (λe' s''=>CX outer H s E e' s'') s'
structure LamSc(N:List Str)(sc:Scope):Prop where
 kind:sc.kind= .function
 co:sc.isCoroutine=qu
 gen:sc.isGenerator=qu
 nocell: ∀x∈sc.names,x.2≠ .cell
 noloc: ∀x,sc.names.lookup x≠pi .local
section
variable{K:nq}{vs:L1 V}
def AW(S:LamSc N sc)(hd:A.handled=qr)(e0:Env0 P w K mg base A outer s H)(hns:h'.Ns s.z m)(hk: ∀b o,s.heap.get? b=pi o->h'.get? b=pi o)(inj: ∀x y c,cl.lookup x=pi c->cl.lookup y=pi c->x=y)(has: ∀x,sc.names.lookup x=pi .free->∃c,cl.lookup x=pi c)(cel: ∀x c,cl.lookup x=pi c->(∃v,s.heap.IsCell c v)/\H c=qr)(hl:vs.length=N.length)(hv: ∀(i:Nat) x v,N[i]? =pi x->vs[i]? =pi v->sc.names.lookup x=pi .free->∃u c,bH v u/\cl.lookup x=pi c/\s.heap.IsCell c (pi u)):
  Inv (cxL CX P w K mg base N qual sc f cd cl A outer s H E) [] (vs.map pi) H {s with heap:=h',toks:=t'}:=by
 have e: ∀b:Addr,b∉(cxL CX P w K mg base N qual sc f cd cl A outer s H E).ex:=λb z=>absurd (show b∈([]:L1 Addr) from z) (by simp);have j: ∀x,sc.names.lookup x≠pi .cell:=λx z=>S.nocell _ (ii z) rfl;refine⟨⟨e0.mod,S.kind,rfl,rfl,aj _,inj,λy d=>?_,λy c d _=>(bf d).elim,λ_=>hd,Around.frames_deeper e0.frames,.inr ⟨rfl,rfl⟩,λb z=>absurd z (e b),e0.bs,e0.bsz,λb _ _=>e b,λb z=>absurd z (e b),e0.funs,e0.frf⟩,
  rfl,e0.bare,Un.kept hk,⟨m,hns,λi y v G g l=>?_⟩,λy c h=>?_,e0.hok.fresh (aj _),λy c h=>(cel y c h).2,λp C=>absurd (show p∈([]:cg) from C) (by simp),e0.hok.kept hk,(aq ..).trans hl⟩
 have d:sc.names.lookup y=pi .cell\/sc.names.lookup y=pi .free:=d;rcases d with d|d;exact absurd d (j y);exact has y d;have t:vs[i]? =pi v:=by
  rw[jj]at g;rcases q:vs[i]? with _|a;rw[q]at g;cases g;rw[q]at g;cases g;rfl
 have l:sc.names.lookup y=pi .local\/sc.names.lookup y=pi .cell\/sc.names.lookup y=pi .free:=l;rcases l with z|z|z;exact absurd z (S.noloc y);exact absurd z (j y);obtain⟨u,c,r,B,o,n,hd⟩:=hv i y v G t z;exact⟨u,r,.inr ⟨.inr z,c,B,o,hk _ _ n,hd⟩⟩;obtain⟨⟨v,o,n,hd⟩,_⟩:=cel y c h;exact⟨v,o,hk _ _ n,hd⟩
def Hr(S:LamSc N sc)(hobj:s.heap.get? f=pi {cls:=.type "function",data:=.func (mj name qual params body sc cl pm cd ct)})(hcd:s.heap.CodeRec cd qual)(hbind:bindArgs (mj name qual params body sc cl pm cd ct) ⟨[],[]⟩=pure [])(hr:Room (k+1) A)(e0:Env0 P w K mg base A outer s H)(inj: ∀x y c,cl.lookup x=pi c->cl.lookup y=pi c->x=y)(has: ∀x,sc.names.lookup x=pi .free->∃c,cl.lookup x=pi c)(cel: ∀x c,cl.lookup x=pi c->(∃v,s.heap.IsCell c v)/\H c=qr)(hl:vs.length=N.length)(hv: ∀(i:Nat) x v,N[i]? =pi x->vs[i]? =pi v->sc.names.lookup x=pi .free->∃u c,bH v u/\cl.lookup x=pi c/\s.heap.IsCell c (pi u))(hb: ∃t,PE (cxL CX P w K mg base N qual sc f cd cl A outer s H E) body t/\t (vs.map pi) H Q):
  codeAny (model P w) A (.call (.ref f) ⟨[],[]⟩) (CR CX outer P w H s Q E) s:=by
 have lim:s.heap.NoLimit:=e0.mod.nolimit.keeps λb o e=>(e0.bs b o e).1;refine PySem.W.kla_callFunE hr.depth hobj rfl S.co S.gen rfl hcd ?_;rw[hbind];refine ac (wpAny_newFunctionEnv S.nocell (λx j=>nomatch j) (λn g d=>⟨lim.fresh _ d,?_⟩) S.kind);have hk: ∀b o,s.heap.get? b=pi o->n.get? b=pi o:=λb o e=>d.extBut b o (bh (ah e)) (ae _ e);show codeAny _ _ (.expr body (Dm qual sc s.z f cd cl)) _ _;obtain⟨t,m,r⟩:=hb;have I:=AW (CX:=CX) (E:=E) (t':=s.toks+0) (qual:=qual) (f:=f) (cd:=cd) S hr.hd e0 g hk inj has cel hl hv;refine PySem.W.kla_codeExpr (wpAny_mono (m [] _ (vs.map pi) H Q I r) (λv z h=>?_) λe z h=>h);obtain⟨x,l,J,p,q⟩:=h;exact⟨x,l,J.os,J.bare,J.base,J.hok,p,q⟩
end
structure RoomQ(k:Nat)(A:Around):Prop where
 dp:A.depth+3*k+5<recursionLimit
 un:A.units+16*k+200<cLine
structure FnOkQ(P:Program)(w:World)(K:nq)(mg:Str->Option Value)(base:Heap)(CX:CXT)(k:Nat)(f:Addr)(fd:FuncData)(ps:List Str)(sp:Sp):Prop where
 len: ∀vs H Q E,sp vs H Q E->vs.length=ps.length
 run: ∀(A:Around) (outer:List qh) (s:Shared) (H:Hp) (args:Args) (us:List Value) (vs:List V) (Q:VK) (E:XK),RoomQ k A->Env0 P w K mg base A outer s H->BindsTo s fd args (ps.zip us)->bW vs us->sp vs H Q E->
  codeAny (model P w) A (.call (.ref f) args) (CR CX outer P w H s Q E) s
noncomputable def qX(X:Cx)(A:Around)(Ex:cf):Cx:={X with A:=A,calm:=qu,xe:=Ex}
section
variable{σ:St}
def Ls(hA:A.frames=X.A.frames)(I:Inv X ce σ H s):Inv (qX X A Ex) ce σ H s:=
 ⟨⟨I.ok.mod,I.ok.kind,I.ok.glob,I.ok.blt,I.ok.above,I.ok.inj,I.ok.has,I.ok.cab,(λz=>(bf z).elim),hA.trans I.ok.frames,I.ok.stk,I.ok.exf,I.ok.bs,I.ok.bsz,I.ok.noex,I.ok.exfs,I.ok.funs,I.ok.frf⟩,I.os,I.bare,I.base,I.loc,I.cell,I.free,I.freeC,I.pin,I.hok,I.len⟩
def Lu(h:Cx.Ok X)(I:Inv (qX X A Ex) ce σ H s):Inv X ce σ H s:=
 ⟨h,I.os,I.bare,I.base,I.loc,I.cell,I.free,I.freeC,I.pin,I.hok,I.len⟩
end
section
variable{ad:Ad}{i:Nat}{q1:Str}{F:Fn}
def Dn(hi:X.N[i]? =pi en)(hv:Vis X.env.scope en)(hde:(en==gV)=qu)(hdc:(en==hZ)=qu)(hg:L2.Gl X x)(hm:X.mg x=pi (.ref fa))(hdb:(x==gV)=qu)(hk:l7 X.K (.ref fa)=qt)(hf:FnOkQ X.prog X.w X.K X.mg X.base (CXe X.prog X.w) kf fa fd [q1] (yC X.K ad 1 F))(hb:eE X.K fd [q1] [])(hr:RoomQ kf X.A)(he:starEach [.Name en p2] X.env=(qu,eval (.Name en p2) X.env)::starEach [] X.env)(hpl:(backTo pos (starEach [] X.env)).any (·.1)=qu):
  PE X (.Call (.Name x p) [.Name en p2] [] pos) (λσ H Q=>σ[i]? =pi (pi (.ref ea))/\yC X.K ad 1 F [.ref ea] H Q λ_ _ _=>False):=by
 rintro t s σ H Q I ⟨q,g⟩;refine wpAny_Call_Name_kw (eJ I hg hm ?_ hdb);refine i3 (h₀:=X.base) I.ok.mod.kin hk (L2.thn (cG (y0 hi hv hde hdc) dR he pos t s σ H (λh f=>h=[.ref ea]/\f=H) I ⟨.ref ea,q,rfl,rfl⟩) λd j ⟨h,f,c,r,m,l⟩=>⟨c.kIn,?_⟩) he hpl;subst m l;have n:(d++[]).length=[q1].length:=by rw[k7, <-r.length];rfl
 refine wpAny_call (codeAny_mono (hf.run X.A X.stack j f ⟨d,[]⟩ d [.ref ea] Q (λ_ _ _=>False) hr c.env0 (by have:=hb j d c.kIn n;rwa [k7]at this) r g) λr v b=>?_);rcases r with e|o;obtain⟨_,_,_,_,_,_,_,_,_,_,_,_,_,_,z⟩:=b;exact z.elim;cases o with
 |ret u=>exact c.after b
 |next=>exact ba b
 |brk=>exact ba b
 |cont=>exact ba b
end
section
variable{ad:Ad}{σ:St}
def yE{i:Nat}{F}{q1}(F0:Fram X)(hN:X.N.Nodup)(hi:X.N[i]? =pi en)(hil:X.env.scope.names.lookup en=pi .local)(hic:(en==hZ)=qu)(hgx:L2.Gl X x)(hmx:X.mg x=pi (.ref fa))(hdx:(x==gV)=qu)(hkx:l7 X.K (.ref fa)=qt)(hfx:FnOkQ X.prog X.w X.K X.mg X.base (CXe X.prog X.w) kf fa fd [q1] (yC X.K ad 1 F))(hbx:eE X.K fd [q1] [])(hrq: ∀v,RoomQ kf (X.A.mark v))(hg:L2.Gl X cx)(hm:X.mg cx=pi (.ref (ad.cls 0)))(hdb:(cx==gV)=qu)(hde:(en==gV)=qu)(hx:exmOne X.K (.ref (ad.cls c)) (.ref (ad.cls 0))=pi qt)(I:Inv X ce σ H s)(ho:s'.os=s.os)(hgn:AllBare s'.gens)(fly:Heap.FlyingW B X.stack ea (.ref (ad.cls c)) a0 s'.heap)(un:Un (frs X.stack) [] H H' s.heap s'.heap)(hok:HOk X.prog X.w H' s'.heap)(ne:H' ea=qr)(c8: ∀b o,s.heap.get? b=pi o->b∉frs X.stack->∃o',B.get? b=pi o')(c9: ∀b o,H' b=pi o->∃o',B.get? b=pi o')(hGe: ∃G,Same G (upd H' ea (EJ (ad.cls c) ea))/\Rep X.K ad G (.exc c) (.ref ea)/\RK X.K ad G (upd H' ea (EJ (ad.cls c) ea)) (F [.exc c]) D'.rt λ_ _=>False):
  (tX X ce D' (.ExceptHandler (pi (.Name cx cp)) (pi en) [.Return (pi (.Call (.Name x xp) [.Name en ep] [] ap)) rq] hp')).xe (.ref ea) s':=by
 have ab:X.A.frames=pi (X.env::X.outer):=by rw[<-F0.stk];exact I.ok.frames
 have Y: ∀{h:Heap},h.FunFrames B X.stack->∀b∈frs X.stack, ∀o,h.get? b=pi o->∀q,o.data≠ .fields q:=λff b hb o e=>by
  obtain⟨_,o2,Z,nf⟩:=ff.mem (b:=b) hb;rw[e]at Z;cases Z;exact nf
 have T: ∀C:Heap,B.StaysIn C->s'.heap.UpToSlots C->Inv X ce σ H' {s' with heap:=C}:=λC st2 up=>
  I.call' (ch:=[]) (s':={s' with heap:=C}) ho (OD un fly.1 st2 up (Y fly.2.2.1) c8) (Lm hok fly.1 st2 c9) hgn λb hb=>by simp at hb
 have g:s.heap.get? ea=qr:=by
  cases e:s.heap.get? ea with
  |none=>rfl
  |some o=>
   by_cases hf:ea∈frs X.stack
   .obtain⟨J,q,_,_,_,n,_,E,_⟩:=fly.2.2.2;exact absurd E (Y fly.2.2.1 ea hf J n q)
   .obtain⟨o',e'⟩:=c8 ea o e hf;rw[fly.2.1]at e';cases e'
 show X.wp (noteFrame (.ref ea) X.env) _ X.xe s';have r:=fly;rw[F0.stk]at r;refine wpAny_looks_onW ab F0.fr r λh1 L am=>?_
 refine wpAny_landsW L λC j al=>?_
 have t:=am.trans al;have U:=T C j.1 t;refine wpAny_handleBy_cons (codeAny_handlers_test ?_) (by intro z;cases z)
 refine dy U.ok.kind hg (Calls.loadGlobal_global (by rw[U.ok.glob];exact U.mod.glob.keeps U.bk) hm ?_) hdb
 have LT:Looks (model X.prog X.w) C (typeOf (.ref ea)) (.ref (ad.cls c)):=by
  obtain⟨J,q,_,_,_,n,⟨S,_⟩,E,_⟩:=j.2.2.2;exact S▸(Looks.ld n).andThen .now
 refine(exm_one (K:=X.K) U.kIn LT hx).at ?_;show codeAny _ _ _ _ _;refine codeAny_handlers_suite_as ?_;refine lands_againW j λh3 l an=>?_
 have J3:=T h3 l.1 (t.trans an)
 have O:oG h3 ea (ad.cls c):=by
  obtain⟨J,q,_,_,_,n,⟨S,_⟩,E,_⟩:=l.2.2.2;exact⟨J,q,n,S,E⟩
 have J4:Inv X ce σ (upd H' ea (EJ (ad.cls c) ea)) {s' with heap:=h3}:=by
  refine J3.track ne ?_ (λz=>?_) (λy d E z=>?_) (λp hp z=>?_) ?_
  .cases e:X.s₀.heap.get? ea with
   |none=>rfl
   |some o=>
    obtain⟨o',e1⟩:=I.base.there ea o e (by rw[F0.ex];simp)
    rw[g]at e1;cases e1
  .obtain⟨m,hn,_⟩:=I.loc;obtain⟨o,_,_,f,_⟩:=hn;rw[<-z,g]at f;cases f
  .obtain⟨v,o,f,_⟩:=I.cell y d E;rw[z,g]at f;cases f
  .obtain⟨f,_⟩:=I.pin p hp;rw[z,g]at f;cases f
  .obtain⟨J,q,n,S,E⟩:=O;refine⟨⟨J,q,n,S,E⟩,⟨J,n⟩,?_⟩;rintro ha hb ⟨o1,v1,e1,Z,e3⟩ k;exact⟨o1,v1,k _ e1,Z,e3⟩
 refine fS J4 hN hi (.inl hil) (v:=.ref ea) rfl (λs5 J5=>?_) (.inr hil)
 have ar:i<σ.length:=by rw[J4.len];exact(ay.mp hi).1
 have ag:(σ.set i (pi (.ref ea)))[i]? =pi (pi (V.ref ea)):=bj ar
 obtain⟨G,sG,rG,hq⟩:=hGe
 refine wpAny_mono (n6 (vB (Dn (X:=qX X (X.A.mark (pi (.ref ea))) _) (i:=i) (ea:=ea) hi (.inl hil) hde hic hgx hmx hdx hkx hfx hbx (hrq _) rfl rfl)) ce s5 (σ.set i (pi (.ref ea))) _ ⟨λ_ _=>False,λv H1=>D'.rt v H1,λ_ _=>False,λ_ _=>False⟩ (Ls rfl J5) ⟨ag,G,[.exc c],sG,?_,rfl,hq⟩) (λfl s6 hs=>?_) λ_ _ h=>h
 .unfold aI;exact⟨.ref ea,[],rfl,rG,by unfold aI;rfl⟩
 .cases fl with
  |next=>obtain⟨_,_,_,z⟩:=hs;exact z.elim
  |brk=>obtain⟨_,_,_,z⟩:=hs;exact z.elim
  |cont=>obtain⟨_,_,_,z⟩:=hs;exact z.elim
  |ret u=>
   obtain⟨v,M,H6,ak,r6,q6⟩:=hs;have J6:Inv X ce M H6 s6:=Lu J4.ok ak;have Q:i<M.length:=by rw[J6.len];exact(ay.mp hi).1
   show wpAny _ _ (do bindName X.env en .none;unbindBehindTheSuite X.env en hp') _ _ s6
   refine aa (wpAny_bindName (fS J6 hN hi (.inl hil) (v:=.non) rfl (λs7 J7=>?_) (.inr hil)))
   unfold unbindBehindTheSuite;refine wpAny_onRaise (De J7 hN hi hil (v:=.non) (bj Q) λs8 J8=>?_)
   exact⟨v,_,_,J8,r6,q6⟩
end
noncomputable def gN(F:Fn):R->R
 |.ok d=>.ok d
 |.ow xs=>.ow xs
 |.ex c=>match F [.exc c]with
  |.ok d=>.ok d
  |.ow xs=>.ow xs
  |_=>.bad
 |.bad=>.bad
section
variable{dn en x cx:Str}{cp xp ep ap hp' rq np dp rp tp:Pos}
noncomputable def kR(dn en x cx:Str)(cp xp ep ap hp' rq np dp rp tp:Pos):Stmt:=
 .Try [.Return (pi (.Call (.Name dn np) [] [] dp)) rp] [.ExceptHandler (pi (.Name cx cp)) (pi en) [.Return (pi (.Call (.Name x xp) [.Name en ep] [] ap)) rq] hp'] [] [] tp
end
abbrev nJ(h:Heap)(z TI TO T:Addr)(f:Bool):Prop:=h.get? z=pi {cls:=.type "zip",dict:=qr,data:=.fields #[rawInt T,.bool f,.bool qu,.ref TI,.ref TO],slots:= #[]}
section
variable{Ex:cf}
def Lv(ho:s.heap.get? a=pi o)(h:Q (pi o) s):wpAny (model prog w) A (loadIfAlive a) Q Ex s:=by
 have b:Q (s.heap.get? a) s:=by rw[ho];exact h
 exact λ_ _ _=>b
def OI{z TI TO T}(hz:nJ s.heap z TI TO T f)(hT:s.heap.get? T=pi o)(hQ: ∀h',nJ h' z TI TO T qt->n5 z s.heap h'->Q qu {s with heap:=h'}):
  wpAny (model prog w) A (dq (.ref z)) Q Ex s:=by
 unfold dq;refine aa (wpAny_field hz rfl (x:=rawInt T) rfl ?_);show wpAny _ _ (loadIfAlive ((T:Int).toNat) >>= _) _ _ _;rw[ju];refine aa (Lv hT ?_);simp only[Option.isNone_some,az,if_false];refine aa (wpAny_field hz rfl (x:=.bool f) rfl ?_);rcases f with _|_;rw[if_pos (show(pd qu != pd qt)=qt from rfl)];refine aa (wpAny_setField_rec hz (by simp) λd c b=>?_);exact ac (hQ d c b);rw[if_neg (show ¬((pd qt != pd qt)=qt) from bf)];exact ac (hQ s.heap hz (n5.refl _ _))
def QX{z TI TO i1 i2 l1 l2 T}(hh:A.handled=qr)(D:ZipApart z TI TO i1 i2 l1 l2)(hz:nJ s.heap z TI TO T f)(hT:s.heap.get? T=pi o)(hTI:IsPair s.heap TI (.ref i1) (.ref i2))(h1:ItA s.heap i1 l1 k1)(h2:ItA s.heap i2 l2 k2)(hl1:SeA s.heap l1 xs)(hl2:SeA s.heap l2 ys)(hQ: ∀h' x y,xs[k1]? =pi x->ys[k2]? =pi y->nJ h' z TI TO T qt->ItA h' i1 l1 (k1+1)->ItA h' i2 l2 (k2+1)->IsPair h' s.z x y->h'.objs.size=s.z+1->
   (∀c o,c≠z->c≠i1->c≠i2->s.heap.get? c=pi o->h'.get? c=pi o)->Q (pi (.ref s.z)) {s with heap:=h'})(hE:(xs[k1]? =qr\/ys[k2]? =qr)->∀h',(∀c o,c≠z->c≠TO->c≠i1->c≠i2->s.heap.get? c=pi o->h'.get? c=pi o)->Q qr {s with heap:=h'}):wpAny (model prog w) A (pyNext (.ref z)) Q Ex s:=by
 have m:s.TypeIs (.ref z) "zip":=⟨_,hz,rfl⟩;unfold pyNext;have n: ∀(h':Heap) (e:Addr),(xs[k1]? =qr\/ys[k2]? =qr)->(∀c o,c≠z->c≠TO->c≠i1->c≠i2->s.heap.get? c=pi o->h'.get? c=pi o)->(∃o,h'.get? e=pi o/\o.cls= .type "StopIteration")->wpAny (model prog w) A (do if(<-isInstance (.ref e) (.type "StopIteration"))=qt then pure qr else throw (.ref e)) Q Ex {s with heap:=h'}:=λh' e H B p=>by
  obtain⟨o,C,E⟩:=p;exact aa (wpAny_isInstance (T:="StopIteration") (b:=qt) ⟨o,C,E⟩ isSubtype_stop (ac (hE H _ B)))
 refine aa (wpAny_attempt (wpAny_callSpecial?_slot (name:=oq "__next__") m lw (wpAny_call_entry lw m F.entry_zip_next ?_ (F.args_zip_next_1 _))));show wpAny _ _ (field (.ref z) 2 >>= _) _ _ _;refine aa (wpAny_field hz rfl (x:=.bool qu) rfl ?_);show wpAny _ _ (field (.ref z) 3 >>= _) _ _ _;refine aa (wpAny_field hz rfl (x:=.ref TI) rfl (aa (wpAny_seqItems hTI rfl ?_)));show wpAny _ _ (dq (.ref z) >>= _) _ _ _;refine aa (OI hz hT λL v g=>?_);simp only[az,if_false];refine aa ?_;simp only[Array.forIn_toList,List.forIn_toArray,List.forIn_cons,List.forIn_nil];refine aa (aa (wpAny_holding ?_));show wpAny _ _ (ee (.ref i1) >>= _) _ _ _;refine aa (Di hh (eO h1 g D.i1z) (lY hl1 g D.l1z) (λx r u I d=>ac ?_) λr u e d p=>?_);rotate_left;exact n u e (.inl r) (λc o j _ i _ x=>d _ _ i ((g.2 _ j).trans x)) p;refine ac (aa (aa (wpAny_holding ?_)));show wpAny _ _ (ee (.ref i2) >>= _) _ _ _;refine aa (Di hh (eO (eO h2 g D.i2z) d D.i12.symm) (lY (lY hl2 g D.l2z) d D.l2i1) (λy t h J l=>ac ?_) λt h e l p=>?_);rotate_left;exact n h e (.inr t) (λc o j M i q x=>l _ _ q ((d.2 _ i).trans ((g.2 _ j).trans x))) p;refine ac (ac (aa (wpAny_newTuple (hsz:=by rw[sizeLine_eq];simp) ?_)));have hsz:h.objs.size=s.z:=by rw[l.1,d.1,g.1]
 have K:nJ h z TI TO T qt:=(l.2 _ D.i2z.symm).trans ((d.2 _ D.i1z.symm).trans v);have G: ∀c o,c≠z->c≠i1->c≠i2->s.heap.get? c=pi o->h.get? c=pi o:=λc o j i q e=>(l.2 _ q).trans ((d.2 _ i).trans ((g.2 _ j).trans e));have up: ∀{c:Addr} {x':Obj},h.get? c=pi x'->(h.push {cls:=.type "tuple",data:=.seq #[x,y]}).get? c=pi x':=λe=>ae _ e;refine ac ⟨_,rfl,ac ?_⟩;show Q (pi (.ref h.objs.size)) _;rw[hsz];refine hQ _ x y r t (up K) ?_ ?_ (by rw[<-hsz];exact af _ rfl) (by rw[ai,hsz]) λc o j i q e=>up (G c o j i q e);exact dA (eO I l D.i12) λo e=>up e;exact dA J λo e=>up e
end
def ZS(z TI TO i1 i2 l m N:Addr)(i:Nat)(h:Heap):Prop:=
 (IsZip h z TI TO .none\/∃T f o,nJ h z TI TO T f/\N<=T/\h.get? T=pi o)/\IsPair h TI (.ref i1) (.ref i2)/\(∃a b,IsPair h TO a b)/\ItA h i1 l i/\ItA h i2 m i
structure ZB(z TI TO i1 i2 N:Addr):Prop where
 z:z<N
 TI:TI<N
 TO:TO<N
 i1:i1<N
 i2:i2<N
section
variable{Ex:cf}{TI TO:Addr}
def ZS.keep(B:ZB z TI TO i1 i2 N)(q:ZS z TI TO i1 i2 l m N i h)(k: ∀c o,(c=z\/c=TI\/c=TO\/c=i1\/c=i2\/N<=c)->h.get? c=pi o->h'.get? c=pi o):ZS z TI TO i1 i2 l m N i h':=by obtain⟨d,q1,⟨a,b,n⟩,j,g⟩:=q;refine⟨?_,k _ _ (by simp) q1,⟨a,b,k _ _ (by simp) n⟩,dA j λo e=>k _ o (by simp) e,dA g λo e=>k _ o (by simp) e⟩;rcases d with d|⟨T,f,o,d,hN,hT⟩;exact .inl (k _ _ (by simp) d);exact .inr ⟨T,f,o,k _ _ (by simp) d,hN,k _ _ (by simp[hN]) hT⟩
def AX(hh:A.handled=qr)(D:ZipApart z TI TO i1 i2 l m)(B:ZB z TI TO i1 i2 N)(hN:N<=s.z)(q:ZS z TI TO i1 i2 l m N i s.heap)(hl1:SeA s.heap l xs)(hl2:SeA s.heap m ys)(hQ: ∀h' x y,xs[i]? =pi x->ys[i]? =pi y->ZS z TI TO i1 i2 l m N (i+1) h'->IsPair h' s.z x y->h'.objs.size=s.z+1->
   (∀c o,c≠z->c≠TO->c≠i1->c≠i2->s.heap.get? c=pi o->h'.get? c=pi o)->Q (pi (.ref s.z)) {s with heap:=h'})(hE:(xs[i]? =qr\/ys[i]? =qr)->∀h',(∀c o,c≠z->c≠TO->c≠i1->c≠i2->s.heap.get? c=pi o->h'.get? c=pi o)->Q qr {s with heap:=h'}):wpAny (model prog w) A (pyNext (.ref z)) Q Ex s:=by
 obtain⟨g,q1,⟨a,b,C⟩,E,v⟩:=q;rcases g with g|⟨T,f,o,g,hT,hTo⟩;exact OG hh D g q1 C E v hl1 hl2 (λh' x y n r p I j t h u d=>hQ h' x y n r ⟨.inr ⟨_,qu,_,p,hN,h⟩,d _ _ D.TIz D.TITO D.TIi1 D.TIi2 q1,⟨_,_,I⟩,j,t⟩ h u d) hE;have H:=B.z;have J:=B.i1;have M:=B.i2;have O:=B.TO;refine QX hh D g hTo q1 E v hl1 hl2 (λh' x y n r p j t h u d=>hQ h' x y n r ⟨.inr ⟨T,qt,_,p,hT,d _ _ ?_ ?_ ?_ hTo⟩,d _ _ D.TIz D.TIi1 D.TIi2 q1,⟨_,_,d _ _ D.TOz D.TOi1 D.TOi2 C⟩,j,t⟩ h u λc o G S L K e=>d c o G L K e) hE;exact oe (bg H hT);exact oe (bg J hT);exact oe (bg M hT)
end
def Step.put(st:Step G H G' H')(n:H S=qr)(g:G' S=qr):Step G H G' (upd H' S o):=
 ⟨st.sg,λb u e=>by rw[aD (aQ e g)];exact st.gh b u e,λb u e=>by rw[aD (aQ e n)];exact st.sh b u e,st.nw⟩
section
variable{ad:Ad}{σ:L2.St}{TI TO:Addr}{R:Result->Shared->Prop}
noncomputable abbrev pD(ds es:L1 D):L1 D:=(ds.zip es).map λp=>D.tup [p.1,p.2]
def Do(hh:A.handled=qr)(D:ZipApart z TI TO i1 i2 l m)(B:ZB z TI TO i1 i2 N)(hSN:S<N)res(hq1:SqT X.K G0 l xs)(hq2:SqT X.K G0 m ys)(hr1:aI X.K ad G0 ds xs)(hr2:aI X.K ad G0 es ys)(hS0:H0 S=qr):
  ∀k i G H s acc c vs,(pD ds es).length-i=k->i<=(pD ds es).length->N<=s.z->Inv X ce σ H s->(∀b∈[z,TI,TO,i1,i2],pM X ce H b)->Step G0 H0 G H->G S=qr->H S=pi (.lst vs)->
   ZS z TI TO i1 i2 l m N i s.heap->s.heap.get? S=pi {cls:=.type "list",dict:=qr,data:=.seq acc c,slots:= #[]}->bW vs acc.toList->aI X.K ad G ((pD ds es).take i) vs->
   (∀s' G' H' vs',Inv X ce σ H' s'->Step G0 H0 G' H'->G' S=qr->H' S=pi (.lst vs')->aI X.K ad G' (pD ds es) vs'->R (.ok (.ret res)) s')->
   codeAny (model X.prog X.w) A (.builtin "list.extend.loop" ⟨[.ref S,.ref z,res],[]⟩) R s:=by
 intro k
 induction k with
 |zero=>
  intro i G H s acc c vs hk hi p I Y j gS W zs L T U hR
  have E:i=(pD ds es).length:=by lia
  obtain⟨us,r1,p1,_⟩:=eN I (a8 j.gh (a8 j.sg hq1));obtain⟨ws,r2,p2,_⟩:=eN I (a8 j.gh (a8 j.sg hq2));have n1:=r1.length;have n2:=r2.length;have n3:=hr1.length;have n4:=hr2.length;refine codeAny_builtin F.entry_extend_loop ?_;rw[g8 im _];show wpAny _ A.in1 (pyNext (.ref z) >>= _) _ _ s;refine aa (AX hh D B p zs p1 p2 (λM u v Z T=>?_) λ_ M kp=>?_)
  .have a1:=(ay.mp (gr▸Z)).1;have a2:=(ay.mp (gr▸T)).1;simp only[pD,aq,ly]at E
   lia
  .have I2:Inv X ce σ H {s with heap:=M}:=jB (t':=s.toks) I (λb o f e=>by
    simp only[av,ki,or_false,not_or]at f;exact kp b o f.1 f.2.2.1 f.2.2.2.1 f.2.2.2.2 e) Y
   refine ac (hR _ G H vs I2 j gS W ?_);rw[E,ke]at U;exact U
 |succ k ih=>
  intro i G H s acc c vs hk hi p I Y j gS W zs L T U hR;have r:i<(pD ds es).length:=by lia
  obtain⟨us,r1,p1,z1⟩:=eN I (a8 j.gh (a8 j.sg hq1));obtain⟨ws,r2,p2,_⟩:=eN I (a8 j.gh (a8 j.sg hq2));obtain⟨d1,d2,e1,e2,hd⟩:=AU (bd r);obtain⟨x,g1,q1⟩:=hr1.get e1;obtain⟨y,g2,q2⟩:=hr2.get e2;obtain⟨u,Z,ru⟩:=r1.get g1;obtain⟨v,hw,rv⟩:=r2.get g2;have n3:=hr1.length
  have nv:vs.length=i:=by rw[U.length,kc];lia
  have na:acc.size=i:=by have:=T.length;simp at this;lia
  have il:i+1<=sizeLine:=by simp only[pD,aq,ly]at r;lia
  refine codeAny_builtin F.entry_extend_loop ?_;rw[g8 im _];show wpAny _ A.in1 (pyNext (.ref z) >>= _) _ _ s;refine aa (AX hh D B p zs p1 p2 (λM u' v' O C ag a5 a6 a7=>?_) λh=>by simp[Z,hw]at h)
  simp only[gr,Z,hw,Option.some.injEq]at O C;subst O C
  have ak:H s.z=qr:=I.hok.fresh (aj _)
  have bz:=B.z;have b1:=B.i1;have b2:=B.i2;have b3:=B.TO;have b4:=B.TI
  have ab: ∀b∈[z,TI,TO,i1,i2],b<s.z:=λb f=>by
   simp only[av,ki,or_false]at f;rcases f with rfl|rfl|rfl|rfl|rfl
   .exact bg bz p
   .exact bg b4 p
   .exact bg b3 p
   .exact bg b1 p
   .exact bg b2 p
  have t:S≠s.z:=bh (bg hSN p)
  have d: ∀b∈[z,TI,TO,i1,i2],b≠S:=λb f e=>by
   have:=(Y b f).1
   rw[e,W]at this;cases this
  obtain⟨Q,Ib⟩:=wF I ru rv Y ab a5 a7
  have al:(upd H s.z (.tup [x,y])) S=pi (.lst vs):=by rw[aD t];exact W
  have g:M.get? S=pi {cls:=.type "list",dict:=qr,data:=.seq acc c,slots:= #[]}:=a7 S _ (qq (d z (by simp))) (qq (d TO (by simp))) (qq (d i1 (by simp))) (qq (d i2 (by simp))) L
  have st1:Step G H (upd G s.z (.tup [x,y])) (upd H s.z (.tup [x,y])):=Step.new j.gh ak
  have rp:Rep X.K ad (upd G s.z (.tup [x,y])) (.tup [d1,d2]) (.ref s.z):=by
   unfold Rep;exact⟨_,[x,y],rfl,SqT.of aH,aI.cons (q1.mono (j.sg.trans st1.sg)) (aI.cons (q2.mono (j.sg.trans st1.sg)) aI.nil)⟩
  have J:(upd G s.z (.tup [x,y])) S=qr:=by rw[aD t];exact gS
  show wpAny _ A.in1 (updateSeq S (·.push (.ref s.z)) >>= _) _ _ _
  refine aa ?_
  have zB:bW (vs++[.ref s.z]) (acc.push (.ref s.z)).toList:=by
   rw[Array.toList_push];exact T.append (.cons rfl .nil)
  refine wpAny_updateSeq g rfl (ac ⟨plainId_quiet im _,ih (i+1) (upd G s.z (.tup [x,y])) (upd (upd H s.z (.tup [x,y])) S (.lst (vs++[.ref s.z]))) _ (acc.push (.ref s.z)) _ (vs++[.ref s.z]) (by lia) r ?_ ?_ ?_ ((j.trans st1).put hS0 J) J aH (ZS.keep B ag λc o n e=>?_) (gi _ g rfl) zB ?_ hR⟩)
   (by rw[na];lia) (by show(acc.push _).size<=sizeLine+1;rw[Array.size_push,na];lia)
  .show N<=(M.update S _).objs.size;rw[kn,a6];exact Nat.le_succ_of_le p
  .refine Inv.write (t':=s.toks) Ib (x:=S) (e:=S) (by rw[al];trivial) (.inl rfl) (λb o f e=>(fq _ _ (qq f)).trans e) ⟨_,gi _ g rfl⟩ ?_
   exact show ObjOk X.prog X.w _ _ _ (.lst _) from⟨by simp;lia,(acc.push (.ref s.z)).toList,_,zB,by rw[Array.toArray_toList];exact gi (pj (·.push (.ref s.z))) g rfl⟩
  .intro b f;refine⟨?_,(Q b f).2⟩;rw[aD (d b f)];exact(Q b f).1
  .refine(fq _ _ (λq:S=c=>?_)).trans e
   subst q;rcases n with n|n|n|n|n|n
   .exact d z (by simp) n.symm
   .exact d TI (by simp) n.symm
   .exact d TO (by simp) n.symm
   .exact d i1 (by simp) n.symm
   .exact d i2 (by simp) n.symm
   .exact absurd hSN (pq.mpr n)
  .rw[List.take_succ,bd r,hd];exact(U.mono st1.sg).append (aI.cons rp aI.nil)
end
def yF:typeLookup (.type "zip") "__len__"=pure qr:=by rw[typeLookup_type,builtinLookup_eq_fast];kernel_rfl
def t0:typeLookup (.type "zip") "__length_hint__"=pure qr:=by rw[typeLookup_type,builtinLookup_eq_fast];kernel_rfl
section
variable{R:Result->Shared->Prop}
def Ht{z TI TO S}(hz:IsZip s.heap z TI TO .none)(hS:s.heap.get? S=pi {cls:=.type "list",data:=.seq #[] c₀})(hL: ∀h' c,(∀b o,b≠S->s.heap.get? b=pi o->h'.get? b=pi o)->h'.objs.size=s.z->h'.get? S=pi {cls:=.type "list",dict:=qr,data:=.seq #[] c,slots:= #[]}->codeAny (model prog w) A (.builtin "list.extend.loop" ⟨[.ref S,.ref z,res],[]⟩) R {s with heap:=h'}):
  wpAny (model prog w) A.in1 (dw (.ref S) (.ref z) res)
   (λfin s'=>match fin with|.done f=>R (.ok f) s'|.again c'=>c'.quiet=qt/\codeAny (model prog w) A c' R s') (λe s'=>R (.error e) s') s:=by
 have h:S≠z:=λe=>by rw[e,hz]at hS;simp at hS
 have i:s.TypeIs (.ref z) "zip":=⟨_,hz,rfl⟩;unfold dw;refine aa (wpAny_typeOf i ?_);have n:Builtin.List.listSameRef (.ref S) (.ref z)=qu:=by simp[Builtin.List.listSameRef,h]
 have p:(pe "zip"==pe "list")=qu:=by decide
 have m:(pe "zip"==pe "tuple")=qu:=by decide
 simp only[n,p,m,Bool.or_false,az,if_false];refine aa (wpAny_pyIter_zip hz ?_);refine aa (wpAny_holding ?_);unfold Builtin.List.listLengthHint;refine aa (wpAny_specialOf i yF ?_);show wpAny _ A.in1 (specialOf (qe z) (oq "__length_hint__") >>= _) _ _ _;refine aa (wpAny_specialOf i t0 ?_);refine ac ?_;show wpAny _ A.in1 (rule "list.extend.makes-room" >>= λ_=>Builtin.List.listTouch (.ref S) >>= λ_=>
  again (.builtin "list.extend.loop" ⟨[.ref S,.ref z,res],[]⟩)) _ _ _
 refine aa (wpAny_rule ?_);refine aa ?_;show wpAny _ A.in1 (updateSeq S (·.push .none) >>= λ_=>updateSeq S (·.pop)) _ _ _;refine aa (wpAny_updateSeq hS rfl ?_);have d:=gi (pj (·.push pc)) hS rfl;refine wpAny_updateSeq (hz:=by seq_fits) d rfl ?_;have g:=gi (pj (·.pop)) d rfl;have j: ∀b o,b≠S->s.heap.get? b=pi o->((s.heap.update S (pj (·.push pc))).update S (pj (·.pop))).get? b=pi o:=
  λb o l e=>(fq _ _ (qq l)).trans ((fq _ _ (qq l)).trans e)
 exact ac ⟨plainId_quiet im _,hL _ _ j (by rw[kn,kn]) g⟩
def Dp{z TI TO S}(hz:IsZip s.heap z TI TO .none)(hS:s.heap.get? S=pi {cls:=.type "list",data:=.seq #[]})(hL: ∀h' c,(∀b o,b≠S->s.heap.get? b=pi o->h'.get? b=pi o)->h'.objs.size=s.z->h'.get? S=pi {cls:=.type "list",dict:=qr,data:=.seq #[] c,slots:= #[]}->codeAny (model prog w) A (.builtin "list.extend.loop" ⟨[.ref S,.ref z,.none],[]⟩) R {s with heap:=h'}):
  wpAny (model prog w) A.in1 (Builtin.«list.__init__» ⟨[.ref S,.ref z],[]⟩)
   (λfin s'=>match fin with|.done f=>R (.ok f) s'|.again c'=>c'.quiet=qt/\codeAny (model prog w) A c' R s') (λe s'=>R (.error e) s') s:=by
 have i:S≠z:=λe=>by rw[e,hz]at hS;simp at hS
 show wpAny _ _ (do let old<-Builtin.List.listItems (.ref S);Builtin.List.listUpdate (.ref S) (λ_=> #[]);letGo old.toList.reverse;dw (.ref S) (.ref z) .none) _ _ s;refine aa ?_;unfold Builtin.List.listItems;refine aa (wpAny_seqItems hS rfl (ac ?_));show wpAny _ _ (updateSeq S (λ_=> #[]) >>= λ_=>letGo (#[]:Array Value).toList.reverse >>= λ_=>dw (.ref S) (.ref z) .none) _ _ s;refine aa (wpAny_updateSeq hS rfl ?_);have d:=gi (pj (λ_=>(#[]:Array Value))) hS rfl;have g: ∀b o,b≠S->s.heap.get? b=pi o->(s.heap.update S (pj (λ_=>(#[]:Array Value)))).get? b=pi o:=
  λb o h e=>(fq _ _ (qq h)).trans e
 refine aa (wpAny_letGo ?_);refine Ht (g z _ (qq i) hz) d λh' c hk l j=>?_;exact hL h' c (λb o h e=>hk b o h (g b o h e)) (by rw[l];exact kn ..) j
end
section
variable{ad:Ad}{σ:St}
def oQ(hc:X.calm=qt)(I:Inv X ce σ H s)(hG:Same G H)(hq1:SqT X.K G l xs)(hq2:SqT X.K G m ys)(hr1:aI X.K ad G ds xs)(hr2:aI X.K ad G es ys)(k:RK X.K ad G H (.ow (pD ds es)) Q E):
  X.wp (call (.type "zip") [.ref l,.ref m]) (λv s1=>X.wp (call (.type "list") [v]) (EP X ce σ Q) X.xe s1) X.xe s:=by
 obtain⟨us,_,C,_⟩:=eN I (a8 hG hq1);obtain⟨ws,_,O,_⟩:=eN I (a8 hG hq2);refine rD C O λd M T S a4 a5 n Y=>?_;have l1:l<s.heap.objs.size:=by obtain⟨o,e,_⟩:=C;exact ah e
 have Z:m<s.heap.objs.size:=by obtain⟨o,e,_⟩:=O;exact ah e
 refine callType_codes (Q₁:=λh f=>h= .ref d.objs.size/\f={s with heap:=d.push {cls:=.type "list",data:=.seq #[]} }) F.called_list (F.typeCall_list_1 _) F.entry_list_init
  (code_list_new _ ⟨rfl,rfl⟩) λh f i=>?_
 obtain⟨rfl,rfl⟩:=i;have J:(d.push {cls:=.type "list",data:=.seq #[]}).get? d.objs.size=pi {cls:=.type "list",data:=.seq #[]}:=af _ rfl;have y:IsZip (d.push {cls:=.type "list",data:=.seq #[]}) _ _ _ .none:=ae _ M;refine⟨⟨_,J,rfl⟩,F.args_list_init_2 _ _,Dp (A:=X.A.in1) y J λq c hk hn j=>?_⟩;have ge: ∀b,s.heap.objs.size<=b->pM X ce H b:=λb p=>I.fpOk p (I.hok.fresh p);have r:H d.objs.size=qr:=I.hok.fresh (by rw[n];exact kl _ _);have up: ∀b o,d.get? b=pi o->q.get? b=pi o:=λb o e=>hk b o (bh (ah e)) (ae _ e);have W:Inv X ce σ (upd H d.objs.size (.lst [])) {s with heap:=q}:=
  I.laid (t':=s.toks) (λb o e=>up b o (Y b o e)) (by rw[n];exact kl _ _) (show ObjOk X.prog X.w _ q _ (.lst []) from⟨by simp,[],c,.nil,j⟩)
 have x:q.objs.size=s.heap.objs.size+6:=by rw[hn];show(d.push _).objs.size=_;rw[ai,n]
 refine Do (A:=X.A.in1) (ad:=ad) (G0:=G) (H0:=H) (N:=s.heap.objs.size+6) (I.ok.hd hc) (rC l1 Z) ⟨?_,?_,?_,?_,?_⟩ ?_ .none hq1 hq2 hr1 hr2 r _ 0 G _ {s with heap:=q} #[] c [] rfl (bu _) (Nat.le_of_eq x.symm) W (λb p=>?_) (Step.own hG r) (hG.free r) aH
  ⟨.inl (up _ _ M),up _ _ T,⟨_,_,up _ _ S⟩,dA a4 λo e=>up _ o e,dA a5 λo e=>up _ o e⟩ j .nil aI.nil λs' G' L u U z B t r'=>?_
 exact io (by decide) _;exact io (by decide) _;exact io (by decide) _;exact Nat.lt_add_of_pos_right (by decide);exact io (by decide) _;rw[n];exact io (by decide) _;have g:s.heap.objs.size<=b/\b≠s.heap.objs.size+5:=by
  simp only[av,ki,or_false]at p;rcases p with rfl|rfl|rfl|rfl|rfl<;>exact⟨by simp,by simp⟩
 exact⟨by rw[aD (by rw[n];exact g.2)];exact(ge b g.1).1,(ge b g.1).2⟩;exact⟨rfl,.ref d.objs.size,L,U,rfl,k _ u G' L z r B t r'⟩
def zl:D->D->R
 |.tup xs,.tup ys=>.ow (pD xs ys)
 |_,_=>.bad
def Hu:aF x9 [qG f g] ρ=(f ρ).bind λx=>(g ρ).bind λy=>zl x y:=by unfold aF lJ args args qG;rcases f ρ with x|d|c|_;rcases g ρ with y|b|c|_;cases x<;>cases y<;>rfl;cases x<;>rfl;rfl;rfl;rcases g ρ with y|b|c|_;cases y<;>rfl;rfl;rfl;rfl;rfl;rfl
def t6(hg:L2.Gl X "zip")(hm:X.mg "zip"=qr)(hgl:L2.Gl X "list")(hml:X.mg "list"=qr)(hc:X.calm=qt)(ha:ME X ad a f)(hb:ME X ad b g)(he:starEach [a,b] X.env=(qu,eval a X.env)::starEach [b] X.env)(he2:starEach [b] X.env=(qu,eval b X.env)::starEach [] X.env):
  ME X ad (.Call (.Name "list" p) [.Call (.Name "zip" p2) [a,b] [] pos2] [] pos) (aF x9 [qG f g]):=by
 refine λce s σ H Q I z=>z.el λG ρ E hG o r x=>?_;rw[Hu]at x;refine Call_ (gE (u:=.type "list") I hgl hml (by decide+kernel) (du ?_ rfl rfl) (by decide) (by decide));refine ix ?_;refine Call_ (gE (u:=.type "zip") I hg hm (by decide+kernel) (du ?_ he (by rw[he2];rfl)) (by decide) (by decide));rw[he];refine ix (L2.thn (ha.thn I hG o r x) λu s1 h=>?_);obtain⟨v,d,G1,H1,A,S,t,q,Y⟩:=h;rw[he2];refine ix (L2.thn (hb.thn A t.gh (o.step t) r Y) λN s2 ⟨v2,w,M,O,L,T,st2,J,e⟩=>ji ?_);obtain⟨i,n,W,Z,C⟩: ∃i n,isA i d/\isA n w/\RK X.K ad M O (.ow (pD i n)) Q E:=by
  cases d<;>try exact ba e
  cases w<;>try exact ba e
  exact⟨_,_,rfl,rfl,e⟩
 obtain⟨l,xs,rfl,c,y⟩:=oP W (q.mono st2.sg);obtain⟨m,ys,rfl,j,U⟩:=oP Z J;cases (show u=qe l from S);cases (show N=qe m from T);exact L2.thn (oQ hc L st2.gh c j y U C) λv s3 B=>ji B
end
theorem wJ{α β:Type}{f g:α->L7 β}: ∀{l:L1 α},(∀x∈l,f x=g x)->l.filterMap f=l.filterMap g
 |[],_=>rfl
 |a::l,h=>by rw[ic,ic,h a (.head _),wJ λx b=>h x (.tail _ b)]
section
variable{X:Cx}{ad:Ad}{ce:cg}{s:Shared}{σ:St}{H G:Hp}{ρ:Rho}{E:St->Nat->Hp->Prop}{pos:Pos}
def OJ:V->V->V->Hp->(Hp->Prop)->Prop:=λo i v H Q=>Kt o i v H Q\/∃a x es,o= .ref a/\i= .str x/\H a=pi (.dK es)/\es.length<sizeLine/\Q (upd H a (.dK (L2.putK es (.inr x) v)))
def Dq(hu:X.A.units+62<cLine):NY X OJ:=λj s g H o i v c iv u Q I b e d h=>by
 rcases h with h|⟨a,x,es,rfl,rfl,ha,hl,q⟩;exact CI j s g H o i v c iv u Q I b e d h;cases (show c=qe a from b);exact qN (by lia) I (GC.k (k:=.inr x) ha hl) e d λl f=>⟨_,f,q⟩
def Lw{K}(h:HR K ad G held kvs)x:(kvs.any λq=>decide (q.1=(qo x:L2.Key)))=held.any λp=>decide (p.1=x):=by
 induction h with
 |nil=>rfl
 |@cons p q d f b t c=>
  rw[mz,mz,c];have e:decide (q.1=(qo x:L2.Key))=decide (p.1=x):=by
   rw[b.1];by_cases z:p.1=x;rw[z];simp;simp[z]
  rw[e]
def wK{K}(h:HR K ad G held kvs)(rv:Rep K ad G y v)x:HR K ad G (fE held x y) (L2.putK kvs (qo x) v):=by
 unfold fE L2.putK;rw[Lw h x];by_cases b:(held.any λp=>decide (p.1=x))=qt;rw[if_pos b,if_pos b];clear b;induction h with
 |nil=>exact .nil
 |@cons p q f g c t e=>
  rw[mr,mr];refine .cons ?_ e;by_cases z:p.1=x;have d:q.1=(qo x:L2.Key):=by rw[c.1,z]
  rw[if_pos z,if_pos d];exact⟨c.1,rv⟩;have d: ¬q.1=(qo x:L2.Key):=λy=>z (by rw[c.1]at y;exact oy y);rw[if_neg z,if_neg d];exact c
 rw[if_neg b,if_neg b];clear b;induction h with
 |nil=>exact .cons ⟨rfl,rv⟩ .nil
 |cons c t e=>exact .cons c e
def Lx(hu:X.A.units+62<cLine)(hV:mU X i x)(he:ME X ad e f)(hk:ME X ad kx fk)(ha: ∀v,assign (.Subscript (.Name x p) kx tp) X.env v=(do
   let ov<-holding [v] (eval (.Name x p) X.env);let iv<-holding [v,ov] (eval kx X.env);standAt tp;holding [v,ov,iv] (setItem ov iv v);release [v,ov,iv] []))(hs:swapsWithSole [.Subscript (.Name x p) kx tp] e pos.line X.env=pure qu)(hw:swappedStores [.Subscript (.Name x p) kx tp] e X.env=pure qr):
  MS X ad Z (.Assign [.Subscript (.Name x p) kx tp] e pos) (Cr i fk f):=by
 refine PS.imp (EA he (Kd (bZ hV) hk (Dq hu) ha) hs hw rfl) ?_;rintro T Q H ⟨c,G,w,E,S,B,U⟩;unfold Cr at U;refine eQ S B U λv d G1 H1 h r k=>?_;rcases q:w[i]? with _|sl;rw[q]at k;exact k.elim;rw[q]at k;rcases sl with _|d|L|kvs|d|⟨_,_⟩;exact k.elim;exact k.elim;obtain⟨a,vs,l,W,O,M⟩:=(S.step h).sl.ow q;refine⟨.ref a,l,?_⟩;refine eQ (S.step h) B k λv2 y K H2 st2 s n=>?_;obtain⟨g2,g⟩:=fW st2 W O;cases y<;>try exact ba n
 rename_i j;unfold Rep at s;subst s;have b:OKo X ad c (match ixD L.length j with|some m=>.nx (w.set i (.ow (L.set m d)))|none=>.rt .bad) T E:=n;rcases C:ixD L.length j with _|m;rw[C]at b;exact b.elim;rw[C]at b;have r4:=M.mono st2.sg;refine .inl ⟨a,vs,j,m,rfl,rfl,g,by rw[M.length, <-E3];exact C,?_⟩;exact b Q K _ (((S.step h).step st2).upd q l g2 (aI.set (r.mono st2.sg) m r4));obtain⟨a,es,l,W,O,M,h5⟩:=(S.step h).sl.dc q;refine⟨.ref a,l,?_⟩;refine eQ (S.step h) B k λv2 y K H2 st2 s n=>?_;have Y:=(S.step h).step st2;obtain⟨I,o,t,g,N,u,ab⟩:=Y.sl.dc q;have ea:I=a:=by rw[l]at t;cases t;rfl
 subst ea;cases y<;>try exact ba n
 rename_i z;have b:OKo X ad c (if kvs.length<LIM then .nx (w.set i (.dc (fE kvs z d)))else .rt .bad) T E:=n;by_cases J:kvs.length<LIM;rw[if_pos J]at b;unfold Rep at s;subst s;have hl:o.length=kvs.length:=(mo u).symm;refine .inr ⟨I,z,o,rfl,rfl,N,by rw[hl];exact bg J (by decide),?_⟩;exact b Q K _ (Y.updG q rfl l ⟨I,_,rfl,g,aH,wK u (r.mono st2.sg) z,trivial⟩);rw[if_neg J]at b;exact b.elim;exact k.elim;exact k.elim
def Dr{op}{a b}{F'}(hm:behindInMarks op b=qu)
  (go: ∀{ce} {s} {σ:St} {H G} {ρ} {Q} {E},Inv X ce σ H s->Same G H->SL X.K ad G H ρ σ->XP X ad σ E->RK X.K ad G H (F' ρ) Q E->
   X.wp (eval a X.env) (λu s1=>X.wp (eval b X.env) (λz s2=>X.wp (compareOp op u z) (EP X ce σ Q) X.xe s2) X.xe s1) X.xe s):MT X ad (.Compare a [op] [b] pos) F':=by
 refine λce s σ H Q I g=>g.el λG ρ E n h i r f=>?_;refine wpAny_isTrue_Compare1 (L2.thn (go I n h i f) λv s1 o=>L2.thn o λu s2 m=>L2.thn m λc t d=>?_) hm;obtain⟨x,l,j,p,k,e,q⟩:=d;subst e;cases p;exact wpAny_truthy_bool ⟨l,j,q⟩
end
section
variable{X:Cx}{ad:Ad}{σ:St}{A:Nat}
def jZ(hr:RK X.K ad G H (zM A i k ρ) Q E): ∃r,ρ[i]? =pi (.rk A r)/\RK X.K ad G H (k r) Q E:=by unfold zM at hr;rcases e:ρ[i]? with _|f;rw[e]at hr;exact hr.elim;rw[e]at hr;rcases f with _|d|d|d|d|⟨C,r⟩;exact hr.elim;exact hr.elim;exact hr.elim;exact hr.elim;exact hr.elim;have b:RK X.K ad G H (if C=A then k r else .bad) Q E:=hr;by_cases c:C=A;rw[if_pos c]at b;subst c;exact⟨r,rfl,b⟩;rw[if_neg c]at b;exact b.elim
def kT{K}(h:HR K ad G held kvs)x:match bK held x with|none=>lP kvs (qo x)=qr|some d=>∃v,lP kvs (qo x)=pi v/\Rep K ad G d v:=by
 induction h with
 |nil=>exact CU
 |@cons p q g i b t f=>
  unfold bK;rw[li];by_cases e:p.1=x;rw[decide_eq_true e];exact⟨q.2,i4 (by rw[b.1,e]),b.2⟩;rw[decide_eq_false e];have c: ¬q.1=(qo x:L2.Key):=λz=>e (by rw[b.1]at z;exact oy z);rw[g0 c];exact f
def jC(RC:RkC X.K A)(h:RackIn X.K ad A G H p0 r dx d l1 l2)(hi:σ[i]? =pi (pi (.ref p0)))(hf:[(("held":Str),V.ref d),("done",.ref l1),("undone",.ref l2)].lookup fd=pi v)(na:iG X.K A fd)(q:Q v H):Nw X.K (JA i) fd σ H Q:=
 ⟨.ref p0,hi,p0,A,dx,_,v,rfl,h.ins,RC.cl,na,hf,q⟩
def Hv(hu:X.A.units+62<cLine)(RC:RkC X.K A)(hV:mU X i x)(hf:ME X ad a f)(hs:Os a):
  ME X ad (.Subscript (.Attribute (.Name x p) "held" ap) a pos) (CN A i f):=by
 refine PE.imp (GF (by lia) (iW (bZ hV) rfl) hf hs) λN H Q g=>?_;obtain⟨G,M,E,C,h,o,b⟩:=g;unfold CN at b;obtain⟨r,e,b⟩:=jZ b;obtain⟨S,O,d,T,L,J,m⟩:=h.rk e;refine jC RC m J (fd:="held") rfl RC.n1 ?_;refine dX C h o b λv I B z j n k=>?_;obtain⟨kvs,t,w⟩:=(m.step j).held;cases I with
 |str y=>
  unfold Rep at n;subst n;have l:=kT w y;have c:RK X.K ad B z (match bK r.held y with|some d=>.ok d|none=>.bad) Q E:=k;rcases q:bK r.held y with _|dd;rw[q]at c;exact c.elim;rw[q]at c l;obtain⟨v,u,s⟩:=l;refine⟨d,v,rfl,?_,c.ok_now j.gh s⟩;rw[<-u];exact pO.k (k:=qo y) t
 |_=>exact ba k
def Hw(hu:X.A.units+62<cLine)(RC:RkC X.K A)(hV:mU X i x)(hf:ME X ad a f)(hm:M1 X (.Attribute (.Name x p) "held" pos) "get" ap a cp):
  ME X ad (.Call (.Attribute (.Attribute (.Name x p) "held" pos) "get" ap) [a] [] cp) (CO A i f):=by
 refine PE.imp (CW (by lia) (iW (bZ hV) rfl) hf hm) λO H Q m=>?_;obtain⟨G,N,E,L,n,s,g⟩:=m;unfold CO at g;obtain⟨r,e,g⟩:=jZ g;obtain⟨S,U,d,W,T,C,l⟩:=n.rk e;obtain⟨b,B,_⟩:=l.held;refine jC RC l C (fd:="held") rfl RC.n1 ⟨d,rfl,.inl ⟨b,.inl B⟩,?_⟩;refine dX L n s g λv M J I j o k=>?_;obtain⟨kvs,u,z⟩:=(l.step j).held;cases M with
 |str y=>
  unfold Rep at o;subst o;have h:=kT z y;have c:RK X.K ad J I (.ok ((bK r.held y).getD .non)) Q E:=k;refine⟨lP kvs (qo y),pO.k (k:=qo y) u,?_⟩;rcases q:bK r.held y with _|dd;rw[q]at c h;rw[h];exact c.ok_now j.gh (by unfold Rep;rfl);rw[q]at c h;obtain⟨v,w,t⟩:=h;rw[w];exact c.ok_now j.gh t
 |_=>exact ba k
def Ly(hu:X.A.units+62<cLine)(RC:RkC X.K A)(hV:mU X i x)(hf:ME X ad a f)(neg:Bool):
  PC X (if neg then .NotIn else .In) a (.Attribute (.Name x p) "held" ap) (tE X ad (JG neg A i f)):=by
 have M: ∀(b:Bool) (c:St) (H:Hp) (Q:VK),tE X ad (JG b A i f) c H Q->tE X ad f c H λy u=>Nw X.K (JA i) "held" c u λz B=>∃a o,z= .ref a/\pO B a y o/\Q (.bl (b != o.isSome)) B:=λb c H Q g=>by
  obtain⟨G,n,E,m,h,l,j⟩:=g;unfold JG at j;refine dX m h l j λv Z Y u w J k=>?_;obtain⟨r,e,k⟩:=jZ k;obtain⟨p0,dx,d,l1,l2,U,C⟩:=(h.step w).rk e;refine jC RC C U (fd:="held") rfl RC.n1 ?_;obtain⟨kvs,O,T⟩:=C.held;cases Z with
  |str y=>
   unfold Rep at J;subst J;have t:=kT T y;have N:RK X.K ad Y u (.ok (.bl (b != (bK r.held y).isSome))) Q E:=k;refine⟨d,lP kvs (qo y),rfl,pO.k (k:=qo y) O,?_⟩;have W:(lP kvs (qo y)).isSome=(bK r.held y).isSome:=by
    rcases q:bK r.held y with _|dd;rw[q]at t;rw[t];rfl;rw[q]at t;obtain⟨v,S,_⟩:=t;rw[S];rfl
   rw[W];exact N.ok_now w.gh (by unfold Rep;rfl)
  |_=>exact ba k
 intro L s c H Q I g;cases neg;refine KM (by lia) hf (iW (bZ hV) rfl) L s c H Q I ?_;obtain⟨G,n,E,m,h,l,j⟩:=M qu c H Q g;exact⟨G,n,E,m,h,l,by simpa using j⟩;refine zY (by lia) hf (iW (bZ hV) rfl) L s c H Q I ?_;obtain⟨G,n,E,m,h,l,j⟩:=M qt c H Q g;exact⟨G,n,E,m,h,l,by simpa using j⟩
end
def Fb(h1:ltS b a=qu)(h2:ltS c b=qu):ltS c a=qu:=by unfold ltS at *;rw[decide_eq_false_iff_not]at *;rw[List.not_lt]at *;exact List.le_trans h1 h2
def rF(h1:ltS a b=qu)(h2:ltS b a=qu):a=b:=by unfold ltS at *;rw[decide_eq_false_iff_not]at *;rw[List.not_lt]at *;have e:=List.le_antisymm h2 h1;obtain⟨⟨x⟩⟩:=a;obtain⟨⟨y⟩⟩:=b;cases e;rfl
def Ds(h:ltS a b=qt):ltS b a=qu:=by unfold ltS at *;rw[decide_eq_true_iff]at h;rw[decide_eq_false_iff_not,List.not_lt];exact List.le_of_lt h
theorem lZ x: ∀l,(Gq x l).Perm (x::l)
 |[]=>qi.refl _
 |y::l=>by
  unfold Gq;split;exact((lZ x l).cons y).trans (qi.swap x y l);exact qi.refl _
theorem fP: ∀l,(gJ l).Perm l
 |[]=>qi.refl _
 |x::l=>(lZ x _).trans ((fP l).cons x)
theorem nL x: ∀{l},l.Pairwise (λa b=>ltS b a=qu)->(Gq x l).Pairwise (λa b=>ltS b a=qu)
 |[],_=>by simp[Gq]
 |y::l,h=>by
  rw[jc]at h;unfold Gq;split;rename_i e;rw[jc];refine⟨λz c=>?_,nL x h.2⟩;rcases av.mp ((lZ x l).mem_iff.mp c)with rfl|c;exact Ds e;exact h.1 z c;rename_i e;have d:ltS y x=qu:=by simpa using e
  rw[jc];refine⟨λz c=>?_,jc.mpr h⟩;rcases av.mp c with rfl|c;exact d;exact Fb d (h.1 z c)
theorem fX: ∀l,(gJ l).Pairwise (λa b=>ltS b a=qu)
 |[]=>.nil
 |x::l=>nL x (fX l)
theorem wL: ∀{l} {p},risingS p l=qt->(p::l).Pairwise (λa b=>ltS b a=qu)
 |[],p,_=>by simp
 |x::r,p,h=>by
  unfold risingS at h;rw[aw]at h;have e:=wL h.2;have d:ltS x p=qu:=by
   have:=h.1;rw[ltCps_eq]at this;simpa[ltS]using this
  rw[jc];refine⟨λz c=>?_,e⟩;rcases av.mp c with rfl|c;exact d;exact Fb d ((jc.mp e).1 z c)
def yG(p:m.Perm l)(h:sortedS m=qt):m=gJ l:=by
 have c:m.Pairwise (λa b=>ltS b a=qu):=by
  rcases m with _|⟨x,r⟩;exact .nil;exact wL h
 exact qi.eq_of_pairwise (λa b _ _ x y=>rF y x) c (fX l) (p.trans (fP l).symm)
section
variable{Ex:cf}
def t7(S:KdlSrc prog w T r d n P OK)(hh:A.handled=qr)(hok:OK s.heap)(hn:n<=sizeLine)(h: ∀h' tk vs,(∀b o,s.heap.get? b=pi o->h'.get? b=pi o)->vs.length=n->(∀j v,vs[j]? =pi v->P j v)->Q vs {s with heap:=h',toks:=tk}):wpAny (model prog w) A (collect (.ref r)) Q Ex s:=by
 have lt:=S.there _ hok;unfold collect;refine aa (wpAny_runValue (codeAny_builtin entry_proto_collect' ?_));refine aa (wpAny_newList (ac ⟨Code.quiet_builtin _ (by decide+kernel),codeAny_builtin entry_list_iadd' ?_⟩));refine kdl_extend (A:=A) (R:=λq i=>match q with
  |.ok (.ret v)=>wpAny (model prog w) A (match v with
   |.ref a=>(do
    let o<-load a;match o.data with
    |.seq m _=>pure m.toList
    |_=>unsupported "internal:collect")
   |_=>unsupported "internal:collect") Q Ex i
  |.ok _=>False
  |.error e=>Ex e i) (s:={s with heap:=s.heap.push (seqObj "list" #[] 0)}) S hh (S.keep _ _ hok λb _ o e=>ae _ e) s.z (oe lt.1) (oe lt.2) (.ref s.z) 0 (af _ rfl) (λh' tk g c hk l f=>?_) hn
 refine aa (wpAny_load l (ac ?_));refine h h' tk g.toList (λb o e=>hk b o (bh (ah e)) (ae _ e)) (by rw[ie];exact f.1) λj v e=>f.2 j v (by rw[<-Array.getElem?_toList];exact e)
def yH{Q:cf}(S:KdlSrc prog w T r d n P OK)(hh:A.handled=qr)(hok:OK s.heap)(h64:n<64)(hP: ∀vs,vs.length=n->(∀j v,vs[j]? =pi v->P j v)->StrsAre vs ss)(h: ∀(h1 h':Heap) tk out e,(∀b o,s.heap.get? b=pi o->h1.get? b=pi o)->(∀b o,h1.get? b=pi o->h'.get? b=pi o)->h'.get? h1.objs.size=pi (seqObj "list" out.toArray e)->StrsAre out (gJ ss)->Q (.ref h1.objs.size) {s with heap:=h',toks:=tk}):
  wpAny (model prog w) A (call (.builtin "sorted") [.ref r]) Q Ex s:=by
 refine Calls.call_function_entry kind_sorted plain_sorted entry_sorted (args_sorted1 _) ?_;unfold Builtin.«sorted»;refine aa (m:=checkCount "sorted" 1 1 _) (ac ?_);refine aa (t7 (A:=A.in1) S hh hok (by rw[sizeLine_eq];lia) λh1 tk vs hk x C=>?_);have i:=hP vs x C;refine aa (wpAny_newList ?_ (by rw[sizeLine_eq];lia));have c:(h1.push (seqObj "list" vs.toArray 0)).get? h1.objs.size=pi (seqObj "list" vs.toArray 0):=af _ rfl;refine aa (wpAny_holding (wpAny_call_entry slot_list_sort ⟨_,c,rfl⟩ entry_list_sort (list_sort_treeK (s:={s with heap:=h1.push (seqObj "list" vs.toArray 0),toks:=tk}) strKind_oneLt c i.keysOf (λp l dF e=>keyKind_strs (by rw[<-e];exact i)) (by lia) λf q t=>⟨_,rfl,?_⟩) (args_list_sort _)));obtain⟨y,B,E,u⟩:=sorted_out_str i q t;obtain⟨e,z⟩:=sortedHeap_at (out:=(arrOf f).map (·.2)) c;have g: ∀b o,h1.get? b=pi o->(sortedHeap (h1.push (seqObj "list" vs.toArray 0)) h1.objs.size vs ((arrOf f).map (·.2))).get? b=pi o:=λb o q1=>by
  have lt:b<h1.objs.size:=ah q1;rw[sortedHeap_old (bh lt) (by rw[ai];exact jr lt),Heap.get?_push_ne _ _ _ (bh lt)];exact q1
 exact ac ⟨_,rfl,h h1 _ tk ((arrOf f).map (·.2)).toList e hk g (by rw[Array.toArray_toList];exact z) (by rw[<-yG E u];exact B)⟩
end
def Lz:L1 V->Hp->VK->Prop:=λxs H Q=>∃d kvs ks,xs=[V.ref d]/\Rd H d (.dK kvs)/\kvs.map (·.1)=ks.map (λk:Str=>(qo k:L2.Key))/\ks.length<64/\∀p,H p=qr->Q (.ref p) (upd H p (.lst ((gJ ks).map V.str)))
def AY(h:StrsAre vs ss):bW (ss.map V.str) vs:=by
 induction h with
 |nil=>exact .nil
 |cons y t _ b=>exact .cons ⟨t,rfl⟩ b
def nM(hc:X.calm=qt):lA X (.builtin "sorted") Lz:=by
 intro Y s S H xs us Q I r h;obtain⟨d,kvs,b,rfl,hd,hk,G,q⟩:=h;obtain⟨u,rfl,W⟩:=bW.one r;cases W;obtain⟨z,lo,A,kv,dd⟩:=jS I.hok hd;obtain⟨o,es,ep,m1,m2,O,Z,m5,m6⟩:=dd;have c:A.map (·.1)=b.map (λk:Str=>(qo k:L2.Key)):=by rw[<-kv.keys];exact hk
 have T:A.length=b.length:=by simpa using congrArg o6 c
 refine yH (ss:=b) (kdl_dict (knd:=bI X.prog X.w) (kvs:=A) (ep:=ep) lo) (I.ok.hd hc) ⟨o,es,m1,m2,O,Z,m5,m6⟩ (by lia) (λf m p=>?_) λB h' L C e k1 N i g=>?_;have E: ∀(f:L1 Value) (b:L1 Str),f.length=b.length->(∀(j:Nat) (v:Value),f[j]? =pi v->∃k,b[j]? =pi k/\∃t,v=qc k t)->StrsAre f b:=by
  intro f;induction f with
  |nil=>intro b m _;cases b with|nil=>exact .nil|cons _ _=>cases m
  |cons v f U=>
   intro b m p;rcases b with _|⟨k,b⟩;cases m;obtain⟨k',i,t,g⟩:=p 0 v rfl;cases i;subst g;exact .cons k t (U b (by simpa using m) λj v e=>p (j+1) v e)
 refine E f b (by lia) λj v e=>?_;obtain⟨k,x,i,g⟩:=p j v e;have l:(b.map (λk:Str=>(qo k:L2.Key)))[j]? =pi k:=by rw[<-c,jj,i];rfl
 rw[jj]at l;rcases K:b[j]? with _|y;rw[K]at l;cases l;rw[K]at l;cases l;refine⟨y,rfl,?_⟩;exact Value.isStrOf_shape g;have J:Inv X Y S H {s with heap:=B,toks:=L}:=I.kept k1;have n:=J.hok.fresh (aj B.objs.size);have M:((gJ b).map V.str).length<=sizeLine:=by
  rw[aq,(fP b).length_eq];exact ny (nz G) (by decide)
 exact⟨.ref B.objs.size,_,J.laid (o:=.lst ((gJ b).map V.str)) (t':=L) N (aj _) ⟨M,C,e,AY g,i⟩,rfl,q _ n⟩
section
variable{ad:Ad}{A:Nat}
def Hx{K}(h:HR K ad G held kvs):kvs.map (·.1)=(held.map (·.1)).map (λk:Str=>(qo k:L2.Key)):=by
 induction h with
 |nil=>rfl
 |cons b t c=>rw[mr,mr,mr,c,b.1]
theorem l6{K}{G}: ∀ss:L1 Str,aI K ad G (ss.map D.str) (ss.map V.str)
 |[]=>aI.nil
 |s::ss=>aI.cons (by unfold Rep;rfl) (l6 ss)
def Hy(hc:X.calm=qt)(RC:RkC X.K A)(hg:L2.Gl X "sorted")(hm:X.mg "sorted"=qr)(hV:mU X i x):
  ME X ad (.Call (.Name "sorted" p) [.Attribute (.Name x np) "held" ap] [] pos) (Gr A i):=by
 refine PE.imp (vG (nM hc) hg hm rfl (cG (iW (bZ hV) rfl) dR rfl)) λv H Q f=>?_;obtain⟨G,t,E,m,h,u,b⟩:=f;obtain⟨r,e,b⟩:=jZ b;obtain⟨y,w,d,z,s,o,g⟩:=h.rk e;obtain⟨kvs,j,l⟩:=g.held;by_cases c:r.held.length<64;rw[if_pos c]at b;refine jC RC g o (fd:="held") rfl RC.n1 ⟨d,kvs,r.held.map (·.1),rfl,.inl j,Hx l,by simpa using c,λq n=>?_⟩;exact b.ow_new m (l6 _) n;rw[if_neg c]at b;exact b.elim
end
def Fc{m:Str}(h:m≠"held"/\m≠"done"/\m≠"undone"):[(("held":Str),V.ref d),("done",.ref l1),("undone",.ref l2)].lookup m=qr:=by
 have c:(m==("held":Str))=qu:=by simpa using h.1
 have e:(m==("done":Str))=qu:=by simpa using h.2.1
 have b:(m==("undone":Str))=qu:=by simpa using h.2.2
 rw[kg,c,kg,e,kg,b,List.lookup_nil]
def rH(hb:attributeBase o m env (eval o env)=eval o env)(hf:methodCallForm (es.length+([]:L1 Keyword).length) (backTo cp (starEach es env)) (backToKw cp (keywordEach [] env))=qt)(hl:(ap.endLine==cp.line)=qt):
  eval (.Call (.Attribute o m ap) es [] cp) env=(do
   let ov<-eval o env;standAt ap.atName;let (f,first)<-holding [ov] (getMethod ov m (do return (<-importBound o env).getD qt));callWith cp f first (backTo cp (starEach es env)) (backToKw cp (keywordEach [] env))):=by
 rw[arm_eval_Call,hb];unfold methodCall calleeOf methodCallPos;rw[hf,hl];rfl
section
variable{X:Cx}{ad:Ad}{σ:St}{H G:Hp}{ρ:Rho}{Q:VK}{E:Nat->Hp->Prop}{p ap cp:Pos}{es:L1 Expr}{fs:L1 F}{A i n:Nat}{x m:Str}{M:FM}
def t9{G H}{m}(h:RK X.K ad G H m.told Q E):RMK X.K ad A G H p0 dx d l1 l2 m Q E:=by rcases m with x|⟨_,_⟩;exact h;exact ba h
theorem RMK.impE{G H}{p0 dx d l1 l2}{m}{E'}(h:RMK X.K ad A G H p0 dx d l1 l2 m Q E)(k: ∀c H',E c H'->E' c H'):RMK X.K ad A G H p0 dx d l1 l2 m Q E':=by rcases m with x|⟨_,_⟩;exact RK.impE h k;exact h
def uA(M0:MetOk X ad A m n M)(I:Inv X ce σ H s)(hG:Same G H)(hR:RackIn X.K ad A G H p0 r dx d l1 l2)(rv:bW vs us)(rq:aI X.K ad G ds vs)(hl:ds.length=n)(hx:XP X ad σ E)(h:RMK X.K ad A G H p0 dx d l1 l2 (M r ds) Q E)(hf:Meth X.K A m f):
  X.wp (call (.ref f) (.ref p0::us)) (EP X ce σ Q) X.xe s:=by
 obtain⟨o,k,q,t,i,p,g,l⟩:=M0.ok;have e:o=f:=by
  have z:=i.at_.symm.trans hf.at_;cases z;rfl
 subst e;exact lR (vs:=V.ref p0::vs) (E:=xk ad E) p g l I (.cons rfl rv) ⟨G,p0,r,dx,d,l1,l2,ds,vs,rfl,hG,hR,rq,hl,h.impE λc u e=>⟨c,rfl,e⟩⟩ λe b j=>hx ce H s e b I j
def AZ(X:Cx)(ad:Ad)(A i:Nat)(M:FM)(fs:L1 F):TE:=λσ H Q=>∃G ρ E r p0 dx d l1 l2,Same G H/\SL X.K ad G H ρ σ/\XP X ad σ E/\σ[i]? =pi (pi (V.ref p0))/\RackIn X.K ad A G H p0 r dx d l1 l2/\
 tA X ad fs σ H (λvs H1=>∃ds G1,Step G H G1 H1/\aI X.K ad G1 ds vs/\ds.length=fs.length/\RMK X.K ad A G1 H1 p0 dx d l1 l2 (M r ds) Q E)
def Fd(RC:RkC X.K A)(M0:MetOk X ad A m n M)(hV:mU X i x)(ha:MA X ad es fs)(hn:fs.length=n)(hst: ∀a r,es=a::r->starEach (a::r) X.env=(qu,eval a X.env)::starEach r X.env/\(backTo cp (starEach r X.env)).any (·.1)=qu)(hl:es.length=fs.length)(hfm:methodCallForm (es.length+([]:L1 Keyword).length) (backTo cp (starEach es X.env)) (backToKw cp (keywordEach [] X.env))=qt)(hln:(ap.endLine==cp.line)=qt):
  PE X (.Call (.Attribute (.Name x p) m ap) es [] cp) (AZ X ad A i M fs):=by
 rintro C s y H Q I ⟨G,ρ,E,r,e,dx,d,l1,l2,hG,hS,w,S,o,h⟩;obtain⟨fm,k,fd,ps,g,_⟩:=M0.ok;refine PySem.W.methodCall_KW (L2.thn (bZ hV C s y H (λv f=>v= .ref e/\f=H) I ⟨.ref e,S,rfl,rfl⟩) λu Y q=>?_) (rH rfl hfm hln);obtain⟨v,f,b,Z,O,N⟩:=q;subst O;subst N;cases (show u=qe e from Z);refine mX b o.ins RC.cl g (Fc M0.no) ?_;rcases es with _|⟨a,dF⟩;rcases fs with _|⟨_,_⟩;obtain⟨B,L,J,t,_,_,h⟩:=h;obtain⟨T,G3,c,j,l,k⟩:=(show AK X.K ad B f (.ok []) _ J from h) [] B f (Step.refl t) aI.nil;exact PySem.W.callWith_K0 (first:=[.ref e]) b.kIn g.kp (uA M0 b c.gh (o.step c) .nil j (l.trans hn) w k g);cases hl;refine i3 (first:=[.ref e]) (h₀:=X.base) b.ok.mod.kin g.kp (L2.thn (ha cp C Y y f _ b h) λus s2 ⟨vs,H2,z,U,T,G1,c,j,hl,k⟩=>⟨z.kIn,?_⟩) (hst a dF rfl).1 (hst a dF rfl).2;exact uA M0 z c.gh (o.step c) U j (hl.trans hn) w k g
def LA(RC:RkC X.K A)(M0:MetOk X ad A m n M)(hV:mU X i x)(ha:MA X ad es fs)(hn:fs.length=n)(hst: ∀a r,es=a::r->starEach (a::r) X.env=(qu,eval a X.env)::starEach r X.env/\(backTo cp (starEach r X.env)).any (·.1)=qu)(hl:es.length=fs.length)(hfm:methodCallForm (es.length+([]:L1 Keyword).length) (backTo cp (starEach es X.env)) (backToKw cp (keywordEach [] X.env))=qt)(hln:(ap.endLine==cp.line)=qt):
  ME X ad (.Call (.Attribute (.Name x p) m ap) es [] cp) (dQ A i M fs):=by
 refine PE.imp (Fd RC M0 hV ha hn hst hl hfm hln) ?_;rintro B H Q ⟨G,l,E,g,c,f,b⟩;obtain⟨r,e,b⟩:=jZ b;obtain⟨v,t,d,y,j,u,q⟩:=c.rk e;exact⟨G,l,E,r,v,t,d,y,j,g,c,f,u,q,tK g c f b λz w s C o h hl k=>⟨w,s,o,h,hl,t9 k⟩⟩
def Hz(T:AJ X tn (spM X.K ad A 0 M))(hg:L2.Gl X tn)(hdb:(tn==gV)=qu)(hV:mU X i x):
  ME X ad (.Call (.Name tn p) [.Name x px] [] cp) (dQ A i M []):=by
 refine λZ s w H Q I o=>o.el λG ρ E S q t h=>?_;obtain⟨fa,k,fd,prs,Y,hk,m,f,C⟩:=T;obtain⟨r,e,h⟩:=jZ h;obtain⟨b,U,d,l1,J,z,N⟩:=q.rk e;refine wpAny_Call_Name_kw (eJ I hg Y ?_ hdb);refine i3 (h₀:=X.base) I.ok.mod.kin hk (L2.thn (cG (bZ hV) dR rfl cp _ s w H (λvs O=>vs=[.ref b]/\O=H) I ⟨.ref b,z,rfl,rfl⟩) λus u l=>?_) rfl rfl;obtain⟨vs,j,g,L,v,n⟩:=l;subst v;subst n;exact⟨g.kIn,lR (vs:=[V.ref b]) (E:=xk ad E) m f C g L ⟨G,b,r,U,d,l1,J,[],[],rfl,S,N,aI.nil,rfl,(t9 (show RK X.K ad G j (M r []).told Q E from h)).impE λc H' e=>⟨c,rfl,e⟩⟩ λe B y=>t Z j u e B g y⟩
end
theorem Fe{K}{ad}{G}: ∀{ks:L1 Str} {ds} {es:L1 (L2.Key×V)},es.map (·.1)=ks.map qo->aI K ad G ds (es.map (·.2))->HR K ad G (ks.zip ds) es
 |[],ds,[],_,_=>.nil
 |[],_,_::_,h,_=>by simp at h
 |_::_,_,[],h,_=>by simp at h
 |k::ks,ds,(q,v)::es,h1,h2=>by
  rw[mr,mr]at h1;obtain⟨f,e⟩:=m3 h1;rw[mr]at h2;rcases ds with _|⟨d,ds⟩;unfold aI at h2;cases h2;unfold aI at h2;obtain⟨i,j,c,g,b⟩:=h2;cases c;exact .cons ⟨f,g⟩ (Fe e b)
def RK.imp{K}{ad}(h:RK K ad G H r Q E)(k: ∀v H,Q v H->Q' v H):RK K ad G H r Q' E:=by rcases r with d|j|c|_;exact λv f b g q=>k _ _ (h v f b g q);exact λp i f b g n m e q=>k _ _ (h p i f b g n m e q);exact h;exact h
noncomputable def Qj:R->L7 D
 |.ok d=>pi d
 |.ow xs=>pi (.lst xs)
 |_=>qr
section
variable{X:Cx}{ad:Ad}{ce:cg}{s:Shared}{σ:St}{H G:Hp}{a o:Expr}{f:F}
def LB(X:Cx)(ad:Ad)(f:F):TE:=λσ H Q=>tE X ad f σ H λv H1=>∃a o es,v= .ref a/\H1 a=pi (.frz o (.dK es))/\∀q,H1 q=qr->Q (.ref q) (upd H1 q (.dK es))
def Dt(hg:L2.Gl X "dict")(hm:X.mg "dict"=qr)(ha:ME X ad a f)(he:starEach [a] X.env=(qu,eval a X.env)::starEach [] X.env):PE X (.Call (.Name "dict" p) [a] [] pos) (LB X ad f):=by intro J s A H Q I h;refine wpAny_Call_Name_kw (gE I hg hm (u:=.type "dict") (by decide+kernel) ?_ (by decide) (by decide));refine du (L2.thn (cG ha dR he pos J s A H (λe b=>∃v,e=[v]/\∃a o c,v= .ref a/\b a=pi (.frz o (.dK c))/\∀q,b q=qr->Q (.ref q) (upd b q (.dK c))) I ?_) λL M ⟨e,b,t,K,v,x,C,y,c,r,d,q⟩=>?_) he rfl;obtain⟨G,i,E,B,l,m,j⟩:=h;refine⟨G,i,E,B,l,m,?_⟩;exact RK.imp j λv b k=>⟨v,rfl,k⟩;subst x;subst r;obtain⟨u,rfl,w⟩:=lB K;cases (show u=qe C from w);exact C1 t (.inr ⟨y,d⟩) λg N n z=>⟨.ref g,_,z,rfl,q g n⟩
def Du(hN:X.N.Nodup)(hi:X.N[i]? =pi x)(hl:Loc X.env.scope x)(hg:L2.Gl X "dict")(hm:X.mg "dict"=qr)(ha:ME X ad a f)(he:starEach [a] X.env=(qu,eval a X.env)::starEach [] X.env)(hf:X.fn x=qt\/X.env.scope.names.lookup x=pi .local):
  MS X ad Z (.Assign [.Name x pos'] (.Call (.Name "dict" p) [a] [] cp) pos) (mY i f):=by
 refine PS.imp (pS hN hi hl (Dt hg hm ha he) rfl hf) ?_;rintro z C H ⟨b,G,h,E,S,l,j⟩;refine eQ S l j λv d g B c r k=>?_;cases d<;>try exact ba k
 rename_i A s;unfold Rep at r;obtain⟨y,t,e,rfl,o,m,u⟩:=r;refine⟨y,t,e,rfl,c.gh _ _ o,λq n=>?_⟩;have w:g q=qr:=c.gh.free n;exact(show OKo X ad b (.nx (h.set i (.dc (A.zip s)))) z E from k) _ g _ ((S.step c).setNew (Step.own c.gh n) n ⟨q,e,rfl,w,aH,Fe m u,trivial⟩)
def uB{q}{es}{ks:L1 Str}{ds}{Q}(I:Inv X ce σ (upd H q (.dK es)) s)(hG:Same G H)(n:H q=qr\/H q=pi (.dK []))(gn:G q=qr)(h1:es.map (·.1)=ks.map qo)(h2:aI X.K ad G ds (es.map (·.2)))(hr: ∀v G' H',(∀c,c≠q->G' c=G c)->Same G G'->Same G' H'->(∀c,c≠q->H' c=H c)->Rep X.K ad G' (.dct ks ds) v->Q v H'):EP X ce σ Q (.ref q) s:=by obtain⟨o,d⟩:=Inv.frzD I aH;rw[yY]at d;refine⟨.ref q,_,d,rfl,hr (.ref q) (upd G q (.frz o (.dK es))) _ (λc b=>aD b) (Same.upd_new gn) (λc u e=>?_) (λc b=>aD b) ?_⟩;by_cases z:c=q;subst z;rw[aH]at e ⊢;exact e;rw[aD z]at e ⊢;exact hG c u e;unfold Rep;exact⟨q,o,es,rfl,aH,h1,h2.mono (Same.upd_new gn)⟩
def Dv:ME X ad (.Dict [] [] pos) m8:=by
 refine λJ s t H Q I i=>i.el λG M E g N O x=>?_;refine L2.thn (vQ J s t H (λv d=>∃q,v= .ref q/\H q=qr/\d=upd H q (.dK [])) I λq n=>⟨q,rfl,n,rfl⟩) λu S b=>?_;obtain⟨v,d,l,A,q,p,n,j⟩:=b;subst p;subst j;cases (show u=qe q from A);refine uB (ad:=ad) (ks:=[]) (ds:=[]) l g (.inl n) (g.free n) rfl aI.nil λv y m o B C L r=>?_;exact(show RK X.K ad G H (.ok (.dct [] [])) Q E from x) v y m ⟨B,C,λc w e=>by rw[L c (λz=>by rw[z,n]at e;cases e)];exact e,λc h f=>by
  by_cases z:c=q;rw[z];exact n;rw[o c z,h]at f;exact absurd rfl f⟩ r
def Ff(hG:Same G H)(hS:SL X.K ad G H ρ σ)(hx:XP X ad σ E)(hv:Qj (f ρ)=pi x)(q: ∀v G1 H1,Step G H G1 H1->Rep X.K ad G1 x v->Q v H1):tE X ad f σ H Q:=by refine⟨G,ρ,E,hG,hS,hx,?_⟩;rcases e:f ρ with d|l|c|_;rw[e]at hv;cases hv;exact q;rw[e]at hv;cases hv;intro p j G1 H1 h n m i r;obtain⟨g,st2,b⟩:=dW (X:=X) (ad:=ad) h n m i r;exact q _ g H1 st2 b;rw[e]at hv;cases hv;rw[e]at hv;cases hv
def LC(hG:Same G H)(hS:SL X.K ad G H ρ σ)(hx:XP X ad σ E)(hv:f ρ= .ex c)(q: ∀G1 H1,Step G H G1 H1->E c H1):tE X ad f σ H Q:=
 ⟨G,ρ,E,hG,hS,hx,by rw[hv];exact q⟩
def wM{r}{k}{Q}{E}(h:RK X.K ad G H (r.bind k) Q E):(∃x,Qj r=pi x/\RK X.K ad G H (k x) Q E)\/∃c,r= .ex c/\∀G1 H1,Step G H G1 H1->E c H1:=by rcases r with d|b|c|_;exact .inl ⟨d,rfl,h⟩;exact .inl ⟨.lst b,rfl,h⟩;exact .inr ⟨c,rfl,h⟩;exact h.elim
def Dw(ha:ME X ad a f)(hb:ME X ad b g):ME X ad (.Dict [pi (.Constant (.str k1) j1 p1),pi (.Constant (.str k2) j2 p2)] [a,b] pos) (vO k1 k2 f g):=by
 refine λce s σ H Q I h9=>h9.el λG T E hG t J hr=>?_;have P:=vR (pos:=pos) (iZ (X:=X) (ad:=ad) (k:=.str k1) (j:=j1) (pos:=p1) (d:=.str k1) rfl) ha (vR (iZ (X:=X) (ad:=ad) (k:=.str k2) (j:=j2) (pos:=p2) (d:=.str k2) rfl) hb GG);have rk: ∀(k:Str) (m h:Hp),Same m h->SL X.K ad m h T σ->∀(Z:VK),(∀O S,Step m h O S->Z (.str k) S)->tE X ad (rK (.str k)) σ h Z:=λk m h hg hs Z q=>⟨m,T,E,hg,hs,J,λv O S N r=>by
  have r':v= .str k:=by unfold Rep at r;exact r
  subst r';exact q O S N⟩
 refine L2.thn (GH P rfl rfl (by simp) (by simp) ce s σ H (λv h=>∃q p B x y C A,v= .ref q/\H q=qr/\Step G (upd H q (.dK [])) p B/\Rep X.K ad p x C/\Rep X.K ad p y A/\RK X.K ad G H (.ok (.dct [k1,k2] [x,y])) Q E/\h=upd B q (.dK [(.inr k1,C),(.inr k2,A)])) I λq n=>?_) λu M hz=>?_;have gq:G q=qr:=hG.free n;have st0:Step G H G (upd H q (.dK [])):=Step.own hG n;have ab:RK X.K ad G H ((f T).bind λx=>(g T).bind λy=>if k1=k2 then .bad else .ok (.dct [k1,k2] [x,y])) Q E:=hr;refine rk k1 G _ st0.gh (t.step st0) _ λm h st1=>?_;have M:=st0.trans st1;rcases wM ab with ⟨x,vx,h1⟩|⟨c,ec,W⟩;refine Ff st1.gh (t.step M) J vx λC O S st2 U=>?_;have s2:=M.trans st2;refine rk k2 O _ st2.gh (t.step s2) _ λG3 H3 l=>?_;have Y:=s2.trans l;rcases wM h1 with ⟨y,vy,h2⟩|⟨c,ec,W⟩;refine Ff l.gh (t.step Y) J vy λA p B L r4=>?_;have o:Step G (upd H q (.dK [])) p B:=((st1.trans st2).trans l).trans L;have hk: ¬k1=k2:=λz=>by
  have i:RK X.K ad G H (if k1=k2 then .bad else .ok (.dct [k1,k2] [x,y])) Q E:=h2;rw[if_pos z]at i;exact i.elim
 have i:RK X.K ad G H (if k1=k2 then .bad else .ok (.dct [k1,k2] [x,y])) Q E:=h2;rw[if_neg hk]at i;refine⟨o.sh _ _ aH,[(.inr k1,C),(.inr k2,A)],rfl,by simp,q,p,B,x,y,C,A,rfl,n,o,(U.mono l.sg).mono L.sg,r4,i,?_⟩;have nk: ¬((qo k1:L2.Key)= .inr k2):=λz=>hk (oy z);simp[i5,L2.putK,nk];exact LC l.gh (t.step Y) J ec λm h N=>W m h (Y.trans N);exact LC st1.gh (t.step M) J ec λm h N=>W m h (M.trans N);obtain⟨v,h,I1,ru,q,p,B,x,y,C,A,rfl,n,o,r1,U,hk,rfl⟩:=hz;cases (show u=qe q from ru);have gq:p q=qr:=o.gnone (hG.free n) aH;refine uB (ad:=ad) (ks:=[k1,k2]) (ds:=[x,y]) I1 o.gh (.inr (o.sh _ _ aH)) gq rfl (aI.cons r1 (aI.cons U aI.nil)) λv G' H' g1 g2 g3 g4 r=>?_;refine hk v G' H' ⟨o.sg.trans g2,g3,λc w e=>?_,λc z1 z2=>?_⟩ r;have nc:c≠q:=λz=>by rw[z,n]at e;cases e
 rw[g4 c nc];exact o.sh _ _ (by rw[aD nc];exact e);by_cases z:c=q;rw[z];exact n;rw[g1 c z]at z2;have:=o.nw c z1 z2;rw[aD z]at this;exact this
def Dx(hu:X.A.units+62<cLine)(ho:ME X ad o f)(ha:ME X ad a g)(hb:ME X ad b h)(m:M2 X o "get" ap a b cp):ME X ad (.Call (.Attribute o "get" ap) [a,b] [] cp) (qH f g h):=by
 refine λce s σ H Q I U=>U.el λG C E hG l n hr=>?_;refine CY (by lia) ho ha hb m ce s σ H Q I ?_;refine dX hG l n hr λv d G1 H1 e r k=>?_;cases d<;>try exact ba k
 rename_i O p;unfold Rep at r;obtain⟨N,q,i,rfl,J,W,Y⟩:=r;refine⟨N,rfl,.inl ⟨i,.inr ⟨q,e.gh _ _ J⟩⟩,?_⟩;refine dX e.gh (l.step e) n (show RK X.K ad G1 H1 ((g C).bind λy=>(h C).bind λz=>(match y with|.str k=>.ok ((bK (O.zip p) k).getD z)|_=>.bad)) Q E from k) λv2 d2 G2 H2 st2 S Z=>?_;refine dX st2.gh ((l.step e).step st2) n Z λv3 d3 M T c r3 L=>?_;cases d2<;>try exact ba L
 rename_i x;unfold Rep at S;subst S;have g3:T N=pi (.frz q (.dK i)):=c.sh _ _ (st2.sh _ _ (e.gh _ _ J));refine⟨_,.inl ⟨i,.inr x,.inr ⟨q,g3⟩,rfl,rfl⟩,?_⟩;have j:RK X.K ad M T (.ok ((bK (O.zip p) x).getD d3)) Q E:=L;have B:aI X.K ad M p (i.map (·.2)):=(Y.mono st2.sg).mono c.sg;rcases qP (x:=x) W B with ⟨u,t,_⟩|⟨w,d,u,t,b3,_,_⟩;rw[t]at j;rw[u];exact j.ok_now c.gh r3;rw[t]at j;rw[u];exact j.ok_now c.gh b3
def HA(hc:X.calm=qt):BOp X ad (.builtin "sorted") vN:=by
 intro y s t H G x v u Q E I i q m d;by_cases j: ∃c f,x= .dct c f;obtain⟨c,f,rfl⟩:=j;have b:RK X.K ad G H (if c.length<64 then .ow ((gJ c).map D.str)else .bad) Q E:=d;have h:Rep X.K ad G (.dct c f) v:=by
  rcases q with q|⟨_,_,_,z,_⟩;exact q;cases z
 unfold Rep at h;obtain⟨a,o,r,rfl,w,l,A⟩:=h;by_cases g:c.length<64;rw[if_pos g]at b;exact nM hc y s t H [.ref a] [u] Q I (.cons m .nil) ⟨a,r,c,rfl,.inr ⟨o,i _ _ w⟩,l,g,λp n=>b.ow_new i (l6 _) n⟩;rw[if_neg g]at b;exact b.elim;have e:vN [x]= .bad:=by
  cases x<;>first|rfl|exact absurd ⟨_,_,rfl⟩ j
 rw[e]at d;exact d.elim
end
section
variable{E:cf}{h:Heap}{g:Array GenState}{d:Drawn}{os:OsState}
def yI{Q:α->Shared->Prop}(hh:A.handled=qr)(hm:msg.length<=sizeLine)(hq: ∀e h' t',(∀b o,h.get? b=pi o->h'.get? b=pi o)->(∃o,h'.get? e=pi o/\o.cls= .type "AttributeError")->E (.ref e) ⟨h',g,d,t',os⟩):
  wpAny (model prog w) A (raiseAttrError (.ref a) nm msg) Q E ⟨h,g,d,t,os⟩:=by
 unfold raiseAttrError newExc;repeat (any_goals (first|assumption|wp_step))
 have l:isSubtype (.type "AttributeError") (.type "AttributeError")=pure qt:=by rw[isSubtype_type];kernel_rfl
 have j:((Manifest.find? "AttributeError").elim qu λt=>t.mro.contains "StopIteration"||t.mro.contains "SystemExit")=qu:=by kernel_rfl
 have i:ownMembersOf (pe "AttributeError") [qc msg t]= #[unsetMember,unsetMember]:=by rfl
 simp only[j,i,az,if_false];repeat (any_goals (first|assumption|wp_step))
 unfold raiseNew;refine aa (wpAny_handled ?_);rw[hh];refine aa (ac (wpAny_throw ?_));have f:((h.push {cls:=pe "tuple",data:=Data.seq #[qc msg t]}).push {cls:=pe "AttributeError",data:=Data.fields (#[qe h.objs.size,pc,pc,pc,pd qu,pc]++ #[unsetMember,unsetMember])}).get? (h.push {cls:=pe "tuple",data:=Data.seq #[qc msg t]}).objs.size=pi _:=af _ rfl;refine hq _ _ _ (λb o e=>?_) ⟨_,gi _ f rfl,rfl⟩;have lt:b<h.objs.size:=ah e;refine(fq _ _ (λz=>?_)).trans (ae _ (ae _ e));have c:b=(h.push {cls:=pe "tuple",data:=Data.seq #[qc msg t]}).objs.size:=by first|exact z|exact z.symm
 rw[ai]at c;rw[c]at lt;exact absurd lt (pq.mpr (o3 _))
def rJ:typeLookup (.type "list") "keys"=pure qr:=by rw[typeLookup_type,builtinLookup_eq_fast];kernel_rfl
def rL:typeLookup (.type "list") "__getattr__"=pure qr:=by rw[typeLookup_type,builtinLookup_eq_fast];kernel_rfl
def A0(E:cf)(h:Heap)(g:Array GenState)(d:Drawn)(os:OsState):Prop:= ∀e h' t',(∀b o,h.get? b=pi o->h'.get? b=pi o)->(∃o,h'.get? e=pi o/\o.cls= .type "AttributeError")->E (.ref e) ⟨h',g,d,t',os⟩
def yJ(hh:A.handled=qr)(hx:h.get? a=pi {cls:=.type "list",dict:=qr,data:=.seq its nn,slots:=sl})(hq:A0 E h g d os):
  wpAny (model prog w) A (Builtin.«object.__getattribute__» ⟨[.ref a,.str "keys" tk],[]⟩) Q E ⟨h,g,d,t,os⟩:=by
 have c:(⟨h,g,d,t,os⟩:Shared).TypeIs (.ref a) "list":=⟨_,hx,rfl⟩;have b:=rJ;repeat (any_goals (first|assumption|wp_step))
 exact yI hh (by decide+kernel) hq
def A1{R}(hh:A.handled=qr)(hx:h.get? a=pi {cls:=.type "list",dict:=qr,data:=.seq its nn,slots:=sl})(hq:A0 (λe s=>R (.error e) s) h g d os):
  codeAny (model prog w) A (.call (.builtin "list.__getattribute__") ⟨[.ref a,.str "keys" tk],[]⟩) R ⟨h,g,d,t,os⟩:=
 codeAny_call_builtin ej.plain F.entry_list_ga (ej.check _ _ _ _ _ _ _ _ (show(⟨h,g,d,t,os⟩:Shared).TypeIs (.ref a) "list" from⟨_,hx,rfl⟩) (F.args_list_getattribute_2 _ _) (yJ (by exact hh) hx hq))
def HB{Q:cf}(hh:A.handled=qr)(hx:h.get? a=pi {cls:=.type "list",dict:=qr,data:=.seq its nn,slots:=sl})(hq:A0 E h g d os):wpAny (model prog w) A (getAttrBy (.ref a) (.str "keys" tk) qu) Q E ⟨h,g,d,t,os⟩:=by
 have q:(⟨h,g,d,t,os⟩:Shared).TypeIs (.ref a) "list":=⟨_,hx,rfl⟩;have r:=ej.lookup;have p:=ej.bind (.ref a);have n:=rL;have o:isSubtype (.type "AttributeError") (.type "AttributeError")=pure qt:=by rw[isSubtype_type];kernel_rfl
 repeat (any_goals (first|assumption|wp_step))
 refine A1 hh hx λe l j hk m=>?_;obtain⟨f,c,i⟩:=m;have b:(⟨l,g,d,j,os⟩:Shared).TypeIs (.ref e) "AttributeError":=⟨f,c,i⟩;show wpAny _ _ (getattributeRaised _ _ _ _ _ _ _) _ _ _;unfold getattributeRaised;refine aa (wpAny_isInstance b o ?_);rw[if_pos rfl];unfold hookBehind;refine aa ?_;show wpAny _ _ (typeLookup (.type "list") "__getattr__") _ _ _;rw[n];refine ac ?_;exact wpAny_throw (hq e l j hk ⟨f,c,i⟩)
def A2(hh:A.handled=qr)(hx:h.get? a=pi {cls:=.type "list",dict:=qr,data:=.seq its nn,slots:=sl})(hq: ∀h' t',(∀b o,h.get? b=pi o->h'.get? b=pi o)->Q qr ⟨h',g,d,t',os⟩):
  wpAny (model prog w) A (getAttr? (.ref a) "keys") Q E ⟨h,g,d,t,os⟩:=by
 have m:isSubtype (.type "AttributeError") (.type "AttributeError")=pure qt:=by rw[isSubtype_type];kernel_rfl
 unfold getAttr? getAttrBy?;refine aa (wpAny_mkText ?_);refine aa (wpAny_attempt (HB hh hx λe h' t' hk f=>?_));obtain⟨j,i,l⟩:=f;have c:(⟨h',g,d,t',os⟩:Shared).TypeIs (.ref e) "AttributeError":=⟨j,i,l⟩;refine aa (wpAny_isInstance c m ?_);rw[if_pos rfl];exact ac (hq h' t' hk)
end
def iK:entryFor table "dict.update.loop"=pi Builtin.«dict.update.loop»:=entryFor_of_tree rfl
def eB:plainId "dict.update.loop"=qt:=by decide+kernel
section
variable{E:cf}
def yK(ho:s.heap.get? t=pi o)(hc:o.cls= .type "tuple")(hd:o.data= .seq #[x,y] n)(h:Q [x,y] s):wpAny (model prog w) A (Builtin.Dict.pairItems (.ref t)) Q E s:=by unfold Builtin.Dict.pairItems;refine aa (wpAny_typeOf (T:="tuple") ⟨o,ho,hc⟩ ?_);rw[if_pos (by decide)];exact aa (wpAny_seqItems ho hd (ac h))
end
section
variable{X:Cx}{ad:Ad}{σ:L2.St}{A:Around}{R:Result->Shared->Prop}{G:Hp}{d l:Addr}
def Dy(hh:A.handled=qr)res(hG:Same G H)(hn:G d=qr)(hl:SqL X.K G l vs)(hp:Paired (λv (p:Str×V)=>∃t,v= .ref t/\SqT X.K G t [.str p.1,p.2]) vs pv)(h1000:pv.length<=1000):
  ∀k i s es,pv.length-i=k->i<=pv.length->es.length<=i->Inv X ce σ (upd H d (.dK es)) s->pM X ce (upd H d (.dK es)) it->s.heap.IsListIter it l i->
   (∀s',Inv X ce σ (upd H d (.dK (i5 es ((pv.drop i).map λp=>(qo p.1,p.2))))) s'->R (.ok (.ret res)) s')->
   codeAny (model X.prog X.w) A (.builtin "dict.update.loop" ⟨[.ref d,.ref it,rawInt i,res],[]⟩) R s:=by
 intro k
 have gh: ∀es,Same G (upd H d (.dK es)):=λes c u e=>by
  rw[aD (aQ e hn)];exact hG c u e
 have ag:vs.length=pv.length:=mo hp
 induction k with
 |zero=>
  intro i s es hk hi he I U Y S
  have T:i=pv.length:=by lia
  obtain⟨Q,N,W,_⟩:=I.list ((gh es).seq hl);obtain⟨f,C,f2,L,M,E⟩:=U;have nl:=N.length;refine codeAny_builtin iK ?_;rw[g8 eB _];show wpAny _ A.in1 (pyNext (.ref it) >>= _) _ _ s;refine aa (wpAny_pyNext_list_end hh Y W.isList (by simp;lia) λh' O=>?_)
  have n:Inv X ce σ (upd H d (.dK es)) {s with heap:=h'}:=I.turned (t':=s.toks) (λb o Z e=>O b o Z e) f C L M E
  show wpAny _ A.in1 (Builtin.Dict.addKeywords d [] >>= _) _ _ _;refine aa (ac (ac (S _ ?_)));rw[T,kh];exact n
 |succ k ih=>
  intro i s es hk hi he I U Y S;have B:i<pv.length:=by lia
  obtain⟨Q,N,W,_⟩:=I.list ((gh es).seq hl)
  obtain⟨v,p,e1,J,t,rfl,ht⟩: ∃v p,vs[i]? =pi v/\pv[i]? =pi p/\∃t,v= .ref t/\SqT X.K G t [.str p.1,p.2]:=by
   have e:vs[i]? =pi (vs[i]'(by lia)):=bd _
   obtain⟨p,J,r⟩:=jW hp e;exact⟨_,p,e,J,r⟩
  obtain⟨u,hu,ru⟩:=N.get e1
  cases (show u=qe t from ru)
  have nl:=N.length;obtain⟨f,C,f2,L,M,E⟩:=id U;refine codeAny_builtin iK ?_;rw[g8 eB _];show wpAny _ A.in1 (pyNext (.ref it) >>= _) _ _ s;refine aa (wpAny_pyNext_list_item Y W.isList (x:=.ref t) (by simpa using hu) λh' ad sb=>?_)
  have n:Inv X ce σ (upd H d (.dK es)) {s with heap:=h'}:=I.turned (t':=s.toks) (λb o Z e=>(sb.2 b Z).trans e) f C L M E
  obtain⟨ak,ab,pt,_⟩:=n.tuple ((gh es).seqT ht);obtain⟨x,y,rfl,rx,ry⟩:=bW.two ab;obtain⟨tk,rfl⟩:=(show ∃tk,x=qc p.1 tk from rx)
  obtain⟨ot,q1,q2,nt,q3⟩:=pt;obtain⟨z,hd,kvs,j,dd⟩:=zV n.hok (aH (H:=H) (a:=d) (o:=.dK es))
  have hz:kvs.length=es.length:=(KV.length j).symm
  refine aa (wpAny_holding (aa (wpAny_tryCatch (yK q1 q2 q3 ?_))));refine wpAny_holding (wpAny_dictSet_pairs (knd:=bI X.prog X.w) (k:=.inr p.1) (kX _ _ _ _) dd (λh2 h m=>?_) (by rw[hz,sizeLine_eq];lia))
  have hit:it≠d:=λz=>by rw[z,aH]at f;cases f
  have z2:(L2.putK es (.inr p.1) p.2).length<=es.length+1:=fT _ _ _
  have I3:Inv X ce σ (upd H d (.dK (L2.putK es (.inr p.1) p.2))) {s with heap:=h2,toks:=s.toks+1}:=by
   have:=jT (t':=s.toks+1) (ob:=.dK (L2.putK es (.inr p.1) p.2)) n (by rw[aH];exact pf) m (let ⟨q,_,_,hq,_⟩:=h;⟨q,hq⟩) (nA (by rw[sizeLine_eq];lia) hd (j.put (.inr p.1) ry) h)
   rw[yY]at this;exact this
  refine ac ⟨plainId_quiet eB _,?_⟩
  have g:=ih (i+1) {s with heap:=h2,toks:=s.toks+1} (L2.putK es (.inr p.1) p.2) (by lia) (by lia) (by lia) I3 ⟨by rw[aD hit]at f ⊢;exact f,C,f2,L,M,E⟩ (ad.extBut m.extBut hit) λs' Is=>S s' (by
   rw[dz B]
   have ep:pv[i]=p:=by rw[bd B]at J;exact ku J
   rw[ep,mr];exact Is)
  exact g
theorem wO: ∀{ds} {ps} {vs},kA ds=pi ps->aI X.K ad G ds vs->∃pv,Paired (λv (p:Str×V)=>∃t,v= .ref t/\SqT X.K G t [.str p.1,p.2]) vs pv/\Paired (λp q=>q.1=p.1/\Rep X.K ad G p.2 q.2) ps pv
 |[],ps,vs,h,r=>by
  cases h;unfold aI at r;subst r;exact⟨[],.nil,.nil⟩
 |d::ds,ps,vs,h,r=>by
  unfold aI at r;obtain⟨v,y,rfl,f,g⟩:=r;unfold kA at h;split at h;rename_i k x;obtain⟨z,n,rfl⟩:=zMd h;obtain⟨pv,i,m⟩:=wO n g;unfold Rep at f;obtain⟨t,A,rfl,j,b⟩:=f;unfold aI at b;obtain⟨w,s,rfl,q1,c⟩:=b;unfold aI at c;obtain⟨o,u,rfl,l,e⟩:=c;unfold aI at e;subst e;unfold Rep at q1;subst q1;exact⟨(k,o)::pv,.cons ⟨t,rfl,j⟩ i,.cons ⟨rfl,l⟩ m⟩;cases h
theorem wP: ∀{ps:L1 (Str×D)} {pv:L1 (Str×V)},Paired (λ(p:Str×D) q=>q.1=p.1/\Rep X.K ad G p.2 q.2) ps pv->∀{acc} {es},HR X.K ad G acc es->
  HR X.K ad G (ps.foldl (λacc p=>fE acc p.1 p.2) acc) (i5 es (pv.map λp=>(qo p.1,p.2)))
 |_,_,.nil,_,_,h=>h
 |_,_,.cons (a:=p) (b:=q) r t,acc,es,h=>by
  have c:=wK h r.2 p.1;have:=wP t c;rw[mr];show HR X.K ad G _ (i5 (L2.putK es (qo q.1) q.2) _);rw[r.1];exact this
def A3(hc:X.calm=qt)(I:Inv X ce σ H s)(hG:Same G H)(r:Rep X.K ad G x v)(ru:bH v u)(hr:RK X.K ad G H (m9 x) Q E):
  X.wp (call (.type "dict") [u]) (EP X ce σ Q) X.xe s:=by
 cases x<;>try exact ba hr
 rename_i ds;have g:RK X.K ad G H (match kA ds with|some i=>if i.length<=1000 then .ok (.dct ((tD i).map (·.1)) ((tD i).map (·.2)))else .bad|none=>.bad) Q E:=hr;rcases e:kA ds with _|i;rw[e]at g;exact g.elim;rw[e]at g;have f:RK X.K ad G H (if i.length<=1000 then .ok (.dct ((tD i).map (·.1)) ((tD i).map (·.2)))else .bad) Q E:=g;by_cases Z:i.length<=1000;rw[if_pos Z]at f;unfold Rep at r;obtain⟨l,vs,rfl,sq,rs⟩:=r;cases (show u=qe l from ru);obtain⟨pv,p1,p2⟩:=wO e rs;have hh:X.A.handled=qr:=I.ok.hd hc;obtain⟨m,rv,pl,_⟩:=I.list (hG.seq sq);have h:(s.heap.push {cls:=.type "dict",data:=.dict #[]}).DictOf (bI X.prog X.w) s.z []:=Heap.DictOf.new s.heap;have B:H s.z=qr:=I.hok.fresh (aj _);have I1:Inv X ce σ (upd H s.z (.dK [])) {s with heap:=s.heap.push {cls:=.type "dict",data:=.dict #[]} }:=I.laid (a:=s.z) (o:=.dK []) (t':=s.toks) (λ_ _ q=>ae _ q) (aj _) (oI s.heap I.bigK);refine callType_codes (Q₁:=λn j=>n= .ref s.z/\j={s with heap:=s.heap.push {cls:=.type "dict",data:=.dict #[]} }) F.kt_called_dict (F.kt_typeCall_dict_1 _) F.entry_dict_init (kt_code_dict_new _ ⟨rfl,rfl⟩) ?_;rintro n j ⟨rfl,rfl⟩;refine⟨h.typeIs,F.args_dict_init_2 _ _,?_⟩;unfold Builtin.«dict.__init__»;refine aa ?_;unfold Builtin.Dict.selfAndRest;refine aa (wpAny_notOrdered_dict h.typeIs ?_);show wpAny _ _ (pure (s.z,[qe l])) _ _ _;refine ac ?_;show wpAny _ _ (Builtin.Dict.updateFrom "dict.__init__" s.z (.ref l) [] .none) _ _ _;unfold Builtin.Dict.updateFrom;obtain⟨ol,S,W,Y,C,L⟩:=pl;have N:s.heap.get? l=pi {cls:=.type "list",dict:=qr,data:=.seq m.toArray S,slots:=ol.slots}:=by
  rw[W];obtain⟨c0,d0,a0,s0⟩:=ol;have c1:c0= .type "list":=Y;have d1:d0=qr:=C;have a1:a0= .seq m.toArray S:=L;rw[c1,d1,a1]
 have J:({s with heap:=s.heap.push {cls:=.type "dict",data:=.dict #[]} }:Shared).TypeIs (.ref l) "list":=⟨_,ae _ N,rfl⟩;refine aa (wpAny_typeOf J ?_);rw[if_pos (by decide)];refine aa (A2 (by exact hh) (ae _ N) λt p y=>?_);rw[if_pos (show(qr:L7 Value).isNone=qt from rfl)];refine aa (wpAny_rule ?_);have U:Inv X ce σ (upd H s.z (.dK [])) {s with heap:=t,toks:=p}:=I1.kept (t':=p) y;have ab:t.IsList l m.toArray:=⟨_,y _ _ (ae _ N),rfl,S,rfl⟩;refine aa (wpAny_pyIter_list (s:={s with heap:=t,toks:=p}) ab ?_);refine ac ⟨plainId_quiet eB _,?_⟩;have I3:Inv X ce σ (upd H s.z (.dK [])) {s with heap:=t.push {cls:=.type "list_iterator",data:=.fields #[.ref l,.int 0 0]},toks:=p}:=U.kept (t':=p) λb o e=>ae _ e;refine Dy (A:=X.A.in1) (d:=s.z) (it:=t.objs.size) (l:=l) hh .none hG (hG.free B) sq p1 (by rw[<-mo p2];exact Z) pv.length 0 _ [] (Nat.sub_zero _) (bu _) (aj _) I3 (U.fpOk (aj _) (U.hok.fresh (aj _))) ⟨_,af _ rfl,rfl,rfl⟩ λs' I'=>?_;rw[List.drop_zero]at I';have M:=wP p2 (acc:=[]) (es:=[]) .nil;obtain⟨O,T⟩:=M.rep;refine⟨rfl,uB (ad:=ad) I' hG (.inl B) (hG.free B) O T λv G' H' g1 g2 g3 g4 rr=>?_⟩;refine f v G' H' ⟨g2,g3,λc w e=>?_,λc z1 z2=>?_⟩ rr;rw[g4 c (λz=>by rw[z,B]at e;cases e)];exact e;by_cases z:c=s.z;rw[z];exact B;rw[g1 c z,z1]at z2;exact absurd rfl z2;rw[if_neg Z]at f;exact f.elim
def Dz(hc:X.calm=qt)(hg:L2.Gl X "dict")(hm:X.mg "dict"=qr)(ha:ME X ad a f)(he:starEach [a] X.env=(qu,eval a X.env)::starEach [] X.env):ME X ad (.Call (.Name "dict" p) [a] [] pos) (zN f):=by refine λw s q H Q I i=>i.el λG y E t j l h=>?_;refine wpAny_Call_Name_kw (gE I hg hm (u:=.type "dict") (by decide+kernel) ?_ (by decide) (by decide));refine du (L2.thn (cG ha dR he pos w s q H (λg c=>∃v d b,g=[v]/\Step G H b c/\Rep X.K ad b d v/\RK X.K ad b c (m9 d) Q E) I ?_) λz A ⟨g,c,m,x,v,d,b,o,e,r,k⟩=>?_) he rfl;exact dX t j l h λv d b c e r k=>⟨v,d,b,rfl,e,r,k⟩;subst o;obtain⟨u,rfl,n⟩:=lB x;exact A3 hc m e.gh r n k
end
def bX(h:one l=pi a):l=[a]:=by unfold one at h;split at h;cases h;rfl;cases h
def jE(h:two l=pi (a,b)):l=[a,b]:=by unfold two at h;split at h;cases h;rfl;cases h
def aV(h:cF e=pi (x,p)):e= .Name x p:=by cases e<;>first|(cases h;rfl)|(cases h;done)
def uC(h:Gm e=pi (es,k,p)):e= .Tuple es k p:=by cases e<;>first|(cases h;rfl)|(cases h;done)
def A4{lo hi}(h:EG e=pi (lo,hi)): ∃p,e= .Slice lo hi qr p:=by
 cases e<;>try (cases h;done)
 rename_i a b c p;rcases c with _|c;cases h;exact⟨p,rfl⟩;cases h
def DA(h:Gn e=qt): ∃j p,e= .Constant (.int 1) j p:=by
 cases e<;>try (cases h;done)
 rename_i c j p;cases c<;>try (cases h;done)
 rename_i i;have:i=1:=by simpa[Gn]using h
 subst this;exact⟨j,p,rfl⟩
def HC(h:P8 e=qt): ∃j p q,e= .UnaryOp .USub (.Constant (.int 1) j q) p:=by
 cases e<;>try (cases h;done)
 rename_i b e p;cases b<;>try (cases h;done)
 obtain⟨j,q,rfl⟩:=DA (e:=e) h;exact⟨j,p,q,rfl⟩
def HD(h:Qa e=qt): ∃j p2 p3 p4,e= .Slice qr qr (pi (.UnaryOp .USub (.Constant (.int 1) j p4) p3)) p2:=by
 cases e<;>try (cases h;done)
 rename_i lo hi b p;cases lo<;>try (cases h;done)
 cases hi<;>try (cases h;done)
 cases b<;>try (cases h;done)
 obtain⟨j,q,r,rfl⟩:=HC h;exact⟨j,p,q,r,rfl⟩
def ND(h:KC dE C a=pi f): ∃x p b q,a= .Call (.Name x p) [b] [] q/\glo C x=pi (.py .range)/\dE b=pi f:=by unfold KC at h;split at h;rename_i l i e q;split at h;rename_i hk;obtain⟨⟨x,p⟩,c,h⟩:=zBd h;obtain⟨b,g,h⟩:=zBd h;split at h;rename_i j d;exact⟨x,p,b,q,by rw[aV c,bX g,ko.mp hk],d,h⟩;cases h;cases h;cases h
def DB(e:Gp dE C a=pi h): ∃x p b c q f g,a= .Call (.Name x p) [b,c] [] q/\glo C x=pi (.py .zip)/\dE b=pi f/\dE c=pi g/\h=qG f g:=by unfold Gp at e;split at e;rename_i s o j q;split at e;rename_i hk;obtain⟨⟨x,p⟩,i,e⟩:=zBd e;obtain⟨⟨b,c⟩,n,e⟩:=zBd e;simp only at e;split at e;rename_i r l;obtain⟨f,d,e⟩:=zBd e;obtain⟨g,m,e⟩:=zMd e;exact⟨x,p,b,c,q,f,g,by rw[aV i,jE n,ko.mp hk],l,d,m,e.symm⟩;cases e;cases e;cases e
def dB{α:Type}{l:L1 α}(h:l.isEmpty=qt):l=[]:=ko.mp h
def eX:Expr->Prop
 |.Starred _ _=>False
 |_=>True
def aJ(h:eX e):starEach (e::es) env=(qu,eval e env)::starEach es env:=by cases e<;>first|rfl|exact h.elim
def nN:Expr->Prop
 |.Set _ _ _=>False
 |_=>True
def fY(h:nN e):behindInMarks op e=qu:=by cases e<;>first|rfl|exact h.elim
def rM(h:nN c):lastMarks [op,op'] [b,c]=qu:=by show behindInMarks op' c=qu;exact fY h
def oR(h: ∀a b c d,e≠ .Slice a b c d):zF e:=by intro o i;cases e<;>first|rfl|exact absurd rfl (h _ _ _ _)
def aL(h:bN n C e=pi f):eX e/\nN e/\∀a b c d,e≠ .Slice a b c d:=by rcases n with _|n;cases h;cases e<;>first|(cases h;done)|(refine⟨trivial,trivial,?_⟩;intro a b c d z;cases z;done)
def dH(h:yA n C e=pi f):eX e/\nN e:=by
 rcases n with _|n;cases h;by_cases b: ∃x p,e= .Name x p;obtain⟨x,p,rfl⟩:=b;exact⟨trivial,trivial⟩;have:bN n C e=pi f:=by
  rw[<-h];cases e<;>first|rfl|exact absurd ⟨_,_,rfl⟩ b
 exact⟨(aL this).1,(aL this).2.1⟩
def gO(h:Cs n C tt e=pi f):nN e:=by rcases n with _|n;cases h;cases e<;>first|trivial|exact(dH h).2
section
variable{ad:Ad}{X:Cx}{C:SK.Ctx}{n:Nat}
def nO(ad:Ad)(n:Nat):Prop:= ∀(X:Cx) (C:SK.Ctx) (e:Expr) (f:F),CtxOk X ad C->bN n C e=pi f->ME X ad e f/\MT X ad e f/\∀op es p,e= .BoolOp op es p->MW X ad e f
def HE(ad:Ad)(n:Nat):Prop:= ∀(X:Cx) (C:SK.Ctx) (e:Expr) (f:F),CtxOk X ad C->yA n C e=pi f->ML X ad e f
def LD(ad:Ad)(n:Nat):Prop:= ∀(X:Cx) (C:SK.Ctx) (tg e:Expr) (tt:Bool) (f:F),CtxOk X ad C->(tt=qt->∃es k p,tg= .Tuple es k p)->Cs n C tt e=pi f->MI X ad tg e f/\(tt=qu->(∀x p,e≠ .Name x p)->MIG X ad tg e f)
theorem oS(hE:nO ad n)(O:CtxOk X ad C): ∀{es} {fs},eL (bN n C) es=pi fs->MA X ad es fs/\∀e∈es,eX e
 |[],fs,h=>by
  cases h;exact⟨Ag,λ_ h=>by cases h⟩
 |e::es,fs,h=>by
  unfold eL at h;rcases b:bN n C e with _|f;rw[b]at h;cases h;rw[b]at h;obtain⟨r,g,j⟩:=zMd h;subst j;obtain⟨q1,i⟩:=oS hE O g;have d:=(aL b).1;exact⟨oJ (hE X C e f O b).1 q1 (aJ d),λa c=>by
   rcases av.mp c with rfl|c;exact d;exact i a c⟩
theorem fJ{α β}{f:α->L7 β}: ∀{l} {r},eL f l=pi r->r.length=l.length
 |[],r,h=>by cases h;rfl
 |x::l,r,h=>by
  unfold eL at h;rcases e:f x with _|y;rw[e]at h;cases h;rw[e]at h;obtain⟨d,b,c⟩:=zMd h;subst c;simp[fJ b]
theorem wQ{env}{pos}: ∀{es},(∀e∈es,eX e)->(backTo pos (starEach es env)).any (·.1)=qu
 |[],_=>rfl
 |e::es,h=>by
  rw[aJ (h e (.head _))];show(qu||(backTo pos (starEach es env)).any (·.1))=qu;rw[wQ λa b=>h a (.tail _ b)];rfl
def OL(hE:nO ad n)(hL:HE ad n)(O:CtxOk X ad C)(hg:glo C x=pi (.py p))(h:Gu (bN n C) (yA n C) C p as=pi f):ME X ad (.Call (.Name x np) as [] pos) f:=by obtain⟨l,q,o,m⟩:=O.gl hg;unfold Gu at h;split at h;have e:=zBd h;clear h;obtain⟨a,j,h⟩:=e;cases bX j;obtain⟨i,d,rfl⟩:=zMd h;subst o;exact tP GN l m (by decide+kernel) (hL X C _ i O d) (by decide) q (aJ (dH d).1);have e:=zBd h;clear h;obtain⟨a,j,h⟩:=e;cases bX j;obtain⟨i,d,rfl⟩:=zMd h;subst o;exact vX GO l m (by decide+kernel) (hL X C _ i O d) (by decide) q (aJ (dH d).1);have e:=zBd h;clear h;obtain⟨a,j,h⟩:=e;cases bX j;obtain⟨i,d,rfl⟩:=zMd h;subst o;exact vX GP l m (by decide+kernel) (hL X C _ i O d) (by decide) q (aJ (dH d).1);have e:=zBd h;clear h;obtain⟨a,j,h⟩:=e;cases bX j;obtain⟨i,d,rfl⟩:=zMd h;subst o;exact vX Ak l m (by decide+kernel) (hL X C _ i O d) (by decide) q (aJ (dH d).1);have e:=zBd h;clear h;obtain⟨a,j,h⟩:=e;cases bX j;subst o;rcases d:yA n C a with _|i;rw[d]at h;obtain⟨i,r,rfl⟩:=zMd h;obtain⟨y,Q,b,c,K,E,A,rfl,z,u,t,rfl⟩:=DB r;obtain⟨I,L,G,H⟩:=O.gl z;subst G;exact t6 I H l m O.calm (hE X C _ E O u).1 (hE X C _ A O t).1 (aJ (aL u).1) (aJ (aL t).1);rw[d]at h;cases h;exact vX C5 l m (by decide+kernel) (hL X C _ i O d) (by decide) q (aJ (dH d).1);have e:=zBd h;clear h;obtain⟨a,j,h⟩:=e;cases bX j;obtain⟨i,d,rfl⟩:=zMd h;subst o;exact tP (GQ O.hd) l m (by decide+kernel) (hL X C _ i O d) (by decide) q (aJ (dH d).1);have e:=zBd h;clear h;obtain⟨a,j,h⟩:=e;cases bX j;obtain⟨i,d,rfl⟩:=zMd h;subst o;exact tP (GR O.hd) l m (by decide+kernel) (hL X C _ i O d) (by decide) q (aJ (dH d).1);cases h;cases h;cases h;cases h;cases h;have e:=zBd h;clear h;obtain⟨⟨a,b⟩,j,h⟩:=e;cases jE j;have e:=zBd h;clear h;obtain⟨⟨tn,N⟩,J,h⟩:=e;cases aV J;obtain⟨i,d,h⟩:=zBd h;obtain⟨g,B,h⟩:=zBd h;obtain⟨P,r,rfl⟩:=zMd h;subst o;obtain⟨M,v,w⟩:=E9 O B r;by_cases s:bsN C a=qt;rw[if_pos s]at d;exact tW O.exc l m v w (hL X C _ i O d) (aJ (dH d).1);rw[if_neg s]at d;exact tW O.exc l m v w (hE X C _ i O d).1.ml (aJ (aL d).1);cases h
def LE(hE:nO ad n)(O:CtxOk X ad C)(h:txN (bN n C) C x p m a=pi f)(hl:(ap.endLine==cp.line)=qt):ME X ad (.Call (.Attribute (.Name x p) m ap) [a] [] cp) f:=by unfold txN at h;split at h;split at h;rename_i c;subst c;obtain⟨fo,e,h⟩:=zBd h;obtain⟨d,b,rfl⟩:=zMd h;exact Dh (hE X C _ fo O e).1 (hE X C _ d O b).1 rfl (aJ (aL b).1) hl;split at h;rename_i c;subst c;obtain⟨fo,e,h⟩:=zBd h;obtain⟨d,b,rfl⟩:=zMd h;exact Hl (hE X C _ fo O e).1 (hE X C _ d O b).1 rfl (aJ (aL b).1) hl;cases h;split at h;rename_i c;subst c;split at h;rename_i kvs l;obtain⟨d,b,rfl⟩:=zMd h;obtain⟨j,i,A,o,g⟩:=O.gl l;exact Lo g j o i (hE X C _ d O b).1 (aJ (aL b).1) hl;cases h;cases h
def LF(hE:nO ad n)(hL:HE ad n)(O:CtxOk X ad C)(h:txA (bN n C) (yA n C) C o m as=pi f)(hl:(ap.endLine==cp.line)=qt):ME X ad (.Call (.Attribute o m ap) as [] cp) f:=by unfold txA at h;have c:=zBd h;clear h;obtain⟨a,g,h⟩:=c;cases bX g;split at h;split at h;split at h;rename_i e;subst e;obtain⟨d,b,rfl⟩:=zMd h;exact Hk (hL X C _ d O b) (aJ (dH b).1) hl;cases h;cases h;exact LE hE O h hl;cases h
def oT(h:ME X ad e f)(ht: ∀whole,isTrue e X.env whole=(do let v<-whole;standAt e.pos;holding [v] (truthy v)))(hb: ∀op es p,e≠ .BoolOp op es p):ME X ad e f/\MT X ad e f/\∀op es p,e= .BoolOp op es p->MW X ad e f:=
 ⟨h,EV h ht,λop es p z=>absurd z (hb op es p)⟩
def A5(h:MW X ad e f):MT X ad e f:=λc s b H Q I t=>h _ c s b H Q I t
def Fg{tg}(h:bT tg=pi (xs,k)):xs.length=(if k=0 then 1 else k)/\((k != 0)=qt->∃es j p,tg= .Tuple es j p):=by
 cases tg<;>try (cases h;done)
 cases h;exact⟨rfl,λz=>absurd z (by decide)⟩;rename_i es j p;unfold bT at h;obtain⟨d,e,b⟩:=zBd h;by_cases c:2<=d.length;rw[if_pos c]at b;cases b;exact⟨by rw[if_neg (by lia)],λ_=>⟨es,j,p,rfl⟩⟩;rw[if_neg c]at b;cases b
def A6(O:CtxOk X ad C){tg}(hc:iY sc xs=qt)(e1:bT tg=pi (xs,k))fp s3 H3(pins':Pl):PG (cX X (xs++aN sc) sc s3 H3 fp pins') tg (gTg X.K k):=by
 obtain⟨m,g,f,j,e,h,n⟩:=hJ hc;by_cases b:oC sc=[];case neg=>
  rcases g with z|⟨z,l⟩;exact absurd z b;obtain⟨x,rfl⟩:=fy.mp l;refine Hn (X:=cX X ([x]++aN sc) sc s3 H3 fp pins') (x:=x) e e1 rfl rfl ?_ (decide_eq_true z);show(relabel sc X.env).names.lookup x=pi .cell;have c:=cP (env:=X.env) (x:=x) (names:=sc.names);rw[f x (.head _),z]at c;exact c
 refine OC (X:=cX X (xs++aN sc) sc s3 H3 fp pins') O.calm e e1 λi x d=>⟨?_,?_⟩;show(xs++aN sc)[i]? =pi x;rw[bx (ay.mp d).1];exact d;show(relabel sc X.env).names.lookup x=pi .local;have c:=cP (env:=X.env) (x:=x) (names:=sc.names);rw[f x (List.mem_of_getElem? d),b]at c;exact c
def nQ(hE:nO ad n)(hI:LD ad n)(O:CtxOk X ad C){elt tg it}(h:bN (n+1) C (.ListComp elt [⟨tg,it,ifs,0⟩] sc pos)=pi f):
  ∃xs k cs fi fc fe,f=aY k cs fi fc fe/\(bT tg=pi (xs,k)/\bN n {C with sc:=sc,N:=xs++aN sc} elt=pi fe)/\CompSc X C sc xs cs/\MI X ad tg it fi/\(∀a b c,it≠ .Set a b c)/\xs.length=(if k=0 then 1 else k)/\(∀fp s3 H3 pins',PG (cX X (xs++aN sc) sc s3 H3 fp pins') tg (gTg X.K k))/\
   (∀fp s3 H3 pins',MTs (cX X (xs++aN sc) sc s3 H3 fp pins') ad ifs fc)/\∀fp s3 H3 pins',ME (cX X (xs++aN sc) sc s3 H3 fp pins') ad elt fe:=by
 have t:((bT tg).bind fun(xs,k)=>(Cs n C (k != 0) it).bind fun fi=>if iY sc xs then
    (eL (λx=>eF C x) (aN sc)).bind λcs=>(match ifs with
    |[]=>pi qr
    |[c]=>(bN n {C with sc:=sc,N:=xs++aN sc} c).map pi
    |_=>qr).bind λc=>(bN n {C with sc:=sc,N:=xs++aN sc} elt).map λe=>aY k cs fi c e
   else qr)=pi f:=h
 clear h;obtain⟨⟨xs,k⟩,l,h⟩:=zBd t;obtain⟨fi,m,h⟩:=zBd h;obtain⟨u,r⟩:=Fg l;by_cases d:iY sc xs=qt;rw[if_pos d]at h;obtain⟨cs,p,h⟩:=zBd h;obtain⟨fc,j,h⟩:=zBd h;obtain⟨fe,o,s⟩:=zMd h;have i: ∀fp s3 H3 pins',CtxOk (cX X (xs++aN sc) sc s3 H3 fp pins') ad {C with sc:=sc,N:=xs++aN sc}:=λfp s3 H3 pins'=>Fa O d p;refine⟨xs,k,cs,fi,fc,fe,s.symm,⟨l,o⟩,rB O d p,(hI X C tg it _ fi O r m).1,λa b c z=>?_,u,A6 O d l,λfp s3 H3 pins'=>?_,λfp s3 H3 pins'=>(hE _ _ elt fe (i fp s3 H3 pins') o).1⟩;subst z;exact gO m;split at j;cases j;trivial;obtain⟨g,q,rfl⟩:=zMd j;exact(hE _ _ _ g (i fp s3 H3 pins') q).2.1;cases j;rw[if_neg d]at h;cases h
def iL{C}(h:atF C f e=pi i): ∃x p q,e= .Attribute (.Name x p) f q/\loc C x=pi i:=by
 unfold atF at h;obtain⟨⟨o,g,q⟩,d,m⟩:=zBd h;have b:(if g=f then(cF o).bind λ(x,_)=>loc C x else qr)=pi i:=m;by_cases c:g=f;rw[if_pos c]at b;subst c;obtain⟨⟨x,p⟩,l,j⟩:=zBd b;cases aV l;refine⟨x,p,q,?_,j⟩;cases e<;>first|(cases d;rfl)|(cases d;done)
 rw[if_neg c]at b;cases b
def HF{C}(h:Om C e=pi (i,b)): ∃x p q,e= .Attribute (.Name x p) (if b then "done" else "undone") q/\loc C x=pi i:=by unfold Om at h;split at h;rename_i j c;cases h;exact iL c;obtain⟨j,d,f⟩:=zMd h;cases f;exact iL d
def uD(hs: ∀e∈es,eX e)(hl:es.length<20):methodCallForm (es.length+([]:L1 Keyword).length) (backTo cp (starEach es env)) (backToKw cp (keywordEach [] env))=qt:=by
 have all: ∀es:L1 Expr,(∀e∈es,eX e)->(backTo cp (starEach es env)).all (!·.1)=qt/\(backTo cp (starEach es env)).any (·.1)=qu:=by
  intro es;induction es with
  |nil=>intro _;exact⟨rfl,rfl⟩
  |cons e es d=>
   intro hs;obtain⟨a,b⟩:=d λe c=>hs e (.tail _ c);rw[aJ (hs e (.head _))];exact⟨a,b⟩
 unfold methodCallForm;rw[(all es hs).1];show(qt&&qt&&decide (es.length+0+0<30))=qt;simp;lia
def jF(hs: ∀e∈es,eX e):(backTo cp (starEach es env)).any (·.1)=qu:=by
 induction es with
 |nil=>rfl
 |cons e es c=>
  rw[aJ (hs e (.head _))];exact c λe b=>hs e (.tail _ b)
def OM{X}(h:eX e)(hl:(ap.endLine==cp.line)=qt):M1 X (.Attribute (.Name x p) "held" pos) "get" ap e cp:=by refine⟨rfl,?_,hl,?_⟩;rw[aJ h];rfl;rw[aJ h];rfl
def HG(hE:nO ad n)(O:CtxOk X ad C)(h:Ny (bN n C) C e=pi f):ME X ad e f/\MT X ad e f/\∀op es p,e= .BoolOp op es p->MW X ad e f:=by
 unfold Ny at h;rcases u:rkc C with _|am;rw[u]at h;cases h;obtain⟨A,ms⟩:=am;rw[u]at h;have E:NC X ad "Rack" (.cls A ms):=by
  unfold rkc at u;split at u;rename_i a' ag e';cases u;exact(O.gt _ _ e').2;cases u
 obtain⟨_,G,Z⟩:=E;simp only at h;split at h;rename_i a op cs Q;have c:=zBd h;clear h;obtain⟨b,B,h⟩:=c;cases bX B;unfold KD at h;split at h;rename_i v t;have c:=zBd h;clear h;obtain⟨i,d,h⟩:=c;obtain⟨g,s,rfl⟩:=zMd h;obtain⟨x,p,q,rfl,l⟩:=iL d;have j:=O.vis x i l;have L:op=if v then .NotIn else .In:=by
  cases op<;>first|(cases t;rfl)|(cases t;done)
 subst L;have T:=Ly (p:=p) (ap:=q) O.un G j (hE X C _ g O s).1 v;exact⟨JX T (fY trivial),Dr (fY trivial) λI hG Y c hr=>T _ _ _ _ _ I ⟨_,_,_,hG,Y,c,hr⟩,λ_ _ _ z=>nomatch z⟩;cases h;rename_i a b Q;have c:=zBd h;clear h;obtain⟨i,d,h⟩:=c;obtain⟨g,s,rfl⟩:=zMd h;obtain⟨x,p,q,rfl,l⟩:=iL d;have j:=O.vis x i l;exact oT (Hv O.un G j (hE X C _ g O s).1 (oR (aL s).2.2)) (λ_=>rfl) (λ_ _ _ z=>nomatch z);rename_i fe as ab cp;split at h;rename_i hk;cases ko.mp hk;split at h;rename_i o m ap;split at h;rename_i U;unfold KG at h;split at h;rename_i x p hv;cases aV hv;have c:=zBd h;clear h;obtain⟨i,d,h⟩:=c;have c:=zBd h;clear h;obtain⟨⟨n0,M⟩,s,h⟩:=c;have j:=O.vis x i d;simp only at h;split at h;rename_i w;have c:=zBd h;clear h;obtain⟨fs,S,h⟩:=c;split at h;rename_i hn;cases h;obtain⟨ma,H⟩:=oS hE O S;exact oT (LA G (Z m n0 M s) j ma hn (λa r e=>by
  subst e;exact⟨aJ (H a (.head _)),jF λe he=>H e (.tail _ he)⟩) (fJ S).symm (uD H w) U) (λ_=>rfl) (λ_ _ _ z=>nomatch z)
 cases h;cases h;split at h;rename_i hm;subst hm;have c:=zBd h;clear h;obtain⟨i,d,h⟩:=c;have c:=zBd h;clear h;obtain⟨a,B,h⟩:=c;cases bX B;obtain⟨g,s,rfl⟩:=zMd h;obtain⟨x,p,q,rfl,l⟩:=iL d;have j:=O.vis x i l;exact oT (Hw O.un G j (hE X C _ g O s).1 (OM (aL s).1 U)) (λ_=>rfl) (λ_ _ _ z=>nomatch z);cases h;cases h;rename_i x p;have c:=zBd h;clear h;obtain⟨a,B,h⟩:=c;cases bX B;unfold Qb at h;split at h;rename_i K;obtain⟨i,d,rfl⟩:=zMd h;obtain⟨y,py,q,rfl,l⟩:=iL d;have j:=O.vis y i l;obtain⟨J,W,N,g4⟩:=O.gl K;cases (show x="sorted" from N);exact oT (Hy O.calm G J g4 j) (λ_=>rfl) (λ_ _ _ z=>nomatch z);rename_i K;split at h;rename_i hB;subst hB;have c:=zBd h;clear h;obtain⟨⟨y,py⟩,d,h⟩:=c;obtain⟨i,l,rfl⟩:=zMd h;cases aV d;have j:=O.vis y i l;obtain⟨J,W,N⟩:=O.gl K;exact oT (Hz N J W j) (λ_=>rfl) (λ_ _ _ z=>nomatch z);cases h;cases h;cases h;cases h;cases h
def ON{X}(ha:eX a)(hb:eX b)(hl:(ap.endLine==cp.line)=qt):M2 X (.Name x p) "get" ap a b cp:=by refine⟨rfl,?_,hl,?_⟩;rw[aJ ha,aJ hb];rfl;rw[aJ ha,aJ hb];rfl
def LG(hE:nO ad n)(O:CtxOk X ad C)(h:dkE (bN n C) C e=pi f):ME X ad e f/\MT X ad e f/\∀op es p,e= .BoolOp op es p->MW X ad e f:=by
 unfold dkE at h;split at h;rename_i G B u A;split at h;rename_i hk;cases ko.mp hk;split at h;rename_i o m H;split at h;rename_i v;obtain⟨rfl,q,t⟩:=v;have c:=zBd h;clear h;obtain⟨⟨a,b⟩,g,h⟩:=c;cases jE g;have c:=zBd h;clear h;obtain⟨fo,d,h⟩:=c;have c:=zBd h;clear h;obtain⟨i,l,h⟩:=c;obtain⟨fb,j,rfl⟩:=zMd h;cases o<;>try (cases q;done)
 exact oT (Dx O.un (hE X C _ fo O d).1 (hE X C _ i O l).1 (hE X C _ fb O j).1 (ON (aL l).1 (aL j).1 t)) (λ_=>rfl) (λ_ _ _ z=>nomatch z);cases h;rename_i x p;have c:=zBd h;clear h;obtain⟨a,g,h⟩:=c;cases bX g;split at h;rename_i E r;obtain⟨i,d,rfl⟩:=zMd h;obtain⟨s,I,w,y⟩:=O.gl r;cases (show x="dict" from w);exact oT (Dz O.calm s y (hE X C _ i O d).1 (aJ (aL d).1)) (λ_=>rfl) (λ_ _ _ z=>nomatch z);cases h;cases h;cases h;cases h
def A7(hE:nO ad n)(O:CtxOk X ad C)(h:rkE (bN n C) C e=pi f):ME X ad e f/\MT X ad e f/\∀op es p,e= .BoolOp op es p->MW X ad e f:=by unfold rkE at h;rcases b:Ny (bN n C) C e with _|g;rw[b]at h;exact LG hE O h;rw[b]at h;cases h;exact HG hE O b
def HH(h:Oo l=pi (a,b)):l=[a,b]:=by unfold Oo at h;split at h;cases h;rfl;cases h
def A8(h:Nz o=pi x): ∃j p,o=pi (.Constant (.str x) j p):=by unfold Nz at h;have b:=zBd h;clear h;obtain⟨e,rfl,h⟩:=b;split at h;split at h;cases h;exact⟨_,_,rfl⟩;cases h;cases h
def LH(hE:nO ad n)(O:CtxOk X ad C)(h:dkD (bN n C) ks vs=pi f):ME X ad (.Dict ks vs pos) f:=by unfold dkD at h;split at h;rename_i hk;rw[aw]at hk;cases ko.mp hk.1;cases ko.mp hk.2;cases h;exact Dv;have b:=zBd h;clear h;obtain⟨⟨q,s⟩,l,h⟩:=b;cases HH l;have b:=zBd h;clear h;obtain⟨⟨p,u⟩,i,h⟩:=b;cases jE i;have b:=zBd h;clear h;obtain⟨x,e,h⟩:=b;have b:=zBd h;clear h;obtain⟨y,c,h⟩:=b;have b:=zBd h;clear h;obtain⟨j,d,h⟩:=b;obtain⟨fb,g,rfl⟩:=zMd h;obtain⟨r,o,rfl⟩:=A8 e;obtain⟨m,t,rfl⟩:=A8 c;exact Dw (hE X C _ j O d).1 (hE X C _ fb O g).1
def OO(hE:nO ad n)(hL:HE ad n)(hI:LD ad n):nO ad (n+1):=by
 intro X C e f O h;unfold bN at h;split at h
 .
  rename_i x pos;refine oT ?_ (λ_=>rfl) (λ_ _ _ z=>nomatch z)
  cases e1:loc C x with
  |some i=>
   rw[e1]at h;cases h;have vz:=O.vis x i e1;exact zS vz
  |none=>
   rw[e1]at h
   simp only at h
   split at h
   .rename_i d E;cases h;obtain⟨L,N,u,v,g3,g4,g5⟩:=O.gl E;exact zT L g3 g4 g5 N
   .rename_i k0 n0 f0 E;cases h;obtain⟨L,N,r,f,T,hr,hf⟩:=O.gl E;subst hf;exact zT (v:=.ref (ad.fnA k0)) L T.mg rfl (λG=>by unfold Rep;rfl) N
   .cases h
 .obtain⟨d,g,rfl⟩:=zMd h;exact oT (iZ g) (λ_=>rfl) (λ_ _ _ z=>nomatch z)
 .obtain⟨q,g,h⟩:=zBd h;obtain⟨fb,l,rfl⟩:=zMd h;exact oT (EL (hE X C _ q O g).1 (hE X C _ fb O l).1) (λ_=>rfl) (λ_ _ _ z=>nomatch z)
 .obtain⟨q,g,h⟩:=zBd h;obtain⟨q1,w,_⟩:=hE X C _ q O g;split at h
  .cases h;exact⟨KW q1,EW w,λ_ _ _ z=>nomatch z⟩
  .cases h;exact oT (ES q1) (λ_=>rfl) (λ_ _ _ z=>nomatch z)
  .cases h
 .rename_i op es pos;split at h
  .rename_i a b;obtain⟨q,g,h⟩:=zBd h;obtain⟨fb,l,rfl⟩:=zMd h;obtain⟨q1,w,_⟩:=hE X C _ q O g;obtain⟨K,Z,_⟩:=hE X C _ fb O l
   cases op with
   |And=>
    have W:MW X ad (.BoolOp .And [a,b] pos) (lI q fb):=EX w (Af Z);exact⟨ET q1 (EU K),A5 W,λ_ _ _ _=>W⟩
   |Or=>
    have W:MW X ad (.BoolOp .Or [a,b] pos) (rOr q fb):=GJ w (Af Z);exact⟨KZ q1 (EU K),A5 W,λ_ _ _ _=>W⟩
  .rename_i a b c r;obtain⟨q,g,h⟩:=zBd h;obtain⟨fb,l,rfl⟩:=zMd h;obtain⟨q1,w,_⟩:=hE X C _ q O g;obtain⟨K,Z,r3⟩:=hE X C _ fb O l
   cases op with
   |And=>
    have W:MW X ad (.BoolOp .And (a::b::c::r) pos) (lI q fb):=EX w (r3 _ _ _ rfl);exact⟨ET q1 K,A5 W,λ_ _ _ _=>W⟩
   |Or=>
    have W:MW X ad (.BoolOp .Or (a::b::c::r) pos) (rOr q fb):=GJ w (r3 _ _ _ rfl);exact⟨KZ q1 K,A5 W,λ_ _ _ _=>W⟩
  .cases h
 .split at h
  .rename_i fr t;cases h;exact A7 hE O t
  rename_i s;clear s;split at h
  .have B:=zBd h;clear h;obtain⟨b,H,h⟩:=B
   cases bX H
   obtain⟨q,g,h⟩:=zBd h;obtain⟨fb,l,rfl⟩:=zMd h;exact⟨K2 O.un (hE X C _ q O g).1 (hE X C _ fb O l).1 (fY (aL l).2.1),EY O.un (hE X C _ q O g).1 (hE X C _ fb O l).1 (fY (aL l).2.1),λ_ _ _ z=>nomatch z⟩
  .have B:=zBd h;clear h;obtain⟨⟨b,c⟩,H,h⟩:=B
   cases jE H
   obtain⟨q,g,h⟩:=zBd h;obtain⟨fb,l,h⟩:=zBd h;obtain⟨fc,y,rfl⟩:=zMd h;exact⟨C2 O.un (hE X C _ q O g).1 (hE X C _ fb O l).1 (hE X C _ fc O y).1 (rM (aL y).2.1),C3 O.un (hE X C _ q O g).1 (hE X C _ fb O l).1 (hE X C _ fc O y).1 (rM (aL y).2.1),λ_ _ _ z=>nomatch z⟩
  .cases h
 .exact oT (LH hE O h) (λ_=>rfl) (λ_ _ _ z=>nomatch z)
 .split at h
  .rename_i M;obtain⟨fs,g,rfl⟩:=zMd h;exact oT (K3 (oS hE O g).1 (by rw[fJ g];exact M)) (λ_=>rfl) (λ_ _ _ z=>nomatch z)
  .cases h
 .split at h
  .rename_i M;obtain⟨fs,g,rfl⟩:=zMd h;exact oT (EZ (oS hE O g).1 (by rw[fJ g];exact M)) (λ_=>rfl) (λ_ _ _ z=>nomatch z)
  .cases h
 .
  rename_i a b pos;split at h
  .rename_i fr t;cases h;exact A7 hE O t
  rename_i s;clear s;have B:=zBd h;clear h;obtain⟨q,g,h⟩:=B;split at h
  .rename_i lo hi Y;obtain⟨p,rfl⟩:=A4 Y;obtain⟨fl,l,h⟩:=zBd h;obtain⟨fh,y,rfl⟩:=zMd h;refine oT (K7 (hL X C _ q O g).lk ?_ ?_) (λ_=>rfl) (λ_ _ _ z=>nomatch z)
   .split at l
    .cases l;trivial
    .obtain⟨k,h4,rfl⟩:=zMd l;exact(hE X C _ k O h4).1
   .split at y
    .cases y;trivial
    .obtain⟨k,h4,rfl⟩:=zMd y;exact(hE X C _ k O h4).1
  .split at h
   .rename_i Y;cases h;obtain⟨j,p2,p3,p4,rfl⟩:=HD Y;exact oT (Lr (hL X C _ q O g).lk) (λ_=>rfl) (λ_ _ _ z=>nomatch z)
   obtain⟨fb,l,rfl⟩:=zMd h;exact oT (K5 (hL X C _ q O g).lk (hE X C _ fb O l).1 (oR (aL l).2.2)) (λ_=>rfl) (λ_ _ _ z=>nomatch z)
 .
  rename_i am al sc pos;refine oT ?_ (λ_=>rfl) (λ_ _ _ z=>nomatch z)
  split at h
  .rename_i tg it ar as;split at h
   .rename_i ha;subst ha;obtain⟨xs,k,cs,fi,fc,fe,rfl,_,S,hi,J,ab,hg,ak,he⟩:=nQ (pos:=pos) hE hI O h;exact GY O.calm S hi J ab hg ak he
   .cases h
  .cases h
 .
  rename_i f' as an pos;split at h
  .rename_i fr t;cases h;exact A7 hE O t
  rename_i s;clear s;refine oT ?_ (λ_=>rfl) (λ_ _ _ z=>nomatch z)
  split at h
  .rename_i ag
   cases dB ag
   split at h
   .rename_i x np;split at h
    .cases h
    .split at h
     .rename_i k1 k2 fn E
      by_cases I:as.isEmpty=qt
      .rw[if_pos I]at h;cases h
      rw[if_neg I]at h;obtain⟨fs,g,h⟩:=zBd h;split at h
      .rename_i hk;cases h;obtain⟨L,N,r,q,T,hr,_⟩:=O.gl E;obtain⟨q1,w⟩:=oS hE O g
       cases as with
       |nil=>exact absurd rfl I
       |cons a es=>exact GS T hr L N q1 hk (aJ (w a (.head _))) (wQ λe he=>w e (.tail _ he))
      .cases h
     .rename_i p E;exact OL hE hL O E h
     .cases h
   .rename_i o m ap;split at h
    .rename_i ft U;split at h
     .rename_i M;cases h;exact LF hE hL O U M
     .cases h
    have B:=zBd h;clear h;obtain⟨a,H,h⟩:=B
    cases bX H
    split at h
    .rename_i Q;rw[aw]at Q;obtain⟨fo,g,h⟩:=zBd h;obtain⟨q,l,h⟩:=zBd h
     have A: ∀m,attributeBase o m X.env (eval o X.env)=eval o X.env:=by
      intro m;have H:=Q.1
      cases o<;>first|rfl|(cases H;done)
     split at h
     .rename_i hm;cases h;subst hm;exact wG O.un (hL X C _ fo O g) (hE X C _ q O l).1 (aJ (aL l).1) (A _) Q.2
     .split at h
      .rename_i hm;cases h;subst hm;exact wI O.un (hL X C _ fo O g) (hE X C _ q O l).1 (aJ (aL l).1) (A _) Q.2
      .cases h
    .cases h
   .cases h
  .cases h
 .cases h
def OP(hE:nO ad n):HE ad (n+1):=by intro X C e f O h;unfold yA at h;split at h;rename_i x p;rcases b:loc C x with _|i;rw[b]at h;exact(hE X C _ f O h).1.ml;rw[b]at h;cases h;have c:=O.vis x i b;exact Aj c;exact(hE X C _ f O h).1.ml
def HI(hE: ∀m,m<n->nO ad m){X}{C}(O:CtxOk X ad C)(hn: ∀x p,e≠ .Name x p)(h:yA n C e=pi f):ME X ad e f:=by
 rcases n with _|n;cases h;have:bN n C e=pi f:=by
  rw[<-h];cases e<;>first|rfl|exact absurd rfl (hn _ _)
 exact(hE n (j3 _) X C e f O this).1
def OR(hE: ∀m,m<n+1->nO ad m)(hL:HE ad n):LD ad (n+1):=by
 intro X C tg e y f O r h;have c:=hE n (j3 _);unfold Cs at h;have i: ∀{x:Str} {j:L1 Expr} {s q:Pos},zO (bN n C) C y x j=pi f->MI X ad tg (.Call (.Name x s) j [] q) f/\(y=qu->MIG X ad tg (.Call (.Name x s) j [] q) f):=by
  intro x j s q h;unfold zO at h;split at h;rename_i a u;obtain⟨t,g,rfl⟩:=zMd h;obtain⟨l,I,w,o⟩:=O.gl u;subst w;have d:=(c X C _ t O g).1;exact⟨Db l o d (aJ (aL g).1),λ_=>AA l o d (aJ (aL g).1)⟩;rename_i a b u;split at h;rename_i v;obtain⟨t,g,h⟩:=zBd h;obtain⟨fb,A,rfl⟩:=zMd h;obtain⟨l,I,w,o⟩:=O.gl u;subst w;obtain⟨K,k,p,rfl⟩:=r v;have G:=(c X C _ t O g).1;have B:=(c X C _ fb O A).1;exact⟨Lq l o G B (aJ (aL g).1) (aJ (aL A).1),λz=>by rw[z]at v;cases v⟩;cases h;cases h
 split at h;rename_i J j E q;split at h;rename_i x p;split at h;exact⟨(i h).1,λz _=>(i h).2 z⟩;exact⟨(i h).1,λz _=>(i h).2 z⟩;exact⟨(i h).1,λz _=>(i h).2 z⟩;have d:=(c X C _ f O h).1;exact⟨Ax d.ml,λ_ _=>oN d⟩;have d:=(c X C _ f O h).1;exact⟨Ax d.ml,λ_ _=>oN d⟩;refine⟨Ax (hL X C _ f O h),λ_ H=>oN (HI (λm L=>hE m (by lia)) O H h)⟩
def bV: ∀n,nO ad n/\HE ad n/\LD ad n:=by
 have d: ∀n, ∀m,m<=n->nO ad m/\HE ad m/\LD ad m:=by
  intro n;induction n with
  |zero=>
   intro m j;have:m=0:=by lia
   subst this;refine⟨?_,?_,?_⟩;intro X C e f O h;unfold bN at h;cases h;intro X C e f O h;unfold yA at h;cases h;intro X C tg e l f O _ h;unfold Cs at h;cases h
  |succ n i=>
   intro m j;by_cases g:m<=n;exact i m g;have:m=n+1:=by lia
   subst this;obtain⟨a,b,c⟩:=i n (aj _);exact⟨OO a b c,OP a,OR (λm j=>(i m (by lia)).1) b⟩
 exact λn=>d n n (aj _)
end
def QY x p:(Expr.Name x p).pos=p:=rfl
noncomputable abbrev NE:L1 Value:=[.type "ValueError",.type "Exception",.type "BaseException",.type "object"]
structure StOk(X:Cx)(ad:Ad)(C:SK.Ctx):Prop where
 cx:CtxOk X ad C
 fn: ∀x,X.fn x=qt
 sc:X.env.scope=C.sc
 lc: ∀x i,loc C x=pi i->Loc X.env.scope x
 exm: ∀c,exmOne X.K (.ref (ad.cls c)) (.ref (ad.cls 0))=pi qt
 exi: ∀c,excIn X.K (ad.cls c) NE "ValueError.__new__"=qt
def Zt(ad:Ad)(E₀:XK)(t:Bool):(St->Nat->Hp->Prop)->Prop:=λE=>t=qu->∀σ c H,E σ c H->E₀ (.ref (ad.cls c)) qr H
section
variable{X:Cx}{ad:Ad}{C:SK.Ctx}{E₀:XK}{t:Bool}{e tg:Expr}{g h:FS}{x:Str}{st:Stmt}
def StOk.nm(O:StOk X ad C)(h:loc C x=pi i):NB X x i:=⟨(O.cx.vis x i h).1,O.lc x i h,.inl (O.fn x)⟩
theorem StOk.nms(O:StOk X ad C): ∀{xs} {is},eL (λx=>loc C x) xs=pi is->NmsOk X xs is
 |[],_,h=>by cases h;exact .nil
 |x::xs,is,h=>by
  unfold eL at h;rcases e:loc C x with _|j;rw[e]at h;cases h;rw[e]at h;obtain⟨r,b,c⟩:=zMd h;subst c;exact .cons (O.nm e) (O.nms b)
def yL: ∃b,swapsWith (.ListComp elt gens sc cpos) (pi (.Name x pos')) line env=pure b:=⟨_,rfl⟩
def LI{C}{e a}(h:CS C e=pi a): ∃y p q,e= .Call (.Name y p) [a] [] q/\glo C y=pi (.py .dict):=by unfold CS at h;split at h;split at h;rename_i hk;cases ko.mp hk;have c:=zBd h;clear h;obtain⟨⟨y,p⟩,d,h⟩:=c;cases aV d;have c:=zBd h;clear h;obtain⟨b,g,h⟩:=c;cases bX g;split at h;rename_i i f;cases h;exact⟨_,_,_,rfl,f⟩;cases h;cases h;cases h
def A9(O:StOk X ad C)(h:bN 50 C e=pi f)(hi:loc C x=pi i):PS X (.Assign [.Name x pos'] e pos) (JB (tE X ad f) (kZ i)):=by
 obtain⟨v,E,r⟩:=bV (ad:=ad) 49;obtain⟨t,_,_⟩:=bV (ad:=ad) 50;have nm:=O.nm hi;have p:=(t X C e f O.cx h).1;by_cases q: ∃elt gens sc cpos,e= .ListComp elt gens sc cpos;obtain⟨elt,gens,sc,cpos,rfl⟩:=q;obtain⟨b,o⟩:=yL (x:=x) (pos':=pos') (elt:=elt) (gens:=gens) (sc:=sc) (cpos:=cpos) (line:=pos.line) (env:=X.env);rcases b with _|_;exact pS O.cx.nd nm.1 nm.2.1 p o nm.2.2;have d: ∃tg n c,gens=[⟨tg,n,c,0⟩]:=by
  unfold bN at h;simp only at h;split at h;rename_i tg n c z;split at h;rename_i w;subst w;exact⟨_,_,_,rfl⟩;cases h;cases h
 obtain⟨tg,n,c,rfl⟩:=d;obtain⟨A,k,G,y,B,H,rfl,_,S,l,g,j,s,m,u⟩:=nQ v r O.cx h;exact Hi O.cx.nd nm O.cx.calm S l g j s m u o;refine pS O.cx.nd nm.1 nm.2.1 p ?_ nm.2.2;have I:=aL h;cases e<;>first|rfl|exact absurd ⟨_,_,_,_,rfl⟩ q|(unfold bN at h;cases h;done)
def Ba(P:PS X st (JB (tE X ad f) (kZ i))):MS X ad Z st (fL i f):=by refine PS.imp P ?_;rintro m j H ⟨b,G,l,E,S,e,c⟩;exact eQ S e c λv d h g st r k=>k _ h g ((S.step st).set r)
def HJ(P:PS X st (JB (tE X ad f) (kZ i))):MS X ad Z st (yU i f):=by refine PS.imp P ?_;rintro h e H ⟨b,G,g,E,S,d,c⟩;exact Lg S d c
def LJ(K:nq)(n:Nat)(t:TGs):TG:=λv σ H Q=>∃a xs,v= .ref a/\SqL K H a xs/\xs.length=n/\t xs σ H Q
def HK{t}(hc:X.calm=qt)(h:PGs X es t)(hn:(assignEach es X.env).length=n)(hst:(assignEach es X.env).findIdx? (·.1)=qr):PG X (.Tuple es k pos) (LJ X.K n t):=by
 intro j s g H v u Q I r f;obtain⟨a,z,m,y,w,f⟩:=f;subst m;cases r;obtain⟨d,i,q,A⟩:=I.list y;have c:d.toArray.size=n:=by simp[<-w,i.length]
 rw[assign_Tuple];refine aa (wpAny_standAt ?_);unfold unpack;rw[hn,hst, <-c];refine aa (wpAny_holding (kun_itemsOf (I.ok.hd hc) q.isList λx l=>?_));have p:Inv X j g H {s with heap:=x}:=I.kept (t':=s.toks) λb o e=>l b o (bh (ah e)) e;exact h j _ g H z _ Q p (by simpa using i) f
def OS(h1:PG X tg g1)(h2:PG X tg g2):PG X tg (λv σ H Q=>g1 v σ H Q\/g2 v σ H Q):=by intro b s σ H v u Q I r h;rcases h with h|h;exact h1 b s σ H v u Q I r h;exact h2 b s σ H v u Q I r h
def HL(O:StOk X ad C)(he:ME X ad e f)(hs:swapsWithSole [.Tuple es j tp] e pos.line X.env=pure qu)(hw:swappedStores [.Tuple es j tp] e X.env=pure qr)(ht:bT (.Tuple es j tp)=pi (xs,k))(hn:NmsOk X xs is):MS X ad Z (.Assign [.Tuple es j tp] e pos) (iE is f):=by
 obtain⟨P,hk⟩:=Lk O.cx.calm O.cx.nd ht hn;have M:k≠0:=by
  unfold bT at ht;obtain⟨s,o,g⟩:=zBd ht;by_cases b:2<=s.length;rw[if_pos b]at g;cases g;lia;rw[if_neg b]at g;cases g
 have L:(k==0)=qu:=by simpa using M
 have z:PG X (.Tuple es j tp) (LJ X.K is.length (gIs is)):=by
  unfold bT at ht;obtain⟨s,o,g⟩:=zBd ht;by_cases b:2<=s.length;rw[if_pos b]at g;cases g;obtain⟨q1,B⟩:=jY (X:=X) o;exact HK O.cx.calm (AC O.cx.nd o hn) (by rw[q1,hn.len]) B;rw[if_neg b]at g;cases g
 refine PS.imp (EA he (OS P z) hs hw rfl) ?_;rintro t Q H ⟨i,G,l,E,S,y,u⟩;unfold iE at u;refine eQ S y u λv d x w n r q=>?_;cases d<;>try exact ba q
 case lst c=>
  have h:OKo X ad i (if c.length=is.length then .nx (setN is c l)else .rt .bad) t E:=q;by_cases b:c.length=is.length;rw[if_pos b]at h;unfold Rep at r;obtain⟨a,A,rfl,N,m⟩:=r;exact .inr ⟨a,A,rfl,n.gh.seq N,by rw[m.length,b],AB (by rw[m.length,b]) (h _ x w ((S.step n).setN m))⟩;rw[if_neg b]at h;exact h.elim
 rename_i c;refine .inl ?_;have h:OKo X ad i (if c.length=is.length then .nx (setN is c l)else .rt .bad) t E:=q;by_cases b:c.length=is.length;rw[if_pos b]at h;refine E6 (ρ1:=setN is c l) hk ?_ (S.step n) r λp I=>h p x w I;rw[L];have J:m7 is qu (.tup c) l=if c.length=is.length then pi (setN is c l)else qr:=by
  rcases is with _|⟨_,_⟩;rfl;rfl
 rw[J,if_pos b];rw[if_neg b]at h;exact h.elim
def uE{x y}{kt k2}(hb:env.scope.kind= .function)(hx:env.scope.names.lookup x=pi .local)(hy:env.scope.names.lookup y=pi .local)(hne:x≠y)(hl:px.line=py.line)(sa:eX a)(sb:eX b)(h1:[a,b].all (foldedForSure 8)=qu)(h2:[a,b].all (constantsAlone 8)=qu):swappedStores [.Tuple [.Name x px,.Name y py] kt pt] (.Tuple [a,b] k2 pt2) env=pure (pi [x,y]):=by
 have c:env.blockKind= .function:=by unfold qh.blockKind;rw[hb];rfl
 have i:env.kindOf x=pi .local:=hx;have g:env.kindOf y=pi .local:=hy;have f:[x,y].eraseDups.length=2:=by
  have:(y==x)=qu:=by simpa using λz=>hne z.symm
  simp[List.eraseDups_cons,this]
 have d: ¬(foldedForSure 8 a=qt/\foldedForSure 8 b=qt):=λ⟨p,q⟩=>by simp[p,q]at h1
 have e: ¬(constantsAlone 8 a=qt/\constantsAlone 8 b=qt):=λ⟨p,q⟩=>by simp[p,q]at h2
 unfold swappedStores;simp[QY,i,g, <-hl,c,f,d,e,List.filterMap];intro h;rcases h with h|h;cases a<;>first|exact sa.elim|cases h
 cases b<;>first|exact sb.elim|cases h
def DC:iE [i,j] (fD [fa,fb]) ρ=fC ρ (fa ρ) λx=>fC ρ (fb ρ) λy=>.nx ((ρ.set i (.sh x)).set j (.sh y)):=by unfold iE fD lJ args args args;cases fa ρ<;>simp[fC,RA.then]<;>cases fb ρ<;>simp[RA.cons,setN]
def uF{i j kt k2}{x y}(O:StOk X ad C)(ha:PE X a ta)(hb:PE X b tb)(sa:eX a)(sb:eX b)(hi:loc C x=pi i)(hj:loc C y=pi j)(ok:qI {C with bs:=bs} x y px py a b=qt):
  PS X (.Assign [.Tuple [.Name x px,.Name y py] kt pt] (.Tuple [a,b] k2 pt2) pos) λD σ H=>ta σ H λv H1=>tb σ H1 λw H2=>∃v' w',[v,w]=[v',w']/\D.nx ((σ.set i (pi v')).set j (pi w')) H2:=by
 unfold qI at ok;simp only[aw,js]at ok;obtain⟨⟨⟨⟨⟨⟨⟨t,p⟩,n⟩,o⟩,l⟩,q⟩,_⟩,_⟩:=ok
 have g:X.env.scope.names.lookup x=pi .local:=by rw[O.sc];exact cQ t
 have f:X.env.scope.names.lookup y=pi .local:=by rw[O.sc];exact cQ p
 have c:x≠y:=by simpa using n
 have nx:=(O.cx.vis x i hi).1;have e:=(O.cx.vis y j hj).1;have d:i≠j:=λz=>by subst z;rw[nx]at e;exact c (ku e)
 intro r s σ H m I h;exact Ke (ta:=sV ta (sV tb JC)) O.cx.calm O.cx.nd nx e d g f (cG ha (cG hb dR (aJ sb)) (aJ sa)) (uE I.ok.kind g f c (by simpa using o) sa sb l q) rfl r s σ H m I h
def LL{i j kt k2}(O:StOk X ad C)(ha:ME X ad a fa)(hb:ME X ad b fb)(sa:eX a)(sb:eX b)(hi:loc C x=pi i)(hj:loc C y=pi j)(ok:qI C x y px py a b=qt):
  MS X ad Z (.Assign [.Tuple [.Name x px,.Name y py] kt pt] (.Tuple [a,b] k2 pt2) pos) (iE [i,j] (fD [fa,fb])):=by
 refine PS.imp (uF O ha hb sa sb hi hj ok) ?_;rintro t s H ⟨g,G,n,E,S,e,c⟩;rw[DC]at c;exact eQ S e c λv d p o f r k=>eQ (S.step f) e k λw q l m st2 h k2=>⟨v,w,rfl,k2 _ l m ((((S.step f).step st2).set (r.mono st2.sg)).set h)⟩
def NF(O:StOk X ad C):StOk (tX X ce D' hd) ad C:=by refine⟨⟨O.cx.N,O.cx.nd,O.cx.vis,O.cx.gk,λx g e=>?_,O.cx.cap,O.cx.calm,O.cx.un,O.cx.hd,O.cx.exc,O.cx.kin,O.cx.kve,λj n F e=>let ⟨r,T,h⟩:=O.cx.fnv j n F e;⟨r,⟨T.kp,T.ok⟩,h⟩⟩,O.fn,O.sc,O.lc,O.exm,O.exi⟩;obtain⟨i,b⟩:=O.cx.gt x g e;refine⟨i,?_⟩;rcases g with ⟨k,n,F⟩|c|_|d|p|kvs|⟨A,q⟩|⟨A,M⟩|⟨A,n,M⟩;obtain⟨r,f,T,h,l⟩:=b;exact⟨r,f,⟨T.mg,T.kp,T.ok⟩,h,l⟩;exact b;exact b;exact b;exact b;exact b;exact⟨b.1,b.2.1,λm n M o=>let z:=b.2.2 m n M o;⟨z.no,z.ok⟩⟩;exact b;exact b
def uG{e a b}{x y}(h:KH es e=pi ⟨x,px,y,py,a,b⟩): ∃k p,es=[.Name x px,.Name y py]/\e= .Tuple [a,b] k p:=by unfold KH at h;obtain⟨⟨u,v⟩,i,h⟩:=zBd h;obtain⟨⟨n,j⟩,c,h⟩:=zBd h;obtain⟨⟨q,f⟩,g,h⟩:=zBd h;obtain⟨⟨r,k,p⟩,l,h⟩:=zBd h;obtain⟨⟨o,s⟩,d,m⟩:=zMd h;cases m;rw[jE i,aV c,aV g,uC l,jE d];exact⟨k,p,rfl,rfl⟩
def wT{e}(h:Go e=qt): ∃s k p,e= .Constant (.str s) k p:=by
 cases e<;>try (cases h;done)
 rename_i c k p;cases c<;>try (cases h;done)
 exact⟨_,k,p,rfl⟩
def OT(ad:Ad)(E₀:XK)(n:Nat):Prop:= ∀(X:Cx) (C:SK.Ctx) (t:Bool) (s:Stmt) (g:FS),StOk X ad C->(t=qu->DefX X E₀/\PassesOwn (model X.prog X.w) X.A X.env X.xe)->Ct n t C s=pi g->MS X ad (Zt ad E₀ t) s g
def DD(ad:Ad)(E₀:XK)(n:Nat):Prop:= ∀(X:Cx) (C:SK.Ctx) (t:Bool) (s:L1 Stmt) (g:FS),StOk X ad C->(t=qu->DefX X E₀/\PassesOwn (model X.prog X.w) X.A X.env X.xe)->kH n t C s=pi g->MSs X ad (Zt ad E₀ t) s g
theorem Zt.imp(h:MS X ad Z st g)(k: ∀E,Z' E->Z E):MS X ad Z' st g:=PS.imp h λj i H c=>by obtain⟨b,G,e,E,S,d,f⟩:=c;exact⟨b,G,e,E,S,⟨d.1,k E d.2⟩,f⟩
theorem Zts.imp(h:MSs X ad Z sts g)(k: ∀E,Z' E->Z E):MSs X ad Z' sts g:=PSs.imp h λj i H c=>by obtain⟨b,G,e,E,S,d,f⟩:=c;exact⟨b,G,e,E,S,⟨d.1,k E d.2⟩,f⟩
def DE(h:KI b=pi s):b=[s]:=by unfold KI at h;split at h;cases h;rfl;cases h
def OU(hS:DD ad E₀ n):OT ad E₀ (n+1):=by
 intro X C t s g O Q h;obtain⟨A,kL,kI⟩:=bV (ad:=ad) 50;unfold Ct at h;split at h
 .cases h;exact Ha
 .
  split at h
  .cases h
  .split at h
   .rename_i x p B
    cases aV B
    split at h
    .rename_i i T;obtain⟨K,J,H,L⟩:=O.cx.vis x i T
     cases h;exact v8 (zS ⟨K,J,H,L⟩)
    .obtain⟨f,d,rfl⟩:=zMd h;exact v8 (A X C _ f O.cx d).1
   .obtain⟨f,d,rfl⟩:=zMd h;exact gM (v8 (A X C _ f O.cx d).1)
 .
  rename_i ts e N;have r:=zBd h;clear h;obtain⟨tg,U,h⟩:=r
  cases bX U
  split at h
  .
   have r:=zBd h;clear h;obtain⟨i,d,h⟩:=r;split at h
   .
    rename_i a ha;obtain⟨f,l,rfl⟩:=zMd h
    have ak:CS C e=pi a:=by
     split at ha
     .exact ha
     .cases ha
    obtain⟨y,p,q,rfl,T⟩:=LI ak;obtain⟨g1,g2,g3,g4⟩:=O.cx.gl T
    cases (show y="dict" from g3)
    have nm:=O.nm d;exact gM (Du O.cx.nd nm.1 nm.2.1 g1 g4 (A X C _ f O.cx l).1 (aJ (aL l).1) nm.2.2)
   .obtain⟨f,l,rfl⟩:=zMd h;refine gM ?_;split
    .exact HJ (A9 O l d)
    .exact Ba (A9 O l d)
  .split at h
   .
    rename_i x px y py a b hp;obtain⟨k2,al,rfl,rfl⟩:=uG hp;split at h
    .rename_i ag;obtain⟨i,d,h⟩:=zBd h;obtain⟨j,l,h⟩:=zBd h;obtain⟨fa,w,h⟩:=zBd h;obtain⟨fb,S,rfl⟩:=zMd h;exact gM (LL O (A X C _ fa O.cx w).1 (A X C _ fb O.cx S).1 (aL w).1 (aL S).1 d l ag)
    .cases h
   .
    obtain⟨u,U,h⟩:=zBd h;obtain⟨⟨xs,k⟩,d,h⟩:=zBd h;obtain⟨is,l,h⟩:=zBd h;split at h
    .obtain⟨f,w,rfl⟩:=zMd h
     have hf:zQ e=qt:=by
      split at U
      .assumption
      .cases U
     exact gM (HL O (A X C _ f O.cx w).1 (by cases e<;>first|rfl|(cases hf;done)) (by cases e<;>first|rfl|(cases hf;done)) d (O.nms l))
    .cases h
  .
   rename_i o k tp;have r:=zBd h;clear h;obtain⟨⟨x,p⟩,B,h⟩:=r
   cases aV B
   obtain⟨i,d,h⟩:=zBd h;obtain⟨K,J,H,L⟩:=O.cx.vis x i d;split at h
   .obtain⟨f,l,h⟩:=zBd h;obtain⟨g,w,rfl⟩:=zMd h;refine gM (Lx O.cx.un ⟨K,J,H,L⟩ (A X C _ f O.cx l).1 (A X C _ g O.cx w).1 (λv=>?_) ?_ ?_)
    .have I:=(aL w).2.2
     cases k<;>first|rfl|exact absurd rfl (I _ _ _ _)
    .cases e<;>rfl
    .cases e<;>rfl
   .cases h
  .cases h
 .
  split at h
  .rename_i f' as ab cp;split at h
   .rename_i G
    cases dB G
    split at h
    .
     rename_i o m ap;have r:=zBd h;clear h;obtain⟨⟨x,p⟩,B,h⟩:=r
     cases aV B
     have r:=zBd h;clear h;obtain⟨e,ho,h⟩:=r
     cases bX ho
     obtain⟨i,d,h⟩:=zBd h;obtain⟨K,J,H,L⟩:=O.cx.vis x i d;split at h
     .rename_i W;rw[aw]at W;obtain⟨f,l,h⟩:=zBd h;have me:=(A X C _ f O.cx l).1;have I:=aJ (es:=[]) (env:=X.env) (aL l).1;split at h
      .rename_i Z;cases h;subst Z;exact gM (Lh ⟨K,J,H,L⟩ me I W.2)
      .split at h
       .rename_i Z;cases h;subst Z;exact gM (Lj ⟨K,J,H,L⟩ me I W.2)
       .cases h
     .cases h
    .obtain⟨f,d,rfl⟩:=zMd h;exact gM (Hc (A X C _ f O.cx d).1 rfl)
    .cases h
   .cases h
  .cases h
 .obtain⟨f,d,h⟩:=zBd h;obtain⟨ga,l,h⟩:=zBd h;obtain⟨gb,w,rfl⟩:=zMd h;exact gM (Hd (A X C _ f O.cx d).2.1 (hS X C t _ ga O Q l) (hS X C t _ gb O Q w))
 .
  rename_i tg it b Y N
  cases t with
  |true=>cases h
  |false=>
   cases Y with
   |cons _ _=>cases h
   |nil=>
    simp only[Bool.false_or,List.isEmpty_nil,Bool.not_true]at h;split at h
    .cases h
    rename_i B;obtain⟨⟨xs,k⟩,d,h⟩:=zBd h;obtain⟨f,l,h⟩:=zBd h;obtain⟨is,w,h⟩:=zBd h;split at h
    .obtain⟨gb,S,rfl⟩:=zMd h;have hn: ∀x p,it≠ .Name x p:=λx p z=>by subst z;exact B rfl
     have I: ∀a b c,it≠ .Set a b c:=λa b c z=>by subst z;exact gO l
     exact gM (E7 (Q rfl).2 O.cx.calm O.cx.nd ((kI X C tg _ qu f O.cx (λz=>nomatch z) l).2 rfl hn) d (O.nms w) (hS X C qu _ gb O Q S) (Aw I))
    .cases h
 .
  rename_i x c N
  cases t with
  |true=>cases h
  |false=>
   cases c with
   |some _=>cases h
   |none=>
    simp only[Bool.false_or,Option.isSome_none,az,if_false]at h;have r:=zBd h;clear h;obtain⟨e,rfl,h⟩:=r;split at h
    .rename_i f' as ab cp;split at h
     .rename_i G
      cases dB G
      have r:=zBd h;clear h;obtain⟨⟨x,p⟩,B,h⟩:=r
      cases aV B
      have r:=zBd h;clear h;obtain⟨a,ho,h⟩:=r
      cases bX ho
      split at h
      .rename_i M;obtain⟨sx,k1,k2,rfl⟩:=wT M;split at h
       .rename_i c T e2;cases h;obtain⟨g1,g2,g3,g4⟩:=O.cx.gl e2;exact Zt.imp (Df (Q rfl).1 O.cx.calm g1 g3 g2 (O.exi c)) λE z=>z rfl
       .cases h
      .cases h
     .cases h
    .cases h
 .cases h
def LM(hS:OT ad E₀ n)(hSs:DD ad E₀ n):DD ad E₀ (n+1):=by
 intro X C t s g O c h;have b: ∀a:Stmt,MS X ad (Zt ad E₀ t) a ((Ct n t C a).getD Nx):=λa=>by
  rcases e:Ct n t C a with _|f;exact Ll;exact hS X C t a f O c e
 unfold kH at h;split at h;cases h;exact oK;cases h;exact Az (b _);obtain⟨r,d,rfl⟩:=zMd h;exact oM (b _) (hSs X C t _ r O c d)
def jG: ∀n,OT ad E₀ n/\DD ad E₀ n:=by
 intro n;induction n with
 |zero=>
  refine⟨?_,?_⟩;intro X C t s g O c h;unfold Ct at h;cases h;intro X C t s g O c h;unfold kH at h;cases h
 |succ n b=>exact⟨OU b.2,LM b.1 b.2⟩
end
def Qk(P:Program)(w:World)(K:Frag)(mg:Str->L7 Value)(base:Heap)(k:Nat)(x:Str)(sp:Sp):Prop:= ∃f r fd ps,r<=k/\mg x=pi (.ref f)/\keepIn K (.ref f)=qt/\FnOk P w K mg base (CXe P w) r f fd ps sp/\eE K fd ps []
def GlT(P:Program)(w:World)(K:Frag)(mg:Str->L7 Value)(base:Heap)(ad:Ad)(k:Nat)(x:Str):SK.Gl->Prop
 |.fn j n F=>∃r f,r<=k/\mg x=pi (.ref f)/\keepIn K (.ref f)=qt/\(∃fd ps,FnOk P w K mg base (CXe P w) r f fd ps (yC K ad n F)/\eE K fd ps [])/\f=ad.fnA j
 |.exc c=>mg x=pi (.ref (ad.cls c))/\c<ad.nb
 |.verr=>x="ValueError"/\mg x=qr
 |.val d=>∃u v,mg x=pi u/\bH v u/\∀G,Rep K ad G d v
 |.py p=>x=d6 p/\mg x=qr
 |.tbl kvs=>∃A,mg x=pi (.ref A)/\AO P w K ad A kvs
 |.cls A ms=>mg x=pi (.ref A)/\RkC K A/\∀m n M,ms.lookup m=pi (n,M)->(m≠"held"/\m≠"done"/\m≠"undone")/\∃f r fd ps,r<=k/\Meth K A m f/\FnOk P w K mg base (CXe P w) r f fd ps (spM K ad A n M)/\eE K fd ps []
 |.rfn A M=>Qk P w K mg base k x (spM K ad A 0 M)
 |.rmk A n M=>Qk P w K mg base k x (spR K ad A n M)
def dG(P:Program)(w:World)(K:Frag)(mg:Str->L7 Value)(base:Heap)(ad:Ad)(k:Nat)(tab:L1 (Str×SK.Gl)):Prop:= ∀x g,tab.lookup x=pi g->(x==gV)=qu/\GlT P w K mg base ad k x g
def eY(P:Program)(w:World)(K:Frag)(mg:Str->L7 Value)(base:Heap)(ad:Ad)(k:Nat)(fns:L1 (Nat×Fn)):Prop:= ∀j n F,fns[j]? =pi (n,F)->∃r,r<=k/\keepIn K (.ref (ad.fnA j))=qt/\∃fd ps,FnOk P w K mg base (CXe P w) r (ad.fnA j) fd ps (yC K ad n F)/\eE K fd ps []
structure ExcK(K:Frag)(ad:Ad):Prop where
 exc: ∀c,ExcCls K (ad.cls c)
 kin: ∀c e,c<ad.nb->kitOne K (.ref (ad.cls e)) (.ref (ad.cls c))=pi (hit c e)
 kve: ∀e,kitOne K (.ref (ad.cls e)) (.type "ValueError")=pi qt
 exm: ∀c,exmOne K (.ref (ad.cls c)) (.ref (ad.cls 0))=pi qt
 exi: ∀c,excIn K (ad.cls c) NE "ValueError.__new__"=qt
section
variable{P:Program}{w:World}{K:Frag}{mg:Str->L7 Value}{base:Heap}{ad:Ad}{k:Nat}{tab:L1 (Str×SK.Gl)}
def GlT.mono(h:GlT P w K mg base ad k x g)(hk:k<=j):GlT P w K mg base ad j x g:=by rcases g with ⟨i,n,F⟩|c|_|d|p|kvs|⟨A,t⟩|⟨A,M⟩|⟨A,n,M⟩;obtain⟨r,f,a,b⟩:=h;exact⟨r,f,ny a hk,b⟩;exact h;exact h;exact h;exact h;exact h;exact⟨h.1,h.2.1,λm n M s=>let ⟨no,f,r,e,l,q,o⟩:=h.2.2 m n M s;⟨no,f,r,e,l,ny q hk,o⟩⟩;obtain⟨f,r,e,l,q,o⟩:=h;exact⟨f,r,e,l,ny q hk,o⟩;obtain⟨f,r,e,l,q,o⟩:=h;exact⟨f,r,e,l,ny q hk,o⟩
theorem dG.mono(h:dG P w K mg base ad k tab)(hk:k<=j):dG P w K mg base ad j tab:=λx g e=>⟨(h x g e).1,(h x g e).2.mono hk⟩
def dG.nil:dG P w K mg base ad k []:=λx g e=>by cases e
def dG.cons{x}{g}(h:dG P w K mg base ad k tab)(hd:(x==gV)=qu)(hg:GlT P w K mg base ad k x g):dG P w K mg base ad k ((x,g)::tab):=by
 intro y b e;rw[kg]at e;rcases q:y==x with _|_;rw[q]at e;exact h y b e;rw[q]at e;cases e;have:y=x:=by simpa using q
 subst this;exact⟨hd,hg⟩
def eY.nil:eY P w K mg base ad k []:=λj n F e=>by simp at e
def eY.snoc{F}(h:eY P w K mg base ad k fns)(hk:k<=k')(hl:fns.length=j)(hf:f=ad.fnA j)(hr:r<=k')(kp:keepIn K (.ref f)=qt)(ok:FnOk P w K mg base (CXe P w) r f fd ps (yC K ad n F))(hb:eE K fd ps []):
  eY P w K mg base ad k' (fns++[(n,F)]):=by
 intro i m G e;subst hf;by_cases hi:i<fns.length;rw[bx hi]at e;obtain⟨c,g,d⟩:=h i m G e;exact⟨c,ny g hk,d⟩;rw[bn (by lia)]at e;rcases b:i-fns.length with _|q;rw[b]at e;cases e;have:i=j:=by lia
 subst this;exact⟨r,hr,kp,fd,ps,ok,hb⟩;rw[b]at e;simp at e
def cI(h:bO N Ps sc=qt):FnScope N Ps sc/\∀x∈N,(x==gV)=qu/\(x==hZ)=qu:=by unfold bO at h;simp only[aw]at h;obtain⟨⟨⟨⟨⟨⟨⟨f,m⟩,e⟩,j⟩,c⟩,l⟩,d⟩,g⟩:=h;refine⟨⟨by simpa using f,by simpa using m,by simpa using e,of_decide_eq_true j,of_decide_eq_true c,λx b=>?_,λy i z=>?_⟩,λx b=>?_⟩;have:=zAd l x b;rcases(Bool.or_eq_true _ _).mp this with z|z;exact .inl (cQ z);exact .inr (cQ z);have:=zAd d y i;rw[z]at this;simp at this;have:=zAd g x b;simpa using this
def hU(hG:Same G X.H₀)(r:aI X.K ad G ds vs):SS X ad G G X.H₀ (ds.map Slot.sh++ao n .no) (vs.map pi++ao n qr):=by
 have x:=r.length;have c: ∀(i:Nat) (g:Slot),(ds.map Slot.sh++ao n .no)[i]? =pi g->(∃d v,g= .sh d/\(vs.map pi++ao n qr)[i]? =pi (pi v)/\Rep X.K ad G d v)\/(g= .no/\∃o,(vs.map pi++ao n qr)[i]? =pi o):=λi g e=>by
  by_cases hi:i<ds.length;rw[bx (by simpa using hi),jj]at e;rcases b:ds[i]? with _|d;rw[b]at e;cases e;rw[b]at e;cases e;obtain⟨v,s,q⟩:=r.get b;refine .inl ⟨d,v,rfl,?_,q⟩;rw[bx (by rw[aq];lia),jj,s];rfl;rw[bn (by simpa using hi),eo]at e;split at e;cases e;refine .inr ⟨rfl,qr,?_⟩;rename_i m;rw[bn (by rw[aq];lia),eo,if_pos];rw[aq]at m ⊢;lia;cases e
 refine⟨Step.refl hG,⟨by simp[x],λi g e=>?_⟩,λi A a e w h=>?_,λi j A L a b s t H B I=>?_,?_⟩;rcases c i g e with ⟨d,v,rfl,b,q⟩|⟨rfl,o,b⟩;exact⟨pi v,b,v,rfl,q⟩;exact⟨o,b,trivial⟩;rcases c i _ e with ⟨d,v,z,_⟩|⟨z,_⟩<;>(subst z;exact(bf w).elim);rcases c i _ b with ⟨d,v,z,_⟩|⟨z,_⟩<;>(subst z;exact(bf t).elim);have no: ∀{i:Nat} {l:L1 Addr}, ¬g9 X.H₀ (ds.map Slot.sh++ao n .no) (vs.map pi++ao n qr) i l:=λ{i l} f=>by
  obtain⟨C,r,p,J,d,M,E,u,_⟩:=f;rcases c i _ u with ⟨d,v,z,_⟩|⟨z,_⟩<;>cases z
 exact⟨λi l f=>(no f).elim,λi l f=>(no f).elim,λi j l y a f=>(no f).elim⟩
def Bb(TB:dG X.prog X.w X.K X.mg X.base ad k tab)(hr:Room k X.A)x g(e:tab.lookup x=pi g):(x==gV)=qu/\NC X ad x g:=by obtain⟨a,b⟩:=TB x g e;refine⟨a,?_⟩;rcases g with ⟨j,m,B⟩|c|_|d|p|kvs|⟨A,z⟩|⟨A,M⟩|⟨A,n,M⟩;obtain⟨u,y,o,l,h,i,t⟩:=b;exact⟨u,y,⟨l,h,i⟩,hr.mono o,t⟩;exact b;exact b;exact b;exact b;exact b;exact⟨b.1,b.2.1,λm n M v=>let ⟨no,f,r,q,s,o,l,h,i⟩:=b.2.2 m n M v;⟨no,f,r,q,s,l,h,hr.mono o,i⟩⟩;obtain⟨f,r,q,s,o,l,h,i,t⟩:=b;exact⟨f,r,q,s,l,h,i,hr.mono o,t⟩;obtain⟨f,r,q,s,o,l,h,i,t⟩:=b;exact⟨f,r,q,s,l,h,i,hr.mono o,t⟩
def j0(B:ExcK K ad)(TB:dG P w K mg base ad k tab)(FB:eY P w K mg base ad k fns)(hs:bO (aA sc) ps sc=qt)(hr:Room k (A.deeper (envOfC qual sc s.z f cdv))):
  StOk (jN (CXe P w) P w K mg base (aA sc) qual sc f cdv A outer s H E) ad ⟨tab,fns,sc,aA sc,bs⟩:=by
 obtain⟨S,nm⟩:=cI hs;let C:SK.Ctx:=⟨tab,fns,sc,aA sc,bs⟩;have g: ∀x i,loc C x=pi i->(aA sc)[i]? =pi x/\Loc sc x/\x∈aA sc:=λx i e=>by
  obtain⟨h,d⟩:=tZ e;refine⟨gL h,?_,tY h⟩;rcases d with d|d|d;exact .inl d;exact .inr d;exact absurd rfl (S.nofree _ (nI d))
 refine⟨⟨rfl,S.nd,λx i e=>?_,λx e=>e,Bb TB hr,λx i e=>?_,rfl,?_,hr.hd,B.exc,B.kin,B.kve,λj m n e=>?_⟩,λ_=>rfl,rfl,λx i e=>(g x i e).2.1,B.exm,B.exi⟩;obtain⟨a,b,c⟩:=g x i e;exact⟨a,b.elim .inl λz=>.inr (.inl z),(nm x c).1,(nm x c).2⟩;obtain⟨h,d⟩:=eU e;rcases d with d|d;exact .inl d;exact absurd rfl (S.nofree _ (nI d));exact jd (ip (by decide:62<=64) _) hr.units;obtain⟨o,q,p,l⟩:=FB j m n e;exact⟨o,⟨p,l⟩,hr.mono q⟩
def LN{st}{F}(B:ExcK K ad)(TB:dG P w K mg base ad k tab)(FB:eY P w K mg base ad k fns)(Fu:Fun K x qual st f fd)(hps:cT (defArgs st)=pi ps)(hd:Gv tab fns st=pi (n,F)):FnOk P w K mg base (CXe P w) (k+1) f fd ps (yC K ad n F):=by
 obtain⟨oc,od,kV,ab,pm,an,q,ct,ag,rfl,lk,N⟩:=Fu.ex;cases st with
 |FunctionDef nm U b dl re tp j ts bi ak=>
  have u:((cT U).bind λW=>if bO (aA j) W j then(kH 100 qu ⟨tab,fns,j,aA j,zP 50 b⟩ b).map λg=>(W.length,SK.fnOf (aA j).length g)else qr)=pi (n,F):=hd;have t:cT U=pi ps:=hps;rw[t]at u;have m:(if bO (aA j) ps j then(kH 100 qu ⟨tab,fns,j,aA j,zP 50 b⟩ b).map λg=>(ps.length,SK.fnOf (aA j).length g)else qr)=pi (n,F):=u;by_cases y:bO (aA j) ps j=qt;rw[if_pos y]at m;obtain⟨g,hg,e⟩:=zMd m;cases e;obtain⟨S,nm⟩:=cI y;refine CH lk N S (λvs H Q E ⟨G,o,_,r,Y,_⟩=>by rw[r.length,Y]) λA l s H vs Q E hr M=>?_;obtain⟨G,o,hG,r,Y,hq⟩:=M;let C:SK.Ctx:=⟨tab,fns,j,aA j,zP 50 b⟩;have O:StOk (jN (CXe P w) P w K mg base (aA j) qual j f q A l s H E) ad C:=j0 B TB FB y hr;have T:DefX (jN (CXe P w) P w K mg base (aA j) qual j f q A l s H E) E:=⟨rfl,rfl,rfl,λe s' h=>h⟩;refine⟨_,(jG (ad:=ad) (E₀:=E) 100).2 _ C qu b g O (λ_=>⟨T,jv (Q₁:=λe L=>CXe P w l H s E e L)⟩) hg,?_⟩;refine⟨G,G,o.map Slot.sh++ao ((aA j).length-o.length) .no,λv c p=>E (.ref (ad.cls c)) qr p,?_,⟨λv=>lW T,λ_ v c H h=>h⟩,?_⟩;have:=hU (X:=jN (CXe P w) P w K mg base (aA j) qual j f q A l s H E) (ad:=ad) (n:=(aA j).length-o.length) hG r;unfold L2.start;rw[r.length];exact this;have i:RK K ad G H (match g (o.map Slot.sh++ao ((aA j).length-o.length) .no)with
   |.rt (.ok d)=>.ok d
   |.rt (.ow Z)=>.ow Z
   |.rt _=>.bad
   |.nx _=>.ok .non
   |.ex c _=>.ex c
   |_=>.bad) Q (λc p=>E (.ref (ad.cls c)) qr p):=hq
  cases e:g (o.map Slot.sh++ao ((aA j).length-o.length) .no)with
  |nx z=>rw[e]at i;exact λv I p J=>i .non I p J.st (by unfold Rep;rfl)
  |bk z=>rw[e]at i;exact i.elim
  |ct z=>rw[e]at i;exact i.elim
  |ex c z=>rw[e]at i;exact λv I p J=>i I p J.st
  |rt r'=>
   rw[e]at i;rcases r' with d|Z|c|_;exact i;exact i;exact i.elim;exact i.elim
  rw[if_neg y]at m;cases m
 |_=>cases hd
noncomputable def wU(K:Frag)(cs:L1 Addr)(C0:Addr):Bool:=
 decide (cs.length<=100)&&cs.head?==pi C0&&cs.all λC=>(clsIn K C).isSome&&mroIn K C (.type "object")==pi qt&&mroIn K C (.type "BaseException")==pi qt&&findIn K (.ref C) "__class__"==pi (pi (.builtin "object.__class__"))&&
  findIn K (.ref C) "__getattribute__"==pi (pi (.builtin "BaseException.__getattribute__"))&&findIn K (.ref C) "__getattr__"==pi qr&&kitOne K (.ref C) (.type "ValueError")==pi qt&&exmOne K (.ref C) (.ref C0)==pi qt&&
  excIn K C NE "ValueError.__new__"
def wV(K:Frag)(cs:L1 Addr):Bool:=cs.zipIdx.all λp=>cs.zipIdx.all λq=>kitOne K (.ref p.1) (.ref q.1)==pi (hit q.2 p.2)
noncomputable def Fh(cs:L1 Addr)(C0:Addr)(fs:L1 Addr):Ad:=⟨λc=>cs.getD c C0,λk=>if k<1000 then fs.getD k 0 else k-1000,cs.length⟩
def HM(h:wU K cs C0=qt)(h2:wV K cs=qt):ExcK K (Fh cs C0 fs):=by
 unfold wU at h;rw[aw,aw]at h;obtain⟨⟨n,j⟩,A⟩:=h;have n:cs.length<=100:=of_decide_eq_true n;have j:cs.head?=pi C0:=by simpa using j
 have g:C0∈cs:=List.mem_of_mem_head? (by rw[j];rfl);have get: ∀c,(Fh cs C0 fs).cls c∈cs:=λc=>by
  show cs.getD c C0∈cs;rw[cc];rcases e:cs[c]? with _|a;exact g;exact List.mem_of_getElem? e
 have o:cs[0]? =pi C0:=by rw[<-List.head?_eq_getElem?];exact j
 have B:(Fh cs C0 fs).cls 0=C0:=by
  show cs.getD 0 C0=C0;rw[cc,o];rfl
 have all: ∀C∈cs,ExcCls K C/\kitOne K (.ref C) (.type "ValueError")=pi qt/\exmOne K (.ref C) (.ref C0)=pi qt/\excIn K C NE "ValueError.__new__"=qt:=λC z=>by
  have:=zAd A C z;simp only[aw,beq_iff_eq]at this;obtain⟨⟨⟨⟨⟨⟨⟨⟨v,h2⟩,p⟩,x⟩,t⟩,G⟩,y⟩,w⟩,q⟩:=this;exact⟨⟨v,h2,p,x,t,G⟩,y,w,q⟩
 have d: ∀(c e:Nat) (a b:Addr),cs[e]? =pi a->cs[c]? =pi b->kitOne K (.ref a) (.ref b)=pi (hit c e):=λc e a b f i=>by
  unfold wV at h2;have I:(a,e)∈cs.zipIdx:=List.mem_zipIdx_iff_getElem?.mpr f;have H:(b,c)∈cs.zipIdx:=List.mem_zipIdx_iff_getElem?.mpr i;have:=zAd (zAd h2 _ I) _ H;simpa using this
 refine⟨λc=>(all _ (get c)).1,λc e u=>?_,λe=>(all _ (get e)).2.1,λc=>?_,λc=>(all _ (get c)).2.2.2⟩;have m:c<cs.length:=u;obtain⟨b,i⟩: ∃b,cs[c]? =pi b:=⟨_,bd m⟩;have r:(Fh cs C0 fs).cls c=b:=by
  show cs.getD c C0=b;rw[cc,i];rfl
 rw[r];rcases f:cs[e]? with _|a;have l:(Fh cs C0 fs).cls e=C0:=by
  show cs.getD e C0=C0;rw[cc,f];rfl
 have s:cs.length<=e:=List.getElem?_eq_none_iff.mp f;rw[l,d c 0 C0 b o i];congr 1;unfold hit;have E:(c==e)=qu:=by simp;lia
 rw[E];cases c<;>simp;have l:(Fh cs C0 fs).cls e=a:=by
  show cs.getD e C0=a;rw[cc,f];rfl
 rw[l];exact d c e a b f i;rw[B];exact(all _ (get c)).2.2.1
end
noncomputable def Bc:L7 SK.Gl->Bool
 |some (.py .isin)=>qt
 |_=>qu
def Bd(h:Bc g=qt):g=pi (.py .isin):=by unfold Bc at h;split at h;rfl;cases h
def qL(C:SK.Ctx):Expr->L7 F
 |.Name x _=>(loc C x).map aC
 |_=>qr
def qE:Nat->SK.Ctx->Expr->L7 F
 |0,_,_=>qr
 |n+1,C,e=>match e with
  |.Name x _=>(loc C x).map aB
  |.Constant c _ _=>(kD c).map rK
  |.BinOp a op b _=>(qE n C a).bind λf=>(qE n C b).map λg=>aR op f g
  |.List es _=>if es.length<=1000 then(eL (qE n C) es).map gZ else qr
  |.Subscript a b _=>(qL C a).bind λf=>(qE n C b).map λg=>rIx f g
  |.Call f as kws cp=>if kws.isEmpty then(match f with
   |.Name x _=>if Bc (glo C x)then(two as).bind λ(a,t)=>(cF t).bind λ(tn,_)=>(qE n C a).bind λfa=>(glo C tn).bind λg=>(isP g).map λP=>rIs P fa else qr
   |.Attribute o m ap=>(one as).bind λa=>if(ap.endLine==cp.line)=qt then(qL C o).bind λf=>(qE n C a).bind λg=>if m="count" then pi (oA vK f g)else if m="index" then pi (oA vL f g)else qr else qr
   |_=>qr)else qr
  |_=>qr
def qT:Nat->SK.Ctx->Expr->L7 F
 |0,_,_=>qr
 |n+1,C,e=>match e with
  |.BoolOp op es _=>(two es).bind λ(a,b)=>if op= .And then qr else(qT n C a).bind λf=>(qT n C b).map λg=>rOr f g
  |.UnaryOp op a _=>(match op with
   |.Not=>(qT n C a).map kG
   |_=>qr)
  |.Compare a ops cs _=>(match ops with
   |[op]=>(one cs).bind λb=>(qE n C a).bind λf=>(qE n C b).map λg=>bR op f g
   |_=>qr)
  |.Call f as kws cp=>qE n C (.Call f as kws cp)
  |_=>qr
mutual
def qS:Nat->SK.Ctx->Stmt->L7 FS
 |0,_,_=>qr
 |n+1,C,st=>match st with
  |.Assign ts e _=>(one ts).bind λt=>(cF t).bind λ(x,_)=>(loc C x).bind λi=>(qE n C e).map λf=>fL i f
  |.If c a b _=>(qT n C c).bind λf=>(qSs n C a).bind λg=>(qSs n C b).map λh=>sIf f g h
  |.Return o _=>o.bind λe=>(qE n C e).map dM
  |_=>qr
def qSs:Nat->SK.Ctx->L1 Stmt->L7 FS
 |0,_,_=>qr
 |n+1,C,l=>match l with
  |[]=>pi bC
  |st::r=>(qS n C st).bind λg=>(qSs n C r).map λh=>aT g h
end
structure QOk(X:Cx)(ad:Ad)(C:SK.Ctx):Prop where
 nd:X.N.Nodup
 vis: ∀x i,loc C x=pi i->X.N[i]? =pi x/\Vis X.env.scope x/\(x==gV)=qu/\(x==hZ)=qu
 nm: ∀x i,loc C x=pi i->NB X x i
 isn: ∀x,glo C x=pi (.py .isin)->x="isinstance"/\L2.Gl X "isinstance"/\X.mg "isinstance"=qr
 cls: ∀t g P,glo C t=pi g->isP g=pi P->∃cv,ClNm X t cv/\OF X ad cv P
 un:X.A.units+62<cLine
 exc: ∀c,ExcCls X.K (ad.cls c)
section
variable{X:Cx}{ad:Ad}{C:SK.Ctx}{A:Around}
def LO(O:StOk X0 ad C)(hu:A.units+62<cLine):QOk (qX X0 A Ex) ad C:=by
 refine⟨O.cx.nd,O.cx.vis,λx i h=>O.nm h,λx h=>?_,λt g P h e=>?_,hu,O.cx.exc⟩;obtain⟨f,p,l,o⟩:=O.cx.gl h;cases (show x="isinstance" from l);exact⟨rfl,f,o⟩;obtain⟨j,c,k⟩:=E9 O.cx h e;refine⟨j,?_,k⟩;cases c with
 |blt T e g m b n d=>exact .blt T e g m b n d
 |own C e g m d=>exact .own C e g m d
def LP(O:QOk X ad C)(h:qL C e=pi f):ML X ad e f/\∃x p,e= .Name x p:=by unfold qL at h;split at h;rename_i x p;obtain⟨i,b,rfl⟩:=zMd h;have c:=O.vis x i b;exact⟨Aj c,x,p,rfl⟩;cases h
def iQ(h:qE n C e=pi f):eX e/\nN e/\(∀a b c d,e≠ .Slice a b c d)/\∀a b c d,e≠ .ListComp a b c d:=by rcases n with _|n;cases h;cases e<;>first|(cases h;done)|exact⟨trivial,trivial,(λ_ _ _ _ z=>nomatch z),(λ_ _ _ _ z=>nomatch z)⟩
theorem Fj{n}(hE: ∀e f,qE n C e=pi f->ME X ad e f): ∀{es} {fs},eL (qE n C) es=pi fs->MA X ad es fs
 |[],fs,h=>by
  cases h;exact Ag
 |e::es,fs,h=>by
  unfold eL at h;rcases b:qE n C e with _|f;rw[b]at h;cases h;rw[b]at h;obtain⟨r,c,d⟩:=zMd h;subst d;exact oJ (hE e f b) (Fj hE c) (aJ (iQ b).1)
theorem yM(O:QOk X ad C): ∀n e f,qE n C e=pi f->ME X ad e f
 |0,_,_,h=>by cases h
 |n+1,e,f,h=>by
  have l:=yM O n;unfold qE at h;split at h;rename_i x p;obtain⟨i,z,rfl⟩:=zMd h;have H:=O.vis x i z;exact zS H;obtain⟨d,b,rfl⟩:=zMd h;exact iZ b;obtain⟨q,b,h⟩:=zBd h;obtain⟨fb,c,rfl⟩:=zMd h;exact EL (l _ q b) (l _ fb c);split at h;rename_i r;obtain⟨fs,b,rfl⟩:=zMd h;exact EZ (Fj l b) (by rw[fJ b];exact r);cases h;obtain⟨q,b,h⟩:=zBd h;obtain⟨fb,c,rfl⟩:=zMd h;exact K5 (LP O b).1.lk (l _ fb c) (oR (iQ c).2.2.1);rename_i Q L A J;split at h;rename_i hk;cases ko.mp hk;split at h;rename_i x p;split at h;rename_i hi;obtain⟨rfl,y,I⟩:=O.isn x (Bd hi);have j:=zBd h;clear h;obtain⟨⟨a,t⟩,s,h⟩:=j;cases jE s;have j:=zBd h;clear h;obtain⟨⟨tn,N⟩,B,h⟩:=j;cases aV B;obtain⟨q,b,h⟩:=zBd h;obtain⟨g,c,h⟩:=zBd h;obtain⟨P,w,rfl⟩:=zMd h;obtain⟨M,E,G⟩:=O.cls tn g P c w;exact tW O.exc y I E G (l _ q b).ml (aJ (iQ b).1);cases h;rename_i o m K;have j:=zBd h;clear h;obtain⟨a,s,h⟩:=j;cases bX s;split at h;rename_i r;have j:=zBd h;clear h;obtain⟨fo,b,h⟩:=j;have j:=zBd h;clear h;obtain⟨q,c,h⟩:=j;obtain⟨v,x,p,rfl⟩:=LP O b;split at h;rename_i u;cases h;subst u;exact wG O.un v (l _ q c) (aJ (iQ c).1) rfl r;split at h;rename_i u;cases h;subst u;exact wI O.un v (l _ q c) (aJ (iQ c).1) rfl r;cases h;cases h;cases h;cases h;cases h
theorem LQ(O:QOk X ad C): ∀n e f,qT n C e=pi f->MT X ad e f
 |0,_,_,h=>by cases h
 |n+1,e,f,h=>by
  have j:=LQ O n;unfold qT at h;split at h
  .rename_i o q p;have i:=zBd h;clear h;obtain⟨⟨a,b⟩,l,h⟩:=i;cases jE l;simp only at h;split at h
   .cases h
   rename_i m;cases o with
   |And=>exact absurd rfl m
   |Or=>
   obtain⟨d,c,h⟩:=zBd h;obtain⟨fb,g,rfl⟩:=zMd h;exact A5 (GJ (j _ d c) (Af (j _ fb g)))
  .split at h
   .obtain⟨d,c,rfl⟩:=zMd h;exact EW (j _ d c)
   .cases h
  .split at h
   .have i:=zBd h;clear h;obtain⟨b,l,h⟩:=i;cases bX l;obtain⟨d,c,h⟩:=zBd h;obtain⟨fb,g,rfl⟩:=zMd h;exact EY O.un (yM O n _ d c) (yM O n _ fb g) (fY (iQ g).2.1)
   .cases h
  .exact EV (yM O n _ _ h) (λ_=>rfl)
  .cases h
theorem LR(O:QOk X ad C){Z}: ∀n,(∀st g,qS n C st=pi g->MS X ad Z st g)/\∀l g,qSs n C l=pi g->MSs X ad Z l g
 |0=>⟨(λ_ _ h=>by cases h),(λ_ _ h=>by cases h)⟩
 |n+1=>by
  obtain⟨s,d⟩:=LR O (Z:=Z) n;refine⟨λst g h=>?_,λl g h=>?_⟩;unfold qS at h;split at h;rename_i w e v;have j:=zBd h;clear h;obtain⟨t,q,h⟩:=j;cases bX q;have j:=zBd h;clear h;obtain⟨⟨x,p⟩,q,h⟩:=j;cases aV q;obtain⟨i,c,h⟩:=zBd h;obtain⟨f,b,rfl⟩:=zMd h;have nm:=O.nm x i c;refine Ba (pS O.nd nm.1 nm.2.1 (yM O n _ f b) ?_ nm.2.2);have u:=(iQ b).2.2.2;cases e<;>first|rfl|exact absurd rfl (u _ _ _ _)|(cases n<;>cases b;done)
  obtain⟨f,c,h⟩:=zBd h;obtain⟨o,b,h⟩:=zBd h;obtain⟨m,r,rfl⟩:=zMd h;exact Hd (LQ O n _ f c) (d _ o b) (d _ m r);have j:=zBd h;clear h;obtain⟨e,rfl,h⟩:=j;obtain⟨f,c,rfl⟩:=zMd h;exact v8 (yM O n _ f c);cases h;unfold qSs at h;split at h;cases h;exact oK;obtain⟨o,c,h⟩:=zBd h;obtain⟨m,b,rfl⟩:=zMd h;exact oM (s _ o c) (d _ m b)
end
noncomputable def LS:R->R
 |.ex _=>.bad
 |r=>r
def qFn(tab:L1 (Str×SK.Gl))(st:Stmt):L7 (Nat×Fn):=match st with
 |.FunctionDef _ as b _ _ _ sc _ _ _=>(cT as).bind λps=>if bO (aA sc) ps sc then(qSs 100 ⟨tab,[],sc,aA sc,[]⟩ b).map λg=>(ps.length,λds=>LS (SK.fnOf (aA sc).length g ds))else qr
 |_=>qr
noncomputable def quiet(A:Around):Around:={A with handled:=qr}
def RoomQ.room(r:RoomQ k A):Room k (quiet A):=⟨rfl,r.dp,r.un⟩
theorem RoomQ.deeper(r:RoomQ (k+1) A)env:RoomQ k (A.deeper env):=
 ⟨by have:=r.dp;show A.depth+1+3*k+5<_;lia,by have:=r.un;show A.units+3+16*k+200<_;lia⟩
section
variable{K:Frag}{ad:Ad}{tab:L1 (Str×SK.Gl)}
def HN{st}{F}(B:ExcK K ad)(TB:dG P w K mg base ad k tab)(Fu:Fun K x qual st f fd)(hps:cT (defArgs st)=pi ps)(hd:qFn tab st=pi (n,F)):FnOkQ P w K mg base (CXe P w) (k+1) f fd ps (yC K ad n F):=by
 obtain⟨oc,od,kV,a2,pm,an,N,ct,a3,rfl,lk,a0⟩:=Fu.ex;cases st with
 |FunctionDef nm as b dl re tp h ts bi a4=>
  have al:((cT as).bind λPs=>if bO (aA h) Ps h then(qSs 100 ⟨tab,[],h,aA h,[]⟩ b).map λg=>(Ps.length,λl=>LS (SK.fnOf (aA h).length g l))else qr)=pi (n,F):=hd;have ap:cT as=pi ps:=hps;rw[ap]at al;have M:(if bO (aA h) ps h then(qSs 100 ⟨tab,[],h,aA h,[]⟩ b).map λg=>(ps.length,λl=>LS (SK.fnOf (aA h).length g l))else qr)=pi (n,F):=al;by_cases t:bO (aA h) ps h=qt;rw[if_pos t]at M;obtain⟨g,hg,e⟩:=zMd M;cases e;obtain⟨S,nm⟩:=cI t;refine⟨λvs H Q E ⟨G,l,_,r,hl,_⟩=>by rw[r.length,hl],λA j s H args us vs Q E hr p hb r am=>?_⟩;have hl:vs.length=ps.length:=by obtain⟨G,l,_,r,hl,_⟩:=am;rw[r.length,hl]
  have KX:K.In s.heap:=p.mod.kin.keeps λb o e=>(p.bs b o e).1;have lim:s.heap.NoLimit:=p.mod.nolimit.keeps λb o e=>(p.bs b o e).1;have T: ∀y∈ps.zip us,h.names.lookup y.1=pi .local\/(h.names.lookup y.1=pi .cell/\((cellsFrom (s.z+1) h.names []).lookup y.1).isSome=qt):=λ⟨n,v⟩ hy=>by
   rcases S.par n (lf hy).1 with q|q;exact .inl q;exact .inr ⟨q,fj _ _ _ (.inl q)⟩
  have ab:A.depth<recursionLimit:=by have:=hr.dp;lia
  refine codeAny_call_function ab (KX _ _ lk) rfl S.co S.gen rfl (iy KX a0) (hb _ _ _ _ ?_);refine wpAny_newFunctionEnv_cells S.kind T λenv he s1 y=>?_;subst he;refine⟨lim.keeps y.toInCall.keep,codeAny_func ?_⟩;have e1:Env0 P w K mg base (quiet A) j s H:=⟨p.frames,p.mod,p.bs,p.bsz,p.funs,p.frf,p.hok,p.bare⟩;let X0:=jN (CXe P w) P w K mg base (aA h) qual h f N (quiet A) j s H E;have I0:Inv X0 [] (L2.start (aA h) vs) H s1:=gG S rfl e1 hl r y;let X:=qX X0 (A.deeper (envOfC qual h s.z f N)) (λe Y=>wpAny (model P w) (A.deeper (envOfC qual h s.z f N)) (leaving (envOfC qual h s.z f N) e) (λ_ U=>CXe P w j H s E e U) (λe' U=>CXe P w j H s E e' U) Y);have I:Inv X [] (L2.start (aA h) vs) H s1:=Ls rfl I0;have ar:Room k X0.A:=(hr.deeper _).room;let C:SK.Ctx:=⟨tab,[],h,aA h,[]⟩;have O:StOk X0 ad C:=j0 B TB eY.nil t ar;have OQ:QOk X ad C:=LO O (jd (ip (by decide:62<=64) _) ar.units);obtain⟨G,l,hG,rr,a1,hq⟩:=am;have ag:wpAny (model P w) X.A (execs b X.env) (SP X [] {nx:=λ_ m=>Q .non m,rt:=Q}) X.xe s1:=by
   refine(LR OQ (Z:=λ_=>True) 100).2 b g hg [] s1 _ H _ I ⟨G,G,l.map Slot.sh++ao ((aA h).length-l.length) .no,λ_ _ _=>False,?_,⟨λσ ce H s e Y _ hc=>?_,trivial⟩,?_⟩;have:=hU (X:=X) (ad:=ad) (n:=(aA h).length-l.length) hG rr;unfold L2.start;rw[rr.length];exact this;obtain⟨_,_,_,_,_,_,_,_,_,_,_,_,_,_,_,_,z⟩:=hc;exact z.elim;have i:RK K ad G H (LS (match g (l.map Slot.sh++ao ((aA h).length-l.length) .no)with
    |.rt (.ok d)=>.ok d
    |.rt (.ow xs)=>.ow xs
    |.rt _=>.bad
    |.nx _=>.ok .non
    |.ex c _=>.ex c
    |_=>.bad)) Q (λc m=>E (.ref (ad.cls c)) qr m):=hq
   cases e:g (l.map Slot.sh++ao ((aA h).length-l.length) .no)with
   |nx ρ=>rw[e]at i;exact λσ G' m S'=>i .non G' m S'.st (by unfold Rep;rfl)
   |bk ρ=>rw[e]at i;exact i.elim
   |ct ρ=>rw[e]at i;exact i.elim
   |ex c ρ=>rw[e]at i;exact i.elim
   |rt r'=>
    rw[e]at i;rcases r' with d|xs|c|_;exact i;exact i;exact i.elim;exact i.elim
  refine wpAny_mono ag (λfl Y t=>?_) λe Y t=>t;have ak: ∀{L:St} {m:Hp} {v:V} {u:Value},Inv X [] L m Y->bH v u->Q v m->CE j P w H s Q u Y:=
   λ{L m v u} J rv q=>⟨v,m,J.os,J.bare,J.base,J.hok,rv,q⟩
  cases fl with
  |ret u=>
   obtain⟨v,L,m,J,rv,q⟩:=t;exact ak J rv q
  |next=>
   obtain⟨L,m,J,q⟩:=t;exact ak (v:=V.non) (u:=pc) J rfl q
  |brk=>
   obtain⟨_,_,_,q⟩:=t;exact ba q
  |cont=>
   obtain⟨_,_,_,q⟩:=t;exact ba q
  rw[if_neg t]at M;cases M
 |_=>cases hd
end
def TPL(X:Cx)(Δ:Pl->Prop)(ce:cg)(σ:St)(Q:Bool->Hp->Prop)(b:Bool)(s':Shared):Prop:=
 ∃L,TD Δ L (X.pn++ce)/\TP X (L++ce) σ Q b s'
def LPT(X:Cx)(Δ:Pl->Prop)(e:Expr)(t:TT):Prop:=
 ∀(ce L:Pl) (s:Shared) (σ:St) (H:Hp) (Q:Bool->Hp->Prop),TD Δ L (X.pn++ce)->Inv X (L++ce) σ H s->t σ H Q->
  X.wp (isTrue e X.env (eval e X.env)) (TPL X Δ ce σ Q) X.xe s
def LU(hc:PT X c tc)(ha:qV X Δ a t)(hb:qV X Δ b u):LPS X Δ (.If c a b pos) (NW tc t u):=by intro j L s e H D T I h;refine wpAny_If (L2.thn (hc _ s e H _ I h) λd g f=>?_);obtain⟨l,i,q1⟩:=f;rcases d with _|_;exact hb j L g e l D T i q1;exact ha j L g e l D T i q1
def uH(he:LPE X Δ e te):LPS X Δ (.Return (pi e) pos) λD σ H=>te σ H D.rt:=by intro i L s σ H D T I h;exact wpAny_Return_some (L2.thn (he i L s σ H D.rt T I h) λu l b=>by obtain⟨j,d,v,f,c,g,q⟩:=b;exact⟨j,d,v,σ,f,c,g,q⟩)
def HP(hc:LPT X Δ c tc)(ha:qV X Δ sa t)(hb:qV X Δ sb u):LPS X Δ (.If c sa sb pos) (NW tc t u):=by intro e L s b H D T I h;refine wpAny_If (L2.thn (hc e L s b H _ T I h) λd g f=>?_);obtain⟨m,j,l,i,q1⟩:=f;rcases d with _|_;exact hb e m g b l D j i q1;exact ha e m g b l D j i q1
def Two(Δ₁ Δ₂:Pl->Prop)(L:Pl):Prop:= ∃M1 M2,L=M1++M2/\Δ₁ M1/\TD Δ₂ M2 M1
def LPE.fst(h:LPE X Δ e te):LPE X (Two Δ Δ') e te:=by
 intro g L s m H Q T I w;obtain⟨M1,M2,rfl,n,i⟩:=T.tb;rw[jm]at I;have f: ∀r∈X.pn++(M2++g),r∈M2\/r∈X.pn++g:=λr b=>by
  rcases k6.mp b with z|z;exact .inr (gy _ z);exact(k6.mp z).imp id (bt _)
 refine L2.thn (h (M2++g) M1 s m H Q ⟨n,λp c r b=>(f r b).elim (λz=>(i.dj r z p c).symm) (T.dj p (gy _ c) r)⟩ I w) λu o l=>?_;obtain⟨j,d,l⟩:=l;refine⟨j++M2,⟨⟨j,M2,rfl,d.tb,i.tb,λp c r b=>(d.dj r b p (bt _ (gy _ c))).symm⟩,λp c r b=>?_⟩,by rwa [jm]⟩;rcases k6.mp c with z|z;exact d.dj p z r ((k6.mp b).elim (gy _) λy=>bt _ (bt _ y));exact T.dj p (bt _ z) r b
def LPE.snd(h:LPE X Δ e te):LPE X (Two Δ' Δ) e te:=by intro j L s g H Q T I w;obtain⟨M1,M2,rfl,o,f⟩:=T.tb;have n:Inv X (M2++(M1++j)) g H s:=I.pins_of λp b=>I.pin p (bt _ (by simp only[k6]at b ⊢;rcases b with z|z|z<;>simp[z]));refine L2.thn (h (M1++j) M2 s g H Q ⟨f.tb,λp b r c=>?_⟩ n w) λu x t=>?_;rcases k6.mp c with z|z;exact T.dj p (bt _ b) r (gy _ z);rcases k6.mp z with z|z;exact f.dj p b r z;exact T.dj p (bt _ b) r (bt _ z);obtain⟨i,d,v,l,J,q,m⟩:=t;refine⟨M1++i,⟨⟨M1,i,rfl,o,d.tb,λp b r c=>d.dj p b r (bt _ (gy _ c))⟩,λp b r c=>?_⟩,v,l,J.pins_of λp b=>J.pin p (bt _ (by simp only[k6]at b ⊢;rcases b with (z|z)|z<;>simp[z])),q,m⟩;rcases k6.mp b with z|z;exact T.dj p (gy _ z) r c;exact d.dj p z r ((k6.mp c).elim (gy _) λy=>bt _ (bt _ y))
abbrev Mn:=Hp->Hp->VK->(Nat->Hp->Prop)->Prop
noncomputable def exR(F:Fn)(c:Nat):R:=match F [.exc c]with
 |.ok d=>.ok d
 |.ow xs=>.ow xs
 |_=>.bad
def HQ(P:Program)(w:World)(K:nq)(mg:Str->L7 Value)(base:Heap)(ad:Ad)(k:Nat)(fs:L1 Addr)(s:Shared)(G H:Hp)(a:Addr)(Φ:Mn):Prop:=
 ∀(A:Around) (outer:L1 qh) (s1:Shared) (G1 H1:Hp) (Q:VK) (E:XK),Room k A->Step G H G1 H1->Env0 P w K mg base A outer s1 H1->(∀b o,s.heap.get? b=pi o->H b=qr->b∉fs->s1.heap.get? b=pi o/\H1 b=qr)->
  Φ G1 H1 Q (λc H'=>E (.ref (ad.cls c)) qr H')->codeAny (model P w) A (.call (.ref a) ⟨[],[]⟩) (CR (CXe P w) outer P w H1 s1 Q E) s1
def tlM(K:nq)(ad:Ad)(F:Fn)(Φ:Mn)(G H:Hp)(Q:VK):Prop:=
 Φ G H Q λc H'=>xk ad (λc H'=>∃G',Step G H G' H'/\RK K ad G' H' (exR F c) Q λ_ _=>False) (.ref (ad.cls c)) qr H'
def eZ(F:Fn):RM->RM
 |.pure r=>.pure (gN F r)
 |.chg x r=>.chg x r
def LV{K}{ad}{F}(h:RMK K ad A G H p dx d l1 l2 (eZ F m) Q λ_ _=>False):tlM K ad F (λG H Q E=>RMK K ad A G H p dx d l1 l2 m Q E) G H Q:=by rcases m with r|⟨x,r⟩;rcases r with d|g|c|_;exact h;exact h;exact λe f b=>⟨c,rfl,e,b,RK.step (show RK K ad G H (exR F c) Q λ_ _=>False from h) b⟩;exact h;exact h
section
variable{K:nq}{ad:Ad}{kV:Value}{q1:Str}{F:Fn}{args:Args}
def Be(lk:K.lookup f=pi ⟨oc,od,.func (oj name qual params [kR dn en x cx cp xp ep ap hp' rq np dp rp tp] scope dV kV doc pm an cdv ct),osl⟩)(hcd:md K cdv qual=qt)(S:FnScope N [dn] scope)(h0:N[0]? =pi dn)(h1:N[1]? =pi en)(hdl:scope.names.lookup dn=pi .local)(hel:scope.names.lookup en=pi .local)(hdd:(dn==gV)=qu)(hdk:(dn==hZ)=qu)(hed:(en==gV)=qu)(hek:(en==hZ)=qu)(hmx:mg x=pi (.ref fa))(hdx:(x==gV)=qu)(hkx:l7 K (.ref fa)=qt)(hfx:FnOkQ P w K mg base (CXe P w) kf fa fd [q1] (yC K ad 1 F))(hbx:eE K fd [q1] [])(hkf:kf<=k)(hmc:mg cx=pi (.ref (ad.cls 0)))(hcb:(cx==gV)=qu)(hx: ∀c,exmOne K (.ref (ad.cls c)) (.ref (ad.cls 0))=pi qt)(hglx: ∀X,X.env.scope=scope->L2.Gl X x)(hglc: ∀X,X.env.scope=scope->L2.Gl X cx)(hr:Room (k+1) A)(e0:Env0 P w K mg base A outer s H)(hb:BindsTo s (oj name qual params [kR dn en x cx cp xp ep ap hp' rq np dp rp tp] scope dV kV doc pm an cdv ct) args [(dn,.ref a)])(hfn:PySem.W.FnAt a s.heap)(hdeed:HQ P w K mg base ad k (frs outer) s G H a Φ)(hG:Same G H)(hq:tlM K ad F Φ G H Q):
  codeAny (model P w) A (.call (.ref f) args) (CR (CXe P w) outer P w H s Q E) s:=by
 have KX:K.In s.heap:=e0.mod.kin.keeps λb o e=>(e0.bs b o e).1;have lim:s.heap.NoLimit:=e0.mod.nolimit.keeps λb o e=>(e0.bs b o e).1;have r: ∀y∈[(dn,qe a)],scope.names.lookup y.1=pi .local\/(scope.names.lookup y.1=pi .cell/\((cellsFrom (s.z+1) scope.names []).lookup y.1).isSome=qt):=λy hy=>by
  rw[ja.mp hy];exact .inl hdl
 refine codeAny_call_function hr.depth (KX _ _ lk) rfl S.co S.gen rfl (iy KX hcd) (hb _ _ _ _ ?_);refine wpAny_newFunctionEnv_cells S.kind r λenv he C y=>?_;subst he;refine⟨lim.keeps y.toInCall.keep,codeAny_func ?_⟩;let X:=jN (CXe P w) P w K mg base N qual scope f cdv A outer s H E;have I:Inv X [] (start N [.ref a]) H C:=gG (vs:=[.ref a]) (us:=[.ref a]) (ps:=[dn]) S hr.hd e0 rfl (.cons rfl .nil) y;have hk:=y.toInCall.keep;let p:Ends:={nx:=λ_ j=>Q .non j,rt:=Q};have O:wpAny (model P w) X.A (execs [kR dn en x cx cp xp ep ap hp' rq np dp rp tp] X.env) (SP X [] p) X.xe C:=by
  let hd:ExceptHandler:=.ExceptHandler (pi (.Name cx cp)) (pi en) [.Return (pi (.Call (.Name x xp) [.Name en ep] [] ap)) rq] hp';have I':Inv (tX X [] p hd) [] (start N [.ref a]) H C:=OE I;refine wpAny_execs_cons (L2.thn (Q:=SP X [] p) (wpAny_Try_except ?_) λL s2 l=>?_);show wpAny (model P w) (tX X [] p hd).A (execs _ (tX X [] p hd).env) _ (tX X [] p hd).xe C;refine wpAny_execs_cons (wpAny_Return_some (wpAny_Call_Name_kw ?_));obtain⟨m5,ag,am⟩:=I.loc;obtain⟨u5,r5,l5⟩:=am 0 dn (.ref a) h0 rfl (.inl hdl);cases (show u5=qe a from r5);have al:m5 dn=pi (.ref a):=by
   have hk:X.env.kindOf dn=pi .local:=hdl;rcases l5 with ⟨_,e⟩|⟨k,_⟩;exact e;rcases k with k|k<;>(rw[hk]at k;cases k)
  refine wpAny_Name (wpAny_loadName_local I.ok.kind hdl ag al ?_) hdd;have M:PySem.W.FnAt a C.heap:=by
   obtain⟨oc,od,fd,sl,e⟩:=hfn;exact⟨oc,od,fd,sl,hk _ _ e⟩
  refine PySem.W.callWith_F0 M (wpAny_call ?_);refine codeAny_mono (hdeed (tX X [] p hd).A (tX X [] p hd).stack C G H Q (xk ad λc j=>∃z,Step G H z j/\RK K ad z j (exR F c) Q λ_ _=>False) (hr.deeper _) (Step.refl hG) I'.env0 (λb o e n _=>⟨hk b o e,n⟩) hq) λZ s2 h=>?_;rcases Z with e|L;obtain⟨t,cls,a0,j,B,rfl,ho,ab,ak,un,hok,ne,c8,c9,c,rfl,z,st,Y⟩:=h;have st2:Step z j (upd z t (EJ (ad.cls c) t)) (upd j t (EJ (ad.cls c) t)):=Step.new st.gh ne;refine yE (X:=X) (i:=1) (kf:=kf) (fa:=fa) (F:=F) (fd:=fd) (q1:=q1) ⟨rfl,rfl,rfl⟩ S.nd h1 hel hek (hglx X rfl) hmx hdx hkx hfx hbx (λv=>⟨?_,?_⟩) (hglc X rfl) hmc hcb hed (hx c) I ho ab ak un hok ne c8 c9 ⟨upd z t (EJ (ad.cls c) t),(st.trans st2).gh,?_,?_⟩;have:=(hr.deeper X.env).dp;show X.A.depth+3*kf+5<_;have e:X.A=A.deeper X.env:=rfl;rw[e];lia;have:=(hr.deeper X.env).un;show X.A.units+16*kf+200<_;have e:X.A=A.deeper X.env:=rfl;rw[e];lia;unfold Rep;exact⟨t,rfl,aH⟩;have g:RK K ad _ _ (match F [.exc c]with|.ok d=>.ok d|.ow xs=>.ow xs|_=>.bad) Q λ_ _=>False:=RK.step Y st2;cases e:F [.exc c]with
  |ok d=>rw[e]at g;exact g
  |ow xs=>rw[e]at g;exact g
  |ex c'=>rw[e]at g;exact g.elim
  |bad=>rw[e]at g;exact g.elim
  cases L with
  |next=>exact ba h
  |brk=>exact ba h
  |cont=>exact ba h
  |ret u=>
   obtain⟨v,j,J,U,q⟩:=Inv.after I' h;exact⟨v,_,j,Ln J,U,q⟩
  cases L with
  |next=>exact wpAny_execs_nil l
  |brk=>exact l
  |cont=>exact l
  |ret u=>exact l
 refine wpAny_mono O (λL s' l=>?_) λe s' l=>l;have T: ∀{m:St} {j:Hp} {v:V} {u:Value},Inv X [] m j s'->bH v u->Q v j->CE outer P w H s Q u s':=
  λ{m j v u} J U q=>⟨v,j,J.os,J.bare,J.base,J.hok,U,q⟩
 cases L with
 |ret u=>
  obtain⟨v,m,j,J,U,q⟩:=l;exact T J U q
 |next=>
  obtain⟨m,j,J,q⟩:=l;exact T (v:=V.non) (u:=pc) J rfl q
 |brk=>
  obtain⟨_,_,_,q⟩:=l;exact ba q
 |cont=>
  obtain⟨_,_,_,q⟩:=l;exact ba q
end
def TbL(P:Addr)(q:Str)(L:Pl):Prop:= ∃ps cs,L=(P,mh ps)::cs/\Tb P q ps cs
noncomputable def uI:L7 SK.Slot->L7 SK.Slot
 |some (.sh d)=>pi (.sh d)
 |some (.rk C r)=>pi (.rk C r)
 |_=>qr
def Cu(cs:L1 Nat)(ρ:Rho):L7 (L1 SK.Slot):=eL (λi=>uI ρ[i]?) cs
def SL.cons0{K}{ad}(h:SL K ad G H ρ σ)(h0:SLi K ad G H s ov):SL K ad G H (s::ρ) (ov::σ):=
 ⟨by simp[h.len],λi b e=>by
  rcases i with _|i;cases e;exact⟨ov,rfl,h0⟩;exact h.at_ i b e⟩
theorem wW{K}{ad}{G H}{ρ}{σ}(hS:SL K ad G H ρ σ): ∀{cs} {sl},Cu cs ρ=pi sl->
  ∃vs:L1 V,vs.length=cs.length/\SL K ad G H sl (vs.map pi)/\∀(i j:Nat) v,cs[i]? =pi j->vs[i]? =pi v->σ[j]? =pi (pi v)
 |[],sl,h=>by
  cases h;exact⟨[],rfl,⟨rfl,λi s e=>by cases e⟩,λi j v h=>by cases h⟩
 |c::cs,sl,h=>by
  unfold Cu eL at h;rcases e:ρ[c]? with _|g;rw[e]at h;cases h;rw[e]at h;have f: ∀(v:V),uI (pi g)=pi g->σ[c]? =pi (pi v)->SLi K ad G H g (pi v)->(eL (λi=>uI ρ[i]?) cs).map (g:: ·)=pi sl->∃vs:L1 V,vs.length=(c::cs).length/\SL K ad G H sl (vs.map pi)/\∀(i j:Nat) (v:V),(c::cs)[i]? =pi j->vs[i]? =pi v->σ[j]? =pi (pi v):=λv _ b z h=>by
   obtain⟨r,y,u⟩:=zMd h;subst u;obtain⟨vs,l,t,A⟩:=wW hS (cs:=cs) (sl:=r) y;refine⟨v::vs,by simp[l],t.cons0 z,λi j w hi n=>?_⟩;rcases i with _|i;cases hi;cases n;exact b;exact A i j w hi n
  rcases g with _|d|o|o|o|⟨C,r⟩;cases h;obtain⟨v,b,m⟩:=hS.sh e;exact f v rfl b ⟨v,rfl,m⟩ h;cases h;cases h;cases h;obtain⟨p,x,d,B,q,b,m⟩:=hS.rk e;exact f (.ref p) rfl b ⟨p,x,d,B,q,rfl,m⟩ h
def j4(P:Program)(w:World)(K:nq)(mg:Str->L7 Value)(base:Heap)(ad:Ad)(k:Nat)(f:Addr)(fd:FuncData)(dn:Str)(F:Fn):Prop:=
 ∀(A:Around) (outer:L1 qh) (s:Shared) (G H:Hp) (a:Addr) (Φ:Mn) (Q:VK) (E:XK) (args:Args),Room (k+1) A->Env0 P w K mg base A outer s H->BindsTo s fd args [(dn,.ref a)]->PySem.W.FnAt a s.heap->H a=qr->a∉frs outer->HQ P w K mg base ad k (frs outer) s G H a Φ->Same G H->
  tlM K ad F Φ G H Q->codeAny (model P w) A (.call (.ref f) args) (CR (CXe P w) outer P w H s Q E) s
section
variable{σ:St}{lp:Pos}{ad:Ad}{F:Fn}{tb:Cx->TE}
def wX(hfn: ∀x,(x,m4)∈sc.names->X.fn x=qt)(hg:L2.Gl X tn)(hm:X.mg tn=pi (.ref ft))(hdb:(tn==gV)=qu)(hk:l7 X.K (.ref ft)=qt)(hT:j4 X.prog X.w X.K X.mg X.base ad k.succ ft fd dn F)(hr:Room (k+2) X.A)(hb: ∀s u,X.K.In s.heap->BindsTo s fd ⟨[u],[]⟩ [(dn,u)])(hx:P∈X.ex)(hpar:defaultsOf params X.env=([],[]))(hq:X.env.qual++"<lambda>"=q)(hfree: ∀x,(x,m4)∈sc.names->X.env.kindOf x=pi .cell\/X.env.kindOf x=pi .free)(hcode:X.env.code= .ref c)(hC:mi s.heap c P)(hB:s.heap.BuiltinsAt X.mg P)(S:LamSc (aN sc) sc)(hbind: ∀cl pm cd ct,bindArgs (mj "<lambda>" q params body sc cl pm cd ct) ⟨[],[]⟩=pure [])(hcl:cap.length=(aN sc).length)(hcap: ∀(i:Nat) x,(aN sc)[i]? =pi x->∃j,cap[i]? =pi j/\X.N[j]? =pi x/\(X.env.kindOf x=pi .cell\/X.env.kindOf x=pi .free))(hbody: ∀a cd cl A outer s H E,Room k (A.deeper (Dm q sc s.z a cd cl))->PE (cxL (CXe X.prog X.w) X.prog X.w X.K X.mg X.base (aN sc) q sc a cd cl A outer s H E) body (tb (cxL (CXe X.prog X.w) X.prog X.w X.K X.mg X.base (aN sc) q sc a cd cl A outer s H E)))(T:TD (TbL P q) L (X.pn++ce))(I:Inv X (L++ce) σ H s)(hG:Same G H)(hS:SL X.K ad G H ρ σ)(hcd:Cu cap ρ=pi ds)(htb: ∀Y (vs:L1 V) G1 H1 Q1 E1,Y.K=X.K->DefX Y E1->Same G1 H1->Step G H G1 H1->SL X.K ad G1 H1 ds (vs.map pi)->(∀(i j:Nat) v,cap[i]? =pi j->vs[i]? =pi v->σ[j]? =pi (pi v))->Φ G1 H1 Q1 (λc H'=>E1 (.ref (ad.cls c)) qr H')->tb Y (vs.map pi) H1 Q1)(hrk:tlM X.K ad F Φ G H Q):
  X.wp (eval (.Call (.Name tn p) [.Lambda params body sc lp] [] cp) X.env) (EPL X (TbL P q) ce σ Q) X.xe s:=by
 obtain⟨ps,cs,rfl,tb⟩:=T.tb;refine wpAny_Call_Name_kw (eJ I hg hm ?_ hdb);refine i3 (h₀:=X.base) I.ok.mod.kin hk ?_ rfl rfl;refine ix (AV I tb hx (λp hp=>(T.dj _ (.head _) p hp).symm) hpar hq hfree hcode hC hB λa ab am cv bb s' n T' a9 new l M ag a6 be=>ji ⟨n.kIn,?_⟩)
 obtain⟨vs,a7,a2,an⟩:=wW hS hcd
 have a0:TD (TbL P q) ((P,mh ab)::am) (X.pn++ce):=⟨⟨ab,am,rfl,T'⟩,λp hp r hr=>by
  rcases av.mp hp with z|hp
  .rw[z];exact T.dj (P,mh ps) (.head _) r hr
  .rcases new p hp with z|z
   .exact T.dj p (.tail _ z) r hr
   .have a3:r∈X.pn++((P,mh ps)::cs++ce):=by
     rcases k6.mp hr with y|y
     .exact gy _ y
     .exact bt _ (bt _ y)
    exact oe (bg (ah (I.pin r a3).1) z)⟩
 have f: ∀x d,(lS X.env.cells sc.names []).lookup x=pi d->(x,m4)∈sc.names/\X.env.cells.lookup x=pi d:=λx d e=>by
  rcases kO e with ⟨k,U,h2,h3⟩|h
  .subst h2;refine⟨U,?_⟩;obtain⟨c',ap⟩:=I.ok.has x (hfree x U);rw[ap]at h3;rw[h3];exact ap
  .cases h
 have C: ∀x,sc.names.lookup x=pi .free->∃d,(lS X.env.cells sc.names []).lookup x=pi d:=λx e=>ef.mp (kP (cells:=X.env.cells) (acc:=[]) (ii e))
 have t: ∀b,b≠X.env.locals->b∉X.fs->b∉frs X.stack:=λb n1 n2 z=>by
  rcases I.ok.stk with e|⟨e,e2⟩
  .rw[e]at z;exact n2 z
  .rw[e]at z;unfold frs at z;rw[ic,e2]at z;rcases av.mp z with y|y
   .exact n1 y
   .exact n2 y
 have ak:HQ X.prog X.w X.K X.mg X.base ad k.succ (frs X.stack) s' G H a Φ:=by
  intro A outer s1 G1 H1 Q1 E1 hR st1 e0 B a1
  have al: ∀x d,(x,m4)∈sc.names->X.env.cells.lookup x=pi d->d∉frs X.stack:=λx d hx O=>by
   refine t d (λz=>?_) (λz=>?_)
   .obtain⟨v,o,J,g⟩:=n.cell x d O;obtain⟨m,⟨o2,es,ep,e3,ar,_⟩,_⟩:=n.loc;rw[z,e3]at J;cases J;rw[ar]at g;cases g
   .exact absurd (I.ok.cab x d (hfn x hx) O) (Nat.not_le.mpr (let ⟨o,J⟩:=(I.ok.funs.mem z).2;ah J.1))
  have Tx:DefX (cxL (CXe X.prog X.w) X.prog X.w X.K X.mg X.base (aN sc) q sc a cv (lS X.env.cells sc.names []) A outer s1 H1 E1) E1:=⟨rfl,rfl,rfl,λe s' h=>h⟩
  obtain⟨c',rfl,a4,as,a5⟩:=a6;refine Hr (vs:=vs) S (B _ _ M (I.hok.fresh l) (t a (oe (bg I.lt l)) (I.nofs l))).1 (ag.at λo e=>(B _ _ e a4 (t c' as a5)).1) (hbind _ _ _ _) hR e0 (λx y d U h2=>I.ok.inj x y d (f x d U).2 (f y d h2).2) C (λx d h=>?_) (by rw[a7,hcl]) (λi x v U h2 h3=>?_) ⟨_,hbody a _ _ A outer s1 H1 E1 (hR.deeper _),htb _ vs G1 H1 Q1 E1 rfl Tx st1.gh st1 (a2.step st1) an a1⟩
  .obtain⟨v,o,J,O⟩:=n.cell x d (f x d h).2;have kk:=B _ _ J (n.freeC x d (f x d h).2) (al x d (f x d h).1 (f x d h).2);exact⟨⟨v,o,kk.1,O⟩,kk.2⟩
  .obtain⟨j,e1,e2,e3⟩:=hcap i x U;have e4:=an i j v e1 h2;obtain⟨m,hn,hl⟩:=n.loc;obtain⟨u,ru,lu⟩:=hl j x v e2 e4 (by rcases e3 with z|z<;>first|exact .inr (.inl z)|exact .inr (.inr z))
   rcases lu with ⟨z,_⟩|⟨_,d,O,o,J,Z⟩
   .rcases e3 with y|y<;>(rw[z]at y;cases y)
   .obtain⟨d',g⟩:=C x h3
    have:=(f x d' g).2
    rw[O]at this;cases this;exact⟨u,d,ru,g,o,(B _ _ J (n.freeC x d O) (al x d (f x _ g).1 O)).1,Z⟩
 refine wpAny_call (codeAny_mono (hT X.A X.stack s' G H a _ Q (λ_ _ _=>False) ⟨[.ref a],[]⟩ hr n.env0 (hb s' _ n.kIn) ⟨_,_,_,_,M⟩ (I.hok.fresh l) (t a (oe (bg I.lt l)) (I.nofs l)) ak hG hrk) λr s2 hq=>?_)
 cases r with
 |error e=>obtain⟨_,_,_,_,_,_,_,_,_,_,_,_,_,_,z⟩:=hq;exact z.elim
 |ok fl=>
  cases fl with
  |ret u=>exact⟨_,a0,n.after hq⟩
  |next=>exact ba hq
  |brk=>exact ba hq
  |cont=>exact ba hq
end
inductive OutM where
 |nx (ρ:Rho) (b:Bool)|rt (x:R) (ρ:Rho) (b:Bool)|ex (c:Nat) (b:Bool)|bad
abbrev FSM:=Rho->Bool->OutM
noncomputable def wY(b:Bool)(r:R)(k:D->OutM):OutM:=match r with
 |.ok d=>k d
 |.ow xs=>k (.lst xs)
 |.ex c=>.ex c b
 |.bad=>.bad
noncomputable def gP:FSM:=λρ b=>.nx ρ b
noncomputable def eS(g h:FSM):FSM:=λρ b=>match g ρ b with
 |.nx ρ' b'=>h ρ' b'
 |o=>o
noncomputable def mIf(f:F)(g h:FSM):FSM:=λρ b=>match f ρ with
 |.ok (.bl k)=>if k then g ρ b else h ρ b
 |.ex c=>.ex c b
 |_=>.bad
def DF(i:Nat)(f:F):FSM:=λρ b=>wY b (f ρ) λd=>.nx (ρ.set (i+1) (.sh d)) b
def rN(f:F):FSM:=λρ b=>wY b (f ρ) λ_=>.nx ρ b
noncomputable def wZ(f:F):FSM:=λρ b=>match f ρ with
 |.ex c=>.ex c b
 |x=>.rt x ρ b
noncomputable def Bf(c:Nat):FSM:=λ_ b=>.ex c b
def StB(b:Bool)(foot:L1 Addr)(G₀ H₀ G H:Hp):Prop:=if b=qt then StepR foot G₀ H₀ G H else Step G₀ H₀ G H
def StepR.step(a:StepR foot G₀ H₀ G H)(t:Step G H G1 H1)(fr: ∀b,H₀ b≠qr->H b≠qr):StepR foot G₀ H₀ G1 H1:=
 ⟨a.sg.trans t.sg,t.gh,λb o c e=>t.sh _ _ (a.sh b o c e),λb d f=>by
  rcases q:G b with _|o;have:=t.nw b q f;rcases z:H₀ b with _|o;rfl;exact absurd this (fr b (by rw[z];exact λy=>nomatch y));exact a.nw b d (by rw[q];exact λz=>nomatch z),λb c=>by
  rcases q:H b with _|o;exact absurd q (fr b c);rw[t.sh b o q];exact λz=>nomatch z⟩
def Step.toR(a:Step G₀ H₀ G H):StepR foot G₀ H₀ G H:=⟨a.sg,a.gh,λb o _ e=>a.sh b o e,a.nw,λb c=>by
 rcases q:H₀ b with _|o;exact absurd q c;rw[a.sh b o q];exact λz=>nomatch z⟩
noncomputable def shN:Slot->Bool
 |.no=>qt
 |.sh _=>qt
 |_=>qu
structure SM(X:Cx)(ad:Ad)(A:Nat)(G₀:Hp)(p dx d l1 l20:Addr)(b:Bool)(G H:Hp)(ρ:Rho)(σ:St):Prop where
 sl:SL X.K ad G H ρ σ
 gh:Same G H
 me:σ[0]? =pi (pi (.ref p))
 rk: ∃r l2,ρ[0]? =pi (.rk A r)/\RackIn X.K ad A G H p r dx d l1 l2/\(l2=l20\/X.H₀ l2=qr)
 st:StB b [p,dx,d,l1,l20] G₀ X.H₀ G H
 fr: ∀c,X.H₀ c≠qr->H c≠qr
 on: ∀j sl,ρ[j+1]? =pi sl->shN sl=qt
def OKm(X:Cx)(ad:Ad)(A:Nat)(G₀:Hp)(p dx d l1 l20:Addr)(o:OutM)(D':Ends)(E:Nat->Hp->Prop):Prop:=match o with
 |.nx ρ b=>∀σ G H,SM X ad A G₀ p dx d l1 l20 b G H ρ σ->D'.nx σ H
 |.rt (.ok x) ρ b=>∀σ G H v,SM X ad A G₀ p dx d l1 l20 b G H ρ σ->Rep X.K ad G x v->D'.rt v H
 |.rt (.ow xs) _ b=>b=qu/\∀q vs G H,Step G₀ X.H₀ G H->X.H₀ q=qr->G q=qr->H q=pi (.lst vs)->aI X.K ad G xs vs->D'.rt (.ref q) H
 |.ex c b=>b=qu/\∀G H,Step G₀ X.H₀ G H->E c H
 |_=>False
def tM(X:Cx)(ad:Ad)(A:Nat)(E:Nat->Hp->Prop)(g:FSM):TS:=λD' σ H=>∃G₀ p dx d l1 l20 G ρ b,SM X ad A G₀ p dx d l1 l20 b G H ρ σ/\OKm X ad A G₀ p dx d l1 l20 (g ρ b) D' E
abbrev MM(X:Cx)(ad:Ad)(A:Nat)(E:Nat->Hp->Prop)(st:Stmt)(g:FSM):Prop:=PS X st (tM X ad A E g)
abbrev MMs(X:Cx)(ad:Ad)(A:Nat)(E:Nat->Hp->Prop)(sts:L1 Stmt)(g:FSM):Prop:=PSs X sts (tM X ad A E g)
section
variable{X:Cx}{ad:Ad}{A:Nat}{G₀ G H G1 H1:Hp}{p dx d l1 l20:Addr}{b:Bool}{ρ:Rho}{σ:St}{E:Nat->Hp->Prop}{D':Ends}{f:F}{g h:FSM}{e c:Expr}{st:Stmt}{pos:Pos}
theorem SM.step(S:SM X ad A G₀ p dx d l1 l20 b G H ρ σ)(t:Step G H G1 H1):SM X ad A G₀ p dx d l1 l20 b G1 H1 ρ σ:=by obtain⟨r,f,i,j,h⟩:=S.rk;refine⟨S.sl.step t,t.gh,S.me,⟨r,f,i,j.step t,h⟩,?_,λc g=>?_,S.on⟩;have z:=S.st;unfold StB at z ⊢;by_cases e:b=qt;rw[if_pos e]at z ⊢;exact z.step t S.fr;rw[if_neg e]at z ⊢;exact z.trans t;rcases q:H c with _|o;exact absurd q (S.fr c g);rw[t.sh c o q];exact λz=>nomatch z
def nR{k}{Q'}(S:SM X ad A G₀ p dx d l1 l20 b G H ρ σ)(hx:XP X ad σ E)(hr:OKm X ad A G₀ p dx d l1 l20 (wY b (f ρ) k) D' E)
  (q: ∀v x G1 H1,SM X ad A G₀ p dx d l1 l20 b G1 H1 ρ σ->Rep X.K ad G1 x v->OKm X ad A G₀ p dx d l1 l20 (k x) D' E->Step G H G1 H1->Q' v H1):tE X ad f σ H Q':=by
 refine⟨G,ρ,E,S.gh,S.sl,hx,?_⟩;rcases e:f ρ with x|s|c|_;rw[e]at hr;exact λv G1 H1 t r=>q v x G1 H1 (S.step t) r hr t;rw[e]at hr;intro a o G1 H1 t n m i r;obtain⟨l,g,j⟩:=dW (X:=X) (ad:=ad) t n m i r;exact q _ _ l H1 (S.step g) j hr g;rw[e]at hr;obtain⟨h,hr⟩:=hr;have z:=S.st;unfold StB at z;rw[h,if_neg bf]at z;exact λG1 H1 t=>hr G1 H1 (z.trans t);rw[e]at hr;exact hr
def HS:MM X ad A E (.Pass pos) gP:=PS.imp y6 λl f H c=>by obtain⟨e,p,i,d,m,h,G,j,b,S,g⟩:=c;exact g f G H S
def HU:MMs X ad A E [] gP:=PSs.imp kY λl f H c=>by obtain⟨e,p,i,d,m,h,G,j,b,S,g⟩:=c;exact g f G H S
def DG(h1:MM X ad A E st g)(h2:MMs X ad A E sts h):MMs X ad A E (st::sts) (eS g h):=by refine PSs.imp (kM h1 h2) ?_;rintro w v H ⟨i,p,o,d,q,j,G,n,b,S,f⟩;refine⟨i,p,o,d,q,j,G,n,b,S,?_⟩;unfold eS at f;rcases e:g n b with ⟨l,m⟩|⟨x,l,m⟩|⟨c,m⟩|_;rw[e]at f;exact λt r u s=>⟨i,p,o,d,q,j,r,l,m,s,f⟩;rw[e]at f;rcases x with x|y|c|_;exact f;exact f;exact f;exact f;rw[e]at f;exact f;rw[e]at f;exact f
def OV{a b}(hx: ∀σ,XP X ad σ E)(hc:MT X ad c f)(ha:MMs X ad A E a g)(hb:MMs X ad A E b h):MM X ad A E (.If c a b pos) (mIf f g h):=by
 refine PS.imp (Kb hc ha hb) ?_;rintro w σ H ⟨j,p,q,d,s,n,G,m,b,S,i⟩;unfold mIf at i;rcases e:f m with x|y|c|_;rw[e]at i;cases x<;>try exact i.elim
 rename_i k;refine⟨G,m,E,S.gh,S.sl,hx σ,.inl ⟨k,e⟩,?_⟩;rw[e];intro v o u t r;unfold Rep at r;subst r;refine⟨k,rfl,?_⟩;have l:OKm X ad A j p q d s n (if k=qt then g m b else h m b) w E:=i;cases k;rw[if_neg bf]at l;show if qu=qt then _ else _
 rw[if_neg bf];exact⟨j,p,q,d,s,n,o,m,b,S.step t,l⟩;rw[if_pos rfl]at l;show if qt=qt then _ else _
 rw[if_pos rfl];exact⟨j,p,q,d,s,n,o,m,b,S.step t,l⟩;rw[e]at i;exact i.elim;rw[e]at i;obtain⟨hb,i⟩:=i;have z:=S.st;unfold StB at z;rw[hb,if_neg bf]at z;refine⟨G,m,E,S.gh,S.sl,hx σ,.inr ⟨c,e⟩,?_⟩;rw[e];exact λo u t=>i o u (z.trans t);rw[e]at i;exact i.elim
theorem SM.set(S:SM X ad A G₀ p dx d l1 l20 b G H ρ σ)(r:Rep X.K ad G x v):SM X ad A G₀ p dx d l1 l20 b G H (ρ.set (i+1) (.sh x)) (σ.set (i+1) (pi v)):=by
 obtain⟨l,f,q,n,g⟩:=S.rk;refine⟨⟨by rw[lg,lg];exact S.sl.len,λj sl e=>?_⟩,S.gh,by rw[bc (by lia)];exact S.me,⟨l,f,by rw[bc (by lia)];exact q,n,g⟩,S.st,S.fr,λj sl e=>?_⟩;by_cases z:j=i+1;subst z;have c:i+1<ρ.length:=by have:=(ay.mp e).1;rwa [lg]at this
 rw[bj c]at e;cases e;exact⟨pi v,bj (by rw[<-S.sl.len];exact c),v,rfl,r⟩;rw[bc (qq z)]at e;obtain⟨o,h,m⟩:=S.sl.at_ j sl e;exact⟨o,by rw[bc (qq z)];exact h,m⟩;by_cases z:j=i;subst z;have c:j+1<ρ.length:=by have:=(ay.mp e).1;rwa [lg]at this
 rw[bj c]at e;cases e;rfl;rw[bc (by lia)]at e;exact S.on j sl e
def HV(hx: ∀σ,XP X ad σ E)(he:ME X ad e f)(hs:swapsWith e qr pos.line X.env=pure qu):MM X ad A E (.Expr e pos) (rN f):=by refine PS.imp (jO he hs) ?_;rintro o σ H ⟨c,p,n,d,q,h,G,m,b,S,g⟩;exact nR S (hx σ) g λv x l j i r k _=>k _ l j i
def LW(hx: ∀σ,XP X ad σ E)(he:ME X ad e f):MM X ad A E (.Return (pi e) pos) (wZ f):=by refine PS.imp (vB he) ?_;rintro B σ H ⟨o,p,y,d,C,s,G,l,b,S,g⟩;refine⟨G,l,E,S.gh,S.sl,hx σ,?_⟩;unfold wZ at g;rcases e:f l with x|I|c|_;rw[e]at g;exact λv i h t r=>g σ i h v (S.step t) r;rw[e]at g;obtain⟨j,g⟩:=g;have z:=S.st;unfold StB at z;rw[j,if_neg bf]at z;exact λq u i h t n m w r=>g q u i h (z.trans t) (z.sh.free n) m w r;rw[e]at g;obtain⟨j,g⟩:=g;have z:=S.st;unfold StB at z;rw[j,if_neg bf]at z;exact λi h t=>g i h (z.trans t);rw[e]at g;exact g
def DH{E₀}{x}{k}{np cpos kp}{msg}{j}(T:DefX X E₀)(hc:X.calm=qt)(hg:L2.Gl X x)(hm:X.mg x=pi (.ref (ad.cls k)))(hd:(x==gV)=qu)(hi:excIn X.K (ad.cls k) [.type "ValueError",.type "Exception",.type "BaseException",.type "object"] "ValueError.__new__"=qt)(hE: ∀c H,E c H->E₀ (.ref (ad.cls c)) qr H):
  MM X ad A E (.Raise (pi (.Call (.Name x np) [.Constant (.str msg) j kp] [] cpos)) qr pos) (Bf k):=by
 rintro o s l H n I ⟨f,p,m,d,q,h,G,i,b,S,e⟩;obtain⟨g,e⟩:=e;have z:=S.st;unfold StB at z;rw[g,if_neg bf]at z;exact wC T hc hg hm hd hi I (hE k H (e G H z))
end
noncomputable def gB(kvs:L1 (Str×D))(x:Str):L1 (Str×D):=kvs.filter λp=>decide (p.1≠x)
noncomputable def mUp(A:Nat)(ρ:Rho)(k:Rk->OutM):OutM:=match(ρ[0]? :L7 Slot)with
 |some (.rk C r)=>if C=A then k r else .bad
 |_=>.bad
noncomputable def DI(A:Nat)(ρ:Rho)(r:Rk):OutM:=.nx (ρ.set 0 (.rk A r)) qt
noncomputable def Ql(bb:Bool)(r:Rk)(d:D):Rk:=if bb then {r with done:=r.done++[d]} else {r with undone:=r.undone++[d]}
def OW(A:Nat)(bb:Bool)(f:F):FSM:=λρ b=>mUp A ρ λr=>wY b (f ρ) λd=>if(Ol bb r).length<LIM then DI A ρ (Ql bb r d)else .bad
def w4(A:Nat):FSM:=λρ _=>mUp A ρ λr=>DI A ρ {r with undone:=[]}
def HW(A:Nat)(f g:F):FSM:=λρ b=>wY b (g ρ) λv=>mUp A ρ λr=>wY b (f ρ) λk=>match k with
 |.str x=>if r.held.length<LIM then DI A ρ {r with held:=fE r.held x v} else .bad
 |_=>.bad
def HX(A:Nat)(f:F):FSM:=λρ b=>mUp A ρ λr=>wY b (f ρ) λk=>match k with
 |.str x=>if(bK r.held x).isSome then DI A ρ {r with held:=gB r.held x} else .bad
 |_=>.bad
noncomputable def OX(b:Bool)(r:RA)(k:L1 D->OutM):OutM:=match r with
 |.ok ds=>k ds
 |.ex c=>.ex c b
 |.bad=>.bad
section
variable{X:Cx}{ad:Ad}{A:Nat}{G₀:Hp}{p dx d l1 l20:Addr}{ρ:Rho}{σ:St}{E:Nat->Hp->Prop}{D':Ends}{f:F}{e:Expr}{pos ap cp np qp:Pos}{x:Str}
def rO{k}(hr:OKm X ad A G₀ p dx d l1 l20 (mUp A ρ k) D' E): ∃r,ρ[0]? =pi (.rk A r)/\OKm X ad A G₀ p dx d l1 l20 (k r) D' E:=by unfold mUp at hr;split at hr;rename_i C r e;by_cases b:C=A;rw[if_pos b]at hr;subst b;exact⟨r,e,hr⟩;rw[if_neg b]at hr;exact hr.elim;exact hr.elim
theorem SM.toR(S:SM X ad A G₀ p dx d l1 l20 b G H ρ σ):StepR [p,dx,d,l1,l20] G₀ X.H₀ G H:=by have z:=S.st;unfold StB at z;by_cases c:b=qt;rw[if_pos c]at z;exact z;rw[if_neg c]at z;exact z.toR
def SM.chg(S:SM X ad A G₀ p dx d l1 l20 b G H ρ σ)(hf:a∈[p,dx,d,l1,l20]\/X.H₀ a=qr)(ga:G a=qr)(hR:RackIn X.K ad A G (upd H a o) p r' dx d l1 l2)(h2:l2=l20\/X.H₀ l2=qr):
  SM X ad A G₀ p dx d l1 l20 qt G (upd H a o) (ρ.set 0 (.rk A r')) σ:=by
 have h:0<ρ.length:=by
  obtain⟨r,_,n,_⟩:=S.rk;exact(ay.mp n).1
 have gh:Same G (upd H a o):=λc u e=>by
  have g:c≠a:=λz=>by rw[z,ga]at e;cases e
  rw[aD g];exact S.gh c u e
 refine⟨⟨by rw[lg];exact S.sl.len,λj sl e=>?_⟩,gh,S.me,⟨r',l2,bj h,hR,h2⟩,?_,λc f=>?_,λj sl e=>?_⟩;rcases j with _|j;rw[bj h]at e;cases e;exact⟨_,S.me,p,dx,d,l1,l2,rfl,hR⟩;rw[bc (by lia)]at e;obtain⟨m,i,l⟩:=S.sl.at_ _ sl e;have s:=S.on j sl e;refine⟨m,i,?_⟩;cases sl with
 |no=>trivial
 |sh d=>exact l
 |_=>cases s
 show StB qt _ _ _ _ _;unfold StB;rw[if_pos rfl];have z:=S.toR;refine⟨z.sg,gh,λc u f e=>?_,z.nw,λc f=>by
  by_cases q:c=a;subst q;rw[aH];exact λz=>nomatch z;rw[aD q];exact S.fr c f⟩
 have g:c≠a:=λq=>by
  subst q;rcases hf with hf|hf;exact f hf;rw[hf]at e;cases e
 rw[aD g];exact z.sh c u f e;by_cases q:c=a;subst q;rw[aH];exact λz=>nomatch z;rw[aD q];exact S.fr c f;rw[bc (by lia)]at e;exact S.on j sl e
def LY(h2:l2=l20\/X.H₀ l2=qr):l2∈[p,dx,d,l1,l20]\/X.H₀ l2=qr:=h2.elim (λz=>.inl (by rw[z];simp)) .inr
def RackIn.list(bb:Bool)(h:RackIn X.K ad A G H p r dx d l1 l2)(rv:aI X.K ad G ds vs):RackIn X.K ad A G (upd H (if bb then l1 else l2) (.lst vs)) p (if bb then {r with done:=ds} else {r with undone:=ds}) dx d l1 l2:=by
 obtain⟨kvs,b,j⟩:=h.held;obtain⟨n,f,q⟩:=h.done;obtain⟨o,g,m⟩:=h.undone;have i: ∀{l:Addr} {ws:L1 V},H l=pi (.lst ws)->p≠l/\dx≠l/\d≠l:=λ{l ws} hl=>
  ⟨(λz=>by rw[<-z,h.ins]at hl;cases hl),(λz=>by rw[<-z,h.own]at hl;cases hl),(λz=>by rw[<-z,b]at hl;cases hl)⟩
 cases bb;obtain⟨q1,e,c⟩:=i g;exact⟨by show upd H l2 _ _=_;rw[aD q1];exact h.ins,by show upd H l2 _ _=_;rw[aD e];exact h.own,⟨kvs,by show upd H l2 _ _=_;rw[aD c];exact b,j⟩,⟨n,by show upd H l2 _ _=_;rw[aD h.ne];exact f,q⟩,⟨vs,aH,rv⟩,h.ne,h.gp,h.gx,h.gd,h.g1,h.g2⟩;obtain⟨q1,e,c⟩:=i f;exact⟨by show upd H l1 _ _=_;rw[aD q1];exact h.ins,by show upd H l1 _ _=_;rw[aD e];exact h.own,⟨kvs,by show upd H l1 _ _=_;rw[aD c];exact b,j⟩,⟨vs,aH,rv⟩,⟨o,by show upd H l1 _ _=_;rw[aD h.ne.symm];exact g,m⟩,h.ne,h.gp,h.gx,h.gd,h.g1,h.g2⟩
def LZ(bb:Bool)(RC:RkC X.K A)(h:RackIn X.K ad A G H p r dx d l1 l2)(hi:σ[0]? =pi (pi (.ref p)))(q:Q (.ref (if bb then l1 else l2)) H):Nw X.K (JA 0) (if bb then "done" else "undone") σ H Q:=by cases bb;exact jC RC h hi (fd:="undone") rfl RC.n3 q;exact jC RC h hi (fd:="done") rfl RC.n2 q
def Fk(bb:Bool)(h:RackIn X.K ad A G H p r dx d l1 l2): ∃vs,H (if bb then l1 else l2)=pi (.lst vs)/\aI X.K ad G (Ol bb r) vs/\G (if bb then l1 else l2)=qr:=by cases bb;obtain⟨g,c,b⟩:=h.undone;exact⟨g,c,b,h.g2⟩;obtain⟨f,e,i⟩:=h.done;exact⟨f,e,i,h.g1⟩
def L4(bb:Bool)(hx: ∀σ,XP X ad σ E)(RC:RkC X.K A)(hV:mU X 0 x)(he:ME X ad e f)(hs:starEach [e] X.env=(qu,eval e X.env)::starEach [] X.env)(hl:(ap.endLine==cp.line)=qt):
  MM X ad A E (.Expr (.Call (.Attribute (.Attribute (.Name x np) (if bb then "done" else "undone") qp) "append" ap) [e] [] cp) pos) (OW A bb f):=by
 refine PS.imp (jO (Ge (T:="list") ew PySem.F.slot_list_append PySem.F.type_list_append lF (iW (bZ hV) rfl) (cG he dR hs) rfl (fI hs) hl hs rfl) rfl) ?_;rintro Z σ H ⟨n,p,N,d,l,g,G,U,b,S,i⟩;obtain⟨r,I,i⟩:=rO i;obtain⟨r1,o,m,j,q⟩:=S.rk;rw[I]at m;cases m;obtain⟨u,L,Y,W⟩:=Fk bb j;unfold F3 tBM;refine LZ bb RC j S.me ?_;refine⟨.inl ⟨rfl,u,SqL.of L⟩,?_⟩;refine nR S (hx σ) i λv y M H1 B O k t=>?_;have c:=j.step t;obtain⟨J,Q,s,C⟩:=Fk bb c;by_cases h:(Ol bb r).length<LIM;rw[if_pos h]at k;refine⟨_,J,v,rfl,rfl,Q,by rw[s.length];exact bg h (by decide),?_⟩;have w:(if bb then l else o)∈[p,N,d,l,g]\/X.H₀ (if bb then l else o)=qr:=by
  cases bb;exact LY q;exact .inl (by simp)
 refine k σ M _ (B.chg (r':=Ql bb r y) w C ?_ q);have z:=c.list bb (s.append (aI.cons O aI.nil));cases bb<;>exact z;rw[if_neg h]at k;exact k.elim
end
def oU(A:Nat)(M:FM)(fs:L1 F):FSM:=λρ b=>mUp A ρ λr=>OX b (args fs ρ) λds=>match M r ds with
 |.pure x=>wY b x λ_=>.nx ρ b
 |.chg _ r'=>.nx (ρ.set 0 (.rk A r')) qt
section
variable{X:Cx}{ad:Ad}{A n:Nat}{G₀ G H G1 H1:Hp}{p dx d l1 l2 l20:Addr}{b:Bool}{ρ:Rho}{σ:St}{E:Nat->Hp->Prop}{D':Ends}{f g:F}{fs:L1 F}{e k v:Expr}{es:L1 Expr}{pos ap cp np qp kp lp:Pos}{x m:Str}{r':Rk}{M:FM}
def DJ(RC:RkC X.K A)(hV:mU X 0 x):
  MM X ad A E (.Assign [.Attribute (.Name x np) "undone" qp] (.List [] lp) pos) (w4 A):=by
 refine PS.imp (vD (bZ hV) (vE dR) rfl) ?_;rintro T C H ⟨m,p,u,d,O,v,G,Q,b,S,g⟩;obtain⟨r,I,g⟩:=rO g;obtain⟨W,l2,j,s,U⟩:=S.rk;rw[I]at j;cases j;refine⟨bu _,λl n=>?_⟩;have i:Step G H G (upd H l (.lst [])):=Step.own S.gh n;have B:=S.step i;have e:=s.step i;have N:X.H₀ l=qr:=by
  rcases q:X.H₀ l with _|o;rfl;exact absurd n (S.fr l (by rw[q];exact λz=>nomatch z))
 obtain⟨kvs,h,y⟩:=e.held;obtain⟨L,t,J⟩:=e.done;have el:upd H l (.lst []) l=pi (.lst []):=aH;have f: ∀{c:Addr} {o:HO},upd H l (.lst []) c=pi o->(∀fs,o≠ .ins A u fs)->c≠p:=λ{c o} hc ho z=>by
  rw[z,e.ins]at hc;cases hc;exact ho _ rfl
 have M:O≠l:=λz=>by
  obtain⟨w,q1,_⟩:=s.done;rw[z,n]at q1;cases q1
 refine⟨.ref p,S.me,p,A,u,_,rfl,e.ins,RC.cl,RC.n3,by show 3<1000;decide,?_⟩;refine g C G _ (B.chg (r':={r with undone:=[]}) (l2:=l) (.inl (by simp)) e.gp ?_ (.inr N));exact⟨aH,by rw[aD (f e.own λ_ z=>nomatch z)];exact e.own,⟨kvs,by rw[aD (f h λ_ z=>nomatch z)];exact h,y⟩,⟨L,by rw[aD (f t λ_ z=>nomatch z)];exact t,J⟩,
  ⟨[],by rw[aD (f el λ_ z=>nomatch z)];exact el,aI.nil⟩,M,e.gp,e.gx,e.gd,e.g1,S.gh.free n⟩
def HY{K}(h:HR K ad G held kvs)x:HR K ad G (gB held x) (L2.dropK kvs (qo x)):=by
 unfold gB L2.dropK;induction h with
 |nil=>exact .nil
 |@cons p q e f c t d=>
  rw[kd,kd];by_cases z:p.1=x;have b:q.1=(qo x:L2.Key):=by rw[c.1,z]
  simp only[z,b,ne_eq,not_true_eq_false,decide_false,az,if_false];exact d;have b: ¬q.1=(qo x:L2.Key):=λy=>z (by rw[c.1]at y;exact oy y);simp only[z,b,ne_eq,not_false_eq_true,decide_true,if_true];exact .cons c d
def RackIn.dict{held}(h:RackIn X.K ad A G H p r dx d l1 l2)(rv:HR X.K ad G held kvs):RackIn X.K ad A G (upd H d (.dK kvs)) p {r with held:=held} dx d l1 l2:=by
 obtain⟨e,i,n⟩:=h.held;obtain⟨j,b,m⟩:=h.done;obtain⟨l,f,g⟩:=h.undone;have ne: ∀{c:Addr} {o:HO},H c=pi o->(∀fs,o≠ .dK fs)->c≠d:=λ{c o} hc ho z=>by
  rw[z,i]at hc;cases hc;exact ho _ rfl
 exact⟨by rw[aD (ne h.ins λ_ z=>nomatch z)];exact h.ins,by rw[aD (ne h.own λ_ z=>nomatch z)];exact h.own,⟨kvs,aH,rv⟩,⟨j,by rw[aD (ne b λ_ z=>nomatch z)];exact b,m⟩,
  ⟨l,by rw[aD (ne f λ_ z=>nomatch z)];exact f,g⟩,h.ne,h.gp,h.gx,h.gd,h.g1,h.g2⟩
def HZ(hu:X.A.units+62<cLine)(hx: ∀σ,XP X ad σ E)(RC:RkC X.K A)(hV:mU X 0 x)(hk:ME X ad k f)(hw:ME X ad v g)(hs:swapsWith v (pi (.Subscript (.Attribute (.Name x np) "held" qp) k kp)) pos.line X.env=pure qu):
  MM X ad A E (.Assign [.Subscript (.Attribute (.Name x np) "held" qp) k kp] v pos) (HW A f g):=by
 refine PS.imp (zZ (by lia) (iW (bZ hV) rfl) hk hw hs) ?_;rintro L σ H ⟨h,p,U,d,Y,j,G,I,b,S,O⟩;refine nR S (hx σ) O λw y G1 H1 l n c Z=>?_;obtain⟨r,N,c⟩:=rO c;obtain⟨r1,l2,t,C,T⟩:=l.rk;rw[N]at t;cases t;refine jC RC C l.me (fd:="held") rfl RC.n1 ?_;refine nR l (hx σ) c λu z M H2 W B s st2=>?_;cases z with
 |str q=>
  unfold Rep at B;subst B;have e:=C.step st2;obtain⟨kvs,J,o⟩:=e.held;have Q:kvs.length=r.held.length:=(mo o).symm;have i:OKm X ad A h p U d Y j (if r.held.length<LIM then DI A I {r with held:=fE r.held q y} else .bad) L E:=s;by_cases m:r.held.length<LIM;rw[if_pos m]at i;refine⟨d,_,rfl,GC.k (k:=qo q) J (by rw[Q];exact bg m (by decide)),?_⟩;exact i σ M _ (W.chg (.inl (by simp)) e.gd (e.dict (wK o (n.mono st2.sg) q)) T);rw[if_neg m]at i;exact i.elim
 |_=>exact s.elim
def Id(hx: ∀σ,XP X ad σ E)(RC:RkC X.K A)(hV:mU X 0 x)(hk:ME X ad k f)(hm:M1 X (.Attribute (.Name x np) "held" qp) "pop" ap k cp):
  MM X ad A E (.Expr (.Call (.Attribute (.Attribute (.Name x np) "held" qp) "pop" ap) [k] [] cp) pos) (HX A f):=by
 refine PS.imp (jO (CZ (iW (bZ hV) rfl) hk hm) rfl) ?_;rintro J σ H ⟨e,p,O,d,T,i,G,y,b,S,j⟩;obtain⟨r,M,j⟩:=rO j;obtain⟨Y,W,o,l,N⟩:=S.rk;rw[M]at o;cases o;obtain⟨g,I,_⟩:=l.held;unfold F3 EM;refine jC RC l S.me (fd:="held") rfl RC.n1 ⟨d,rfl,.inl ⟨g,.inl I⟩,?_⟩;refine nR S (hx σ) j λu z L U Q s n st2=>?_;cases z with
 |str q=>
  unfold Rep at s;subst s;have c:=l.step st2;obtain⟨kvs,B,m⟩:=c.held;have t:=kT m q;have h:OKm X ad A e p O d T i (if(bK r.held q).isSome=qt then DI A y {r with held:=gB r.held q} else .bad) J E:=n;rcases w:bK r.held q with _|dd;rw[w]at h;exact h.elim;rw[w]at h t;obtain⟨v,C,_⟩:=t;refine⟨kvs,qo q,v,B,rfl,C,?_⟩;exact h σ L _ (Q.chg (.inl (by simp)) c.gd (c.dict (HY m q)) N)
 |_=>exact n.elim
def Ie{k}{Q'}(S:SM X ad A G₀ p dx d l1 l20 b G H ρ σ)(hx:XP X ad σ E)(hr:OKm X ad A G₀ p dx d l1 l20 (OX b (args fs ρ) k) D' E)
  (q: ∀vs ds G1 H1,SM X ad A G₀ p dx d l1 l20 b G1 H1 ρ σ->aI X.K ad G1 ds vs->ds.length=fs.length->OKm X ad A G₀ p dx d l1 l20 (k ds) D' E->Step G H G1 H1->Q' vs H1):tA X ad fs σ H Q':=by
 refine⟨G,ρ,E,S.gh,S.sl,hx,?_⟩;rcases e:args fs ρ with ds|c|_;rw[e]at hr;exact λvs G1 H1 t r=>q vs ds G1 H1 (S.step t) r (fH e) hr t;rw[e]at hr;obtain⟨f,hr⟩:=hr;have z:=S.st;unfold StB at z;rw[f,if_neg bf]at z;exact λG1 H1 t=>hr G1 H1 (z.trans t);rw[e]at hr;exact hr
def SM.call(S:SM X ad A G₀ p dx d l1 l20 b G H ρ σ)(h2:l2=l20\/X.H₀ l2=qr)(t:StepR [p,dx,d,l1,l2] G H G1 H1)(hR:RackIn X.K ad A G1 H1 p r' dx d l1 l2')(h3:l2'=l2\/H l2'=qr):SM X ad A G₀ p dx d l1 l20 qt G1 H1 (ρ.set 0 (.rk A r')) σ:=by
 have h:0<ρ.length:=by
  obtain⟨r,_,x,_⟩:=S.rk;exact(ay.mp x).1
 have g: ∀c,H c=qr->X.H₀ c=qr:=λc f=>by
  rcases q:X.H₀ c with _|o;rfl;exact absurd f (S.fr c (by rw[q];exact λz=>nomatch z))
 refine⟨⟨by rw[lg];exact S.sl.len,λj sl e=>?_⟩,t.gh,S.me,⟨r',l2',bj h,hR,?_⟩,?_,λc f=>t.th c (S.fr c f),λj sl e=>?_⟩;rcases j with _|j;rw[bj h]at e;cases e;exact⟨_,S.me,p,dx,d,l1,l2',rfl,hR⟩;rw[bc (by lia)]at e;obtain⟨w,l,s⟩:=S.sl.at_ _ sl e;have C:=S.on j sl e;refine⟨w,l,?_⟩;cases sl with
 |no=>trivial
 |sh d=>
  obtain⟨v,q1,n⟩:=s;exact⟨v,q1,n.mono t.sg⟩
 |_=>cases C
 rcases h3 with rfl|h3;exact h2;exact .inr (g _ h3);show StB qt _ _ _ _ _;unfold StB;rw[if_pos rfl];have z:=S.toR;refine⟨z.sg.trans t.sg,t.gh,λc u f e=>t.sh c u (λm=>?_) (z.sh c u f e),λc i B=>?_,λc f=>t.th c (S.fr c f)⟩;simp only[av,ki,or_false,not_or]at m f;rcases m with m|m|m|m|m;exact f.1 m;exact f.2.1 m;exact f.2.2.1 m;exact f.2.2.2.1 m;rcases h2 with h2|h2;exact f.2.2.2.2 (m.trans h2);rw[m,h2]at e;cases e;rcases q:G c with _|o;exact g c (t.nw c q B);exact z.nw c i (by rw[q];exact λy=>nomatch y);rw[bc (by lia)]at e;exact S.on j sl e
def DK(S:SM X ad A G₀ p dx d l1 l20 b G H ρ σ)(h2:l2=l20\/X.H₀ l2=qr){R'}(hr:OKm X ad A G₀ p dx d l1 l20 (match R' with|.pure x=>wY b x λ_=>.nx ρ b|.chg _ r'=>.nx (ρ.set 0 (.rk A r')) qt) D' E):
  RMK X.K ad A G H p dx d l1 l2 R' (λ_ H1=>D'.nx σ H1) E:=by
 rcases R' with x|⟨x,r'⟩;have e:OKm X ad A G₀ p dx d l1 l20 (wY b x λ_=>.nx ρ b) D' E:=hr;rcases x with y|r|c|_;exact λv f H1 t _=>e σ f H1 (S.step t);exact λq o f H1 t _ _ _ _=>e σ f H1 (S.step t);obtain⟨h,g⟩:=e;have z:=S.st;unfold StB at z;rw[h,if_neg bf]at z;exact λf H1 t=>g f H1 (z.trans t);exact e.elim;exact λv l j n t m i _=>hr σ l j (S.call h2 t m i)
def Ig(hx: ∀σ,XP X ad σ E)(RC:RkC X.K A)(M0:MetOk X ad A m n M)(hV:mU X 0 x)(ha:MA X ad (e::es) fs)(hn:fs.length=n)(hst:starEach (e::es) X.env=(qu,eval e X.env)::starEach es X.env)(hpl:(backTo cp (starEach es X.env)).any (·.1)=qu)(hfm:methodCallForm ((e::es).length+([]:L1 Keyword).length) (backTo cp (starEach (e::es) X.env)) (backToKw cp (keywordEach [] X.env))=qt)(hln:(ap.endLine==cp.line)=qt):
  MM X ad A E (.Expr (.Call (.Attribute (.Name x np) m ap) (e::es) [] cp) pos) (oU A M fs):=by
 rintro B s σ H T I ⟨U,p,dx,d,l1,ab,G,ρ,b,S,z⟩;obtain⟨r,e0,z⟩:=rO z;obtain⟨N,l2,O,Y,h2⟩:=S.rk;rw[e0]at O;cases O;have i:X.wp (eval (.Call (.Attribute (.Name x np) m ap) (e::es) [] cp) X.env) (EP X B σ λ_ c=>T.nx σ c) X.xe s:=by
  obtain⟨fm,k,fd,ps,J,_⟩:=M0.ok;refine PySem.W.methodCall_KW (L2.thn (bZ hV B s σ H (λv c=>v= .ref p/\c=H) I ⟨.ref p,S.me,rfl,rfl⟩) λu Z L=>?_) (rH rfl hfm hln);obtain⟨v,c,h,N,e1,e2⟩:=L;subst e1;subst e2;cases (show u=qe p from N);refine mX h Y.ins RC.cl J (Fc M0.no) ?_;refine i3 (first:=[.ref p]) (h₀:=X.base) h.ok.mod.kin J.kp (L2.thn (ha cp B Z σ c (λq l=>∃f g,Step G c g l/\aI X.K ad g f q/\f.length=fs.length/\RMK X.K ad A g l p dx d l1 l2 (M r f) (λ_ H3=>T.nx σ H3) E) h
   (Ie S (hx σ) z λq f g l S1 o C k j=>⟨f,g,j,o,C,DK S1 h2 k⟩)) λus s2 ⟨q,l,Q,r2,f,g,j,o,C,k⟩=>⟨Q.kIn,?_⟩) hst hpl
  exact uA M0 Q j.gh (Y.step j) r2 o (C.trans hn) (hx σ) k J
 exact wpAny_Expr_any (L2.thn i λv Z t=>by obtain⟨y,c,h,N,q1⟩:=t;exact⟨σ,c,h,q1⟩) I.quiet rfl
end
structure CA where
 o:Expr
 m:Str
 ap:Pos
 as:List Expr
 cp:Pos
def Fl:Expr->L7 CA
 |.Call f as kws cp=>if kws.isEmpty then(CQ f).bind λ(o,m,ap)=>if(ap.endLine==cp.line)=qt then pi ⟨o,m,ap,as,cp⟩ else qr else qr
 |_=>qr
def DL(h:CQ e=pi (o,f,q)):e= .Attribute o f q:=by cases e<;>first|(cases h;rfl)|(cases h;done)
def Bg(h:Fl e=pi c):e= .Call (.Attribute c.o c.m c.ap) c.as [] c.cp/\(c.ap.endLine==c.cp.line)=qt:=by
 cases e<;>try (cases h;done)
 rename_i f as b cp;have g:(if b.isEmpty then(CQ f).bind λ(o,m,ap)=>if(ap.endLine==cp.line)=qt then pi (⟨o,m,ap,as,cp⟩:CA)else qr else qr)=pi c:=h;by_cases hk:b.isEmpty=qt;rw[if_pos hk]at g;obtain⟨⟨o,m,ap⟩,j,l⟩:=zBd g;have d:(if(ap.endLine==cp.line)=qt then pi (⟨o,m,ap,as,cp⟩:CA)else qr)=pi c:=l;by_cases i:(ap.endLine==cp.line)=qt;rw[if_pos i]at d;cases d;cases DL j;cases ko.mp hk;exact⟨rfl,i⟩;rw[if_neg i]at d;cases d;rw[if_neg hk]at g;cases g
noncomputable def L6:L7 Nat->L7 Nat
 |some (i+1)=>pi i
 |_=>qr
def DM(h:L6 o=pi i):o=pi (i+1):=by rcases o with _|j;cases h;rcases j with _|j;cases h;cases h;rfl
noncomputable def Fm:Expr->Bool
 |.List es _=>es.isEmpty
 |_=>qu
def Bh(h:Fm e=qt): ∃p,e= .List [] p:=by
 cases e<;>try (cases h;done)
 rename_i b p;cases ko.mp (show b.isEmpty=qt from h);exact⟨p,rfl⟩
def OY(A:Nat)(C:SK.Ctx)(t e:Expr):L7 FSM:=match t with
 |.Name x _=>(L6 (loc C x)).bind λi=>(bN 50 C e).map λf=>DF i f
 |.Attribute o f q=>if atF C "undone" (.Attribute o f q)=pi 0/\Fm e=qt then pi (w4 A)else qr
 |.Subscript o k _=>if atF C "held" o=pi 0 then(bN 50 C k).bind λf=>(cF e).bind λ(y,py)=>(bN 50 C (.Name y py)).map λg=>HW A f g else qr
 |_=>qr
def OZ(A:Nat)(ms:L1 (Str×Nat×FM))(C:SK.Ctx)(e:Expr):L7 FSM:=match Fl e with
 |some c=>(match cF c.o with
  |some (x,_)=>if loc C x=pi 0 then(ms.lookup c.m).bind λ(n,M)=>if c.as.length<20/\c.as.isEmpty=qu then(eL (bN 50 C) c.as).bind λfs=>if fs.length=n then pi (oU A M fs)else qr else qr else qr
  |none=>(match Om C c.o with
   |some (i,bb)=>if i=0/\c.m="append" then(one c.as).bind λa=>(bN 50 C a).map λf=>OW A bb f else qr
   |none=>if atF C "held" c.o=pi 0/\c.m="pop" then(one c.as).bind λa=>(bN 50 C a).map λf=>HX A f else qr))
 |none=>(match e with
  |.Call f as kws cp=>if kws.isEmpty then(bN 50 C (.Call f as [] cp)).map rN else qr
  |_=>qr)
def Ih(C:SK.Ctx)(x:L7 Expr):L7 FSM:=x.bind λe=>(match e with
 |.Call f as kws _=>if kws.isEmpty then(cF f).bind λ(x,_)=>(one as).bind λa=>if Go a then(match loc C x,glo C x with
  |none,pi (.exc c)=>pi (Bf c)
  |_,_=>qr)else qr else qr
 |_=>qr)
noncomputable def isN{α:Type}:L7 α->Bool
 |none=>qt
 |some _=>qu
mutual
def mS:Nat->Nat->L1 (Str×Nat×FM)->SK.Ctx->Stmt->L7 FSM
 |0,_,_,_,_=>qr
 |n+1,A,ms,C,st=>match st with
  |.Pass _=>pi gP
  |.If c a b _=>(bN 50 C c).bind λf=>(mSs n A ms C a).bind λg=>(mSs n A ms C b).map λh=>mIf f g h
  |.Return e _=>e.bind λe=>(bN 50 C e).map wZ
  |.Raise x c _=>if isN c then Ih C x else qr
  |.Assign ts e _=>(one ts).bind λt=>OY A C t e
  |.Expr e _=>OZ A ms C e
  |_=>qr
def mSs:Nat->Nat->L1 (Str×Nat×FM)->SK.Ctx->L1 Stmt->L7 FSM
 |0,_,_,_,_=>qr
 |n+1,A,ms,C,l=>match l with
  |[]=>pi gP
  |st::r=>(mS n A ms C st).bind λg=>(mSs n A ms C r).map λh=>eS g h
end
section
variable{X:Cx}{ad:Ad}{A:Nat}{C:SK.Ctx}{E:Nat->Hp->Prop}{E₀:XK}{ms:L1 (Str×Nat×FM)}{e t:Expr}{g:FSM}
structure MeOk(X:Cx)(ad:Ad)(A:Nat)(ms:List (Str×Nat×FM))(C:SK.Ctx)(E:Nat->Hp->Prop)(E₀:XK):Prop where
 O:StOk X ad C
 T:DefX X E₀
 hx: ∀σ,XP X ad σ E
 hE: ∀c H,E c H->E₀ (.ref (ad.cls c)) qr H
 RC:RkC X.K A
 MO: ∀m n M,ms.lookup m=pi (n,M)->MetOk X ad A m n M
def Ii(L:MeOk X ad A ms C E E₀)(h:OY A C t e=pi g):MM X ad A E (.Assign [t] e pos) g:=by obtain⟨w,Z,kI⟩:=bV (ad:=ad) 50;unfold OY at h;split at h;rename_i y py;have hx:=zBd h;clear h;obtain⟨i,m,h⟩:=hx;have c:=DM m;have nm:=L.O.nm c;obtain⟨f,n,rfl⟩:=zMd h;refine PS.imp (A9 L.O n c) ?_;rintro D' M H ⟨u,p,dx,d,l1,B,G,Y,b,S,Q⟩;exact nR S (L.hx M) Q λv x W U K r k _=>k _ W U (K.set r);rename_i o f q;split at h;rename_i j;cases h;obtain⟨x,N,I,J,l⟩:=iL j.1;cases J;obtain⟨lp,rfl⟩:=Bh j.2;have s:=L.O.cx.vis x 0 l;exact DJ L.RC s;cases h;rename_i o k kp;split at h;rename_i j;obtain⟨x,N,I,rfl,l⟩:=iL j;have s:=L.O.cx.vis x 0 l;have hx:=zBd h;clear h;obtain⟨f,m,h⟩:=hx;have hx:=zBd h;clear h;obtain⟨⟨y,py⟩,n,h⟩:=hx;cases aV n;obtain⟨T,z,rfl⟩:=zMd h;exact HZ L.O.cx.un L.hx L.RC s (w X C _ f L.O.cx m).1 (w X C _ T L.O.cx z).1 rfl;cases h;cases h
def Ij(L:MeOk X ad A ms C E E₀)(h:OZ A ms C e=pi g):MM X ad A E (.Expr e pos) g:=by obtain⟨q,U,Y⟩:=bV (ad:=ad) 50;unfold OZ at h;split at h;rename_i c H;obtain⟨rfl,s⟩:=Bg H;obtain⟨o,m,W,w,y⟩:=c;simp only at h s ⊢;split at h;rename_i x v N;cases aV N;split at h;rename_i l;have p:=L.O.cx.vis x 0 l;have hx:=zBd h;clear h;obtain⟨⟨T,M⟩,d,h⟩:=hx;simp only at h;split at h;rename_i b;have hx:=zBd h;clear h;obtain⟨fs,z,h⟩:=hx;split at h;rename_i Q;cases h;obtain⟨K,t⟩:=oS q L.O.cx z;rcases w with _|⟨a,r⟩;exact absurd b.2 (by simp);exact Ig L.hx L.RC (L.MO m T M d) p K Q (aJ (t a (.head _))) (jF λe S=>t e (.tail _ S)) (uD t b.1) s;cases h;cases h;cases h;split at h;rename_i i G u;split at h;rename_i j;obtain⟨rfl,rfl⟩:=j;have hx:=zBd h;clear h;obtain⟨a,n,h⟩:=hx;cases bX n;obtain⟨f,d,rfl⟩:=zMd h;obtain⟨x,v,B,rfl,l⟩:=HF u;have p:=L.O.cx.vis x 0 l;exact L4 G L.hx L.RC p (q X C _ f L.O.cx d).1 (aJ (aL d).1) s;cases h;split at h;rename_i j;obtain⟨u,rfl⟩:=j;have hx:=zBd h;clear h;obtain⟨a,n,h⟩:=hx;cases bX n;obtain⟨f,d,rfl⟩:=zMd h;obtain⟨x,v,B,rfl,l⟩:=iL u;have p:=L.O.cx.vis x 0 l;refine Id L.hx L.RC p (q X C _ f L.O.cx d).1 ⟨rfl,?_,s,?_⟩;rw[aJ (aL d).1];rfl;rw[aJ (aL d).1];rfl;cases h;split at h;rename_i f w I y;split at h;rename_i hk;cases ko.mp hk;obtain⟨J,n,rfl⟩:=zMd h;exact HV L.hx (q X C _ J L.O.cx n).1 rfl;cases h;cases h
def DN(L:MeOk X ad A ms C E E₀)(h:Ih C x=pi g):MM X ad A E (.Raise x qr pos) g:=by unfold Ih at h;have b:=zBd h;clear h;obtain⟨e,rfl,h⟩:=b;split at h;rename_i y s m r;split at h;rename_i f;cases dB f;have b:=zBd h;clear h;obtain⟨⟨x,p⟩,q,h⟩:=b;cases aV q;have b:=zBd h;clear h;obtain⟨a,l,h⟩:=b;cases bX l;split at h;rename_i d;obtain⟨t,v,w,rfl⟩:=wT d;split at h;rename_i c u i;cases h;obtain⟨j,n,o,z⟩:=L.O.cx.gl i;exact DH L.T L.O.cx.calm j o n (L.O.exi c) L.hE;cases h;cases h;cases h;cases h
theorem Fo(L:MeOk X ad A ms C E E₀): ∀n,(∀st g,mS n A ms C st=pi g->MM X ad A E st g)/\∀l g,mSs n A ms C l=pi g->MMs X ad A E l g
 |0=>⟨(λ_ _ h=>by cases h),(λ_ _ h=>by cases h)⟩
 |n+1=>by
  obtain⟨q,d⟩:=Fo L n;obtain⟨o,u,v⟩:=bV (ad:=ad) 50;refine⟨λst g h=>?_,λl g h=>?_⟩;unfold mS at h;split at h;cases h;exact HS;obtain⟨f,b,h⟩:=zBd h;obtain⟨m,j,h⟩:=zBd h;obtain⟨i,p,rfl⟩:=zMd h;exact OV L.hx (o X C _ f L.O.cx b).2.1 (d _ m j) (d _ i p);have hx:=zBd h;clear h;obtain⟨e,rfl,h⟩:=hx;obtain⟨f,b,rfl⟩:=zMd h;exact LW L.hx (o X C _ f L.O.cx b).1;rename_i x c s;split at h;rename_i r;rcases c with _|_;exact DN L h;cases r;cases h;have hx:=zBd h;clear h;obtain⟨t,b,h⟩:=hx;cases bX b;exact Ii L h;exact Ij L h;cases h;unfold mSs at h;split at h;cases h;exact HU;obtain⟨m,b,h⟩:=zBd h;obtain⟨i,j,rfl⟩:=zMd h;exact DG (q _ m b) (d _ i j)
end
noncomputable def DO(A:Nat)(ρ:Rho)(x:D):RM:=match(ρ[0]? :L7 Slot)with
 |some (.rk C r)=>if C=A then .chg x r else .pure .bad
 |_=>.pure .bad
def iR(A:Nat):OutM->RM
 |.rt (.ok x) ρ b=>if b then DO A ρ x else .pure (.ok x)
 |.rt (.ow xs) _ b=>if b then .pure .bad else .pure (.ow xs)
 |.rt _ _ _=>.pure .bad
 |.nx ρ b=>if b then DO A ρ .non else .pure (.ok .non)
 |.ex c b=>if b then .pure .bad else .pure (.ex c)
 |.bad=>.pure .bad
def kJ(A N:Nat)(g:FSM):FM:=λr ds=>iR A (g (.rk A r::(ds.map Slot.sh++ao (N-(ds.length+1)) .no)) qu)
def Ik(tab:L1 (Str×SK.Gl))(A:Nat)(ms:L1 (Str×Nat×FM))(st:Stmt):L7 (Nat×FM):=match st with
 |.FunctionDef _ as b _ _ _ sc _ _ _=>(cT as).bind λps=>if bO (aA sc) ps sc then(mSs 100 A ms ⟨tab,[],sc,aA sc,[]⟩ b).map λg=>(ps.length-1,kJ A (aA sc).length g)else qr
 |_=>qr
def SL.cons{K}{ad}{G H}{ρ}{σ}{s}{ov}(h:SL K ad G H ρ σ)(h0:SLi K ad G H s ov):SL K ad G H (s::ρ) (ov::σ):=
 ⟨by simp[h.len],λi b e=>by
  rcases i with _|i;cases e;exact⟨ov,rfl,h0⟩;exact h.at_ i b e⟩
section
variable{K:Frag}{ad:Ad}{tab:L1 (Str×SK.Gl)}
def Fp{st}{A n:Nat}{ms:L1 (Str×Nat×FM)}(B:ExcK K ad)(TB:dG P w K mg base ad k tab)(RC:RkC K A)(MO: ∀m n M,ms.lookup m=pi (n,M)->(m≠"held"/\m≠"done"/\m≠"undone")/\∃f r fd ps,r<=k/\Meth K A m f/\FnOk P w K mg base (CXe P w) r f fd ps (spM K ad A n M)/\eE K fd ps [])(Fu:Fun K x qual st f fd)(hps:cT (defArgs st)=pi (self::ps))(hd:Ik tab A ms st=pi (n,M)):FnOk P w K mg base (CXe P w) (k+1) f fd (self::ps) (spM K ad A n M):=by
 obtain⟨oc,od,kV,a2,pm,an,a0,ct,a3,rfl,lk,a1⟩:=Fu.ex;cases st with
 |FunctionDef nm as b dl re tp l ts bi a4=>
  have ak:((cT as).bind λps=>if bO (aA l) ps l then(mSs 100 A ms ⟨tab,[],l,aA l,[]⟩ b).map λg=>(ps.length-1,kJ A (aA l).length g)else qr)=pi (n,M):=hd;have al:cT as=pi (self::ps):=hps;rw[al]at ak;have t:(if bO (aA l) (self::ps) l then(mSs 100 A ms ⟨tab,[],l,aA l,[]⟩ b).map λg=>((self::ps).length-1,kJ A (aA l).length g)else qr)=pi (n,M):=ak;by_cases hs:bO (aA l) (self::ps) l=qt;rw[if_pos hs]at t;obtain⟨g,hg,e⟩:=zMd t;cases e;obtain⟨S,nm⟩:=cI hs;refine CH lk a1 S (λvs H Q E ab=>?_) λA' Y s H vs Q E hr ab=>?_;obtain⟨G,p,r,U,d,W,I,q,ws,rfl,_,_,rq,hl,_⟩:=ab;have:=rq.length;simp at hl ⊢;lia;obtain⟨G,p,r,U,d,W,I,q,ws,rfl,hG,hR,rq,hl,J⟩:=ab;let C:SK.Ctx:=⟨tab,[],l,aA l,[]⟩;let X:=jN (CXe P w) P w K mg base (aA l) qual l f a0 A' Y s H E;have O:StOk X ad C:=j0 B TB eY.nil hs hr;have T:DefX X E:=⟨rfl,rfl,rfl,λe s' h=>h⟩;have L:MeOk X ad A ms C (λc o=>E (.ref (ad.cls c)) qr o) E:=⟨O,T,λZ=>lW T,λc H h=>h,RC,λm n M hm=>let ⟨no,f,r,fd,ps,h1,h2,h3,h4⟩:=MO m n M hm;⟨no,f,r,fd,ps,h2,h3,hr.mono h1,h4⟩⟩;refine⟨_,(Fo L 100).2 b g hg,?_⟩;have S0:=hU (X:=X) (ad:=ad) (n:=(aA l).length-(q.length+1)) hG rq;have ar:L2.start (aA l) (V.ref p::ws)=pi (V.ref p)::(ws.map pi++ao ((aA l).length-(q.length+1)) qr):=by
   unfold L2.start;rw[bq,rq.length];rfl
  refine⟨G,p,U,d,W,I,G,.rk A r::(q.map Slot.sh++ao ((aA l).length-(q.length+1)) .no),qu,?_,?_⟩;rw[ar];refine⟨S0.sl.cons ⟨p,U,d,W,I,rfl,hR⟩,hG,rfl,⟨r,I,rfl,hR,.inl rfl⟩,?_,λc hc=>hc,λj sl e=>?_⟩;unfold StB;rw[if_neg bf];exact Step.refl hG;have e':(q.map Slot.sh++ao ((aA l).length-(q.length+1)) Slot.no)[j]? =pi sl:=e;have m:=List.mem_of_getElem? e';rcases k6.mp m with m|m;obtain⟨d',_,rfl⟩:=au.mp m;rfl;rw[(List.mem_replicate.mp m).2];rfl;have i:RMK K ad A G H p U d W I (iR A (g (.rk A r::(q.map Slot.sh++ao ((aA l).length-(q.length+1)) .no)) qu)) Q (λc o=>E (.ref (ad.cls c)) qr o):=J;have ag: ∀(N:Rho) (b:Bool) (y:D),RMK K ad A G H p U d W I (if b then DO A N y else .pure (.ok y)) Q (λc o=>E (.ref (ad.cls c)) qr o)->∀Z u o v,SM X ad A G p U d W I b u o N Z->Rep K ad u y v->Q v o:=λN b y J Z u o v S' rv=>by
   cases b;rw[if_neg bf]at J;have z:=S'.st;unfold StB at z;rw[if_neg bf]at z;exact J v u o z rv;rw[if_pos rfl]at J;obtain⟨r1,ap,f1,f2,f3⟩:=S'.rk;unfold DO at J;rw[f1]at J;have am:RMK K ad A G H p U d W I (if A=A then .chg y r1 else .pure .bad) Q (λc o=>E (.ref (ad.cls c)) qr o):=J;rw[if_pos rfl]at am;exact am v u o ap S'.toR f2 f3 rv
  cases e:g (.rk A r::(q.map Slot.sh++ao ((aA l).length-(q.length+1)) .no)) qu with
  |nx N b=>rw[e]at i;exact λZ u o S'=>ag N b .non i Z u o .non S' (by unfold Rep;rfl)
  |rt y N b=>
   rw[e]at i;cases y with
   |ok y=>exact λZ u o v S' rv=>ag N b y i Z u o v S' rv
   |ow xs=>
    cases b;exact⟨rfl,i⟩;exact i.elim
   |ex c=>exact i.elim
   |bad=>exact i.elim
  |ex c b=>
   rw[e]at i;cases b;exact⟨rfl,i⟩;exact i.elim
  |bad=>rw[e]at i;exact i.elim
  rw[if_neg hs]at t;cases t
 |_=>cases hd
end
def rP(ρ:Rho)(A i:Nat)(M:FM)(fs:L1 F)(k:D->Rho->Out):Out:=match(ρ[i]? :L7 Slot)with
 |some (.rk C r)=>if C=A then(match args fs ρ with
  |.ok ds=>(match M r ds with
   |.pure x=>fC ρ x λd=>k d ρ
   |.chg x r'=>k x (ρ.set i (.rk A r')))
  |.ex c=>.ex c ρ
  |.bad=>.rt .bad)else .rt .bad
 |_=>.rt .bad
def Il(A i:Nat)(M:FM)(fs:L1 F):FS:=λρ=>rP ρ A i M fs λ_ ρ'=>.nx ρ'
section
variable{X:Cx}{ad:Ad}{σ:St}{G₀ G H G1 H1:Hp}{ρ:Rho}{A i:Nat}{r r':Rk}{p0 dx d l1 l2 l2':Addr}
def RackIn.stepR{K}{r}{qx qd q1 q2}(h:RackIn K ad C G H q r qx qd q1 q2)(t:StepR foot G H G1 H1)(dis: ∀a∈[q,qx,qd,q1,q2],a∉foot):RackIn K ad C G1 H1 q r qx qd q1 q2:=by
 obtain⟨kvs,e,j⟩:=h.held;obtain⟨l,d,n⟩:=h.done;obtain⟨m,f,i⟩:=h.undone;have c: ∀{b:Addr} {o:HO},G b=qr->H b=pi o->G1 b=qr:=λ{b o} g hb=>by
  rcases z:G1 b with _|u;rfl;have:=t.nw b g (by rw[z];exact λy=>nomatch y);rw[hb]at this;cases this
 exact⟨t.sh _ _ (dis _ (by simp)) h.ins,t.sh _ _ (dis _ (by simp)) h.own,⟨kvs,t.sh _ _ (dis _ (by simp)) e,j.mono t.sg⟩,⟨l,t.sh _ _ (dis _ (by simp)) d,n.mono t.sg⟩,⟨m,t.sh _ _ (dis _ (by simp)) f,i.mono t.sg⟩,h.ne,
  c h.gp h.ins,c h.gx h.own,c h.gd e,c h.g1 d,c h.g2 f⟩
def SS.updR(S:SS X ad G₀ G H ρ σ)(e:ρ[i]? =pi (.rk A r))(h1:σ[i]? =pi (pi (.ref p0)))(hR:RackIn X.K ad A G H p0 r dx d l1 l2)(t:StepR [p0,dx,d,l1,l2] G H G1 H1)(hR':RackIn X.K ad A G1 H1 p0 r' dx d l1 l2')(h3:l2'=l2\/H l2'=qr):
  SS X ad G₀ G1 H1 (ρ.set i (.rk A r')) σ:=by
 have hl:i<ρ.length:=(ay.mp e).1;have Y:g9 H ρ σ i [p0,dx,d,l1,l2]:=⟨A,r,p0,dx,d,l1,l2,e,h1,hR.ins,rfl⟩;have f0:=S.rs.h0 i _ Y;have L:=S.rs.ow i _ Y;have a0:=Y.at S.sl
 have E: ∀c,H c=qr->X.H₀ c=qr:=λc hc=>S.st.sh.free hc
 have I: ∀(j:Nat) (sl:Slot),(ρ.set i (.rk A r'))[j]? =pi sl->(j=i/\sl= .rk A r')\/(j≠i/\ρ[j]? =pi sl):=λj sl e=>by
  by_cases z:j=i
  .subst z;rw[bj hl]at e;cases e;exact .inl ⟨rfl,rfl⟩
  .rw[bc (qq z)]at e;exact .inr ⟨z,e⟩
 have gn: ∀{b:Addr} {o:HO},G b=qr->H b=pi o->G1 b=qr:=λ{b o} g hb=>by
  cases z:G1 b with
  |none=>rfl
  |some u=>
   have:=t.nw b g (by rw[z];exact λy=>nomatch y)
   rw[hb]at this;cases this
 have ab: ∀{j:Nat} {h:L1 Addr},j≠i->g9 H ρ σ j h->∀a∈h,a∉[p0,dx,d,l1,l2]:=λ{j h} l f a n hm=>l (S.rs.rr j i h _ a f Y n hm)
 have bk: ∀{j:Nat} {h:L1 Addr},j≠i->g9 H1 (ρ.set i (.rk A r')) σ j h->g9 H ρ σ j h:=λ{j h} l f=>by
  obtain⟨C,r2,q,qx,qd,q1,B,Q,W,f3,f4⟩:=f;rw[bc (qq l)]at Q;obtain⟨q',ag,ak,al,ap,Z,M⟩:=S.sl.rk Q;rw[W]at Z;cases Z;have fo:g9 H ρ σ j [q,ag,ak,al,ap]:=⟨C,r2,q,ag,ak,al,ap,Q,W,M.ins,rfl⟩
  have:=t.sh _ _ (ab l fo q (by simp)) M.ins
  rw[f3]at this;cases this;exact⟨C,r2,q,qx,qd,q1,B,Q,W,M.ins,f4⟩
 have bi: ∀{h:L1 Addr},g9 H1 (ρ.set i (.rk A r')) σ i h->h=[p0,dx,d,l1,l2']:=λ{h} f=>by
  obtain⟨C,r2,q,qx,qd,q1,B,Q,W,f3,f4⟩:=f;rw[h1]at W;cases W;rw[bj hl]at Q;cases Q;rw[hR'.ins]at f3;cases f3;exact f4
 have s: ∀a∈[p0,dx,d,l1,l2'],a∈[p0,dx,d,l1,l2]\/H a=qr:=λa n=>by
  simp only[av,ki,or_false]at n ⊢;rcases n with z|z|z|z|z
  .exact .inl (.inl z)
  .exact .inl (.inr (.inl z))
  .exact .inl (.inr (.inr (.inl z)))
  .exact .inl (.inr (.inr (.inr (.inl z))))
  .rcases h3 with y|y
   .exact .inl (.inr (.inr (.inr (.inr (z.trans y)))))
   .exact .inr (by rw[z];exact y)
 refine⟨⟨S.st.sg.trans t.sg,t.gh,λb o hb=>t.sh b o (λm=>by rw[f0 b m]at hb;cases hb) (S.st.sh b o hb),λb Z M=>?_⟩,⟨by rw[lg];exact S.sl.len,λj sl p=>?_⟩,λj sl a p w hj=>?_,λj O sl an a p T w w' hj ar=>?_,⟨λj h f a n=>?_,λj h f a n k sl ek w hk=>?_,λj O h am a f f' n J=>?_⟩⟩
 .cases q:G b with
  |none=>exact E b (t.nw b q M)
  |some o=>exact S.st.nw b Z (by rw[q];exact λy=>nomatch y)
 .rcases I j sl p with ⟨rfl,rfl⟩|⟨l,p⟩
  .exact⟨_,h1,p0,dx,d,l1,l2',rfl,hR'⟩
  .obtain⟨ov,k1,k2⟩:=S.sl.at_ j sl p;refine⟨ov,k1,?_⟩
   cases sl with
   |no=>trivial
   |sh y=>
    obtain⟨v,q1,B⟩:=k2;exact⟨v,q1,B.mono t.sg⟩
   |ow xs=>
    obtain⟨a,vs,q1,B,N,q4⟩:=k2;subst q1;exact⟨a,vs,rfl,gn B N,t.sh _ _ (λm=>L a m j _ p rfl k1) N,q4.mono t.sg⟩
   |dc kvs=>
    obtain⟨a,vs,q1,B,N,q4,q5⟩:=k2;subst q1;exact⟨a,vs,rfl,gn B N,t.sh _ _ (λm=>L a m j _ p rfl k1) N,q4.mono t.sg,q5⟩
   |sd kvs=>
    obtain⟨a,vs,q1,B,N,q4,q5⟩:=k2;subst q1;exact⟨a,vs,rfl,gn B N,t.sh _ _ (λm=>L a m j _ p rfl k1) N,q4.mono t.sg,q5⟩
   |rk C r2=>
    obtain⟨q,qx,qd,q1,B,Z,M⟩:=k2;subst Z;exact⟨q,qx,qd,q1,B,rfl,M.stepR t (ab l ⟨C,r2,q,qx,qd,q1,B,p,k1,M.ins,rfl⟩)⟩
 .rcases I j sl p with ⟨rfl,rfl⟩|⟨l,p⟩
  .cases w
  .exact S.ow j sl a p w hj
 .rcases I j sl p with ⟨rfl,rfl⟩|⟨l,p⟩
  .cases w
  .rcases I O an T with ⟨rfl,rfl⟩|⟨x,T⟩
   .cases w'
   .exact S.dj j O sl an a p T w w' hj ar
 .by_cases l:j=i
  .subst l;rw[bi f]at n;rcases s a n with z|z
   .exact f0 a z
   .exact E a z
  .exact S.rs.h0 j h (bk l f) a n
 .rcases I k sl ek with ⟨rfl,rfl⟩|⟨nk,U⟩
  .cases w
  .by_cases l:j=i
   .subst l;rw[bi f]at n;rcases s a n with z|z
    .exact L a z k sl U w hk
    .exact(S.sl.own_at U w hk).2 z
   .exact S.rs.ow j h (bk l f) a n k sl U w hk
 .by_cases l:j=i
  .by_cases x:O=i
   .rw[l,x]
   .subst l;rw[bi f]at n;have fb:=bk x f';rcases s a n with z|z
    .exact S.rs.rr j O _ am a Y fb z J
    .exact absurd z (fb.at S.sl a J).2
  .by_cases x:O=i
   .subst x;rw[bi f']at J;have fb:=bk l f;rcases s a J with z|z
    .exact S.rs.rr j O h _ a fb Y n z
    .exact absurd z (fb.at S.sl a n).2
   .exact S.rs.rr j O h am a (bk l f) (bk x f') n J
end
section
variable{X:Cx}{ad:Ad}{Z:(St->Nat->Hp->Prop)->Prop}{σ:St}{G₀ G H G1 H1:Hp}{ρ:Rho}{D':Ends}{E:St->Nat->Hp->Prop}{A i:Nat}{M:FM}{fs:L1 F}
def L8(S:SS X ad G₀ G H ρ σ)(hx:XA X ad Z E){k}{Q'}(hr:OKo X ad G₀ (rP ρ A i M fs k) D' E)
  (q: ∀v y G1 H1 ρ1,SS X ad G₀ G1 H1 ρ1 σ->Rep X.K ad G1 y v->OKo X ad G₀ (k y ρ1) D' E->Q' v H1):AZ X ad A i M fs σ H Q':=by
 unfold rP at hr;cases e:(ρ[i]? :L7 Slot)with
 |none=>rw[e]at hr;exact hr.elim
 |some sl=>
  rw[e]at hr;rcases sl with _|_|_|_|_|⟨C,r⟩;exact hr.elim;exact hr.elim;exact hr.elim;exact hr.elim;exact hr.elim;have b:OKo X ad G₀ (if C=A then(match args fs ρ with
   |.ok j=>(match M r j with
    |.pure x=>fC ρ x λd=>k d ρ
    |.chg x m=>k x (ρ.set i (.rk A m)))
   |.ex c=>.ex c ρ
   |.bad=>.rt .bad)else .rt .bad) D' E:=hr
  by_cases p:C=A;rw[if_pos p]at b;subst p;obtain⟨W,dx,d,l1,Y,I,J⟩:=S.sl.rk e;refine⟨G,ρ,E σ,r,W,dx,d,l1,Y,S.st.gh,S.sl,hx.1 σ,I,J,G,ρ,E σ,S.st.gh,S.sl,hx.1 σ,?_⟩;rcases n:args fs ρ with j|c|_;rw[n]at b;intro vs G1 H1 st L;refine⟨j,G1,st,L,fH n,?_⟩;have l:=S.step st;have s:=J.step st;have f:OKo X ad G₀ (match M r j with
   |.pure x=>fC ρ x λd=>k d ρ
   |.chg x m=>k x (ρ.set i (.rk C m))) D' E:=b
  rcases B:M r j with y|⟨y,m⟩;rw[B]at f;rcases y with y|xs|c|_;exact λv h g st2 z=>q v y h g ρ (l.step st2) z f;intro a ws h g st2 n2 m2 O u;obtain⟨T,o,U⟩:=dW (X:=X) (ad:=ad) st2 n2 m2 O u;exact q _ _ T g ρ (l.step o) U f;exact λh g st2=>f σ h g (l.step st2);exact f.elim;rw[B]at f;exact λv h g Q t w N z=>q v y h g _ (l.updR e I s t w N) z f;rw[n]at b;exact λG1 H1 st=>b σ G1 H1 (S.step st);rw[n]at b;exact b.elim;rw[if_neg p]at b;exact b.elim
end
noncomputable def rk0:Rk:=⟨[],[],[]⟩
def spI(K:Frag)(ad:Ad)(A:Nat):Sp:=λvs H Q _=>∃p dx G,vs=[V.ref p]/\Same G H/\G p=qr/\G dx=qr/\dx≠p/\H p=pi (.ins A dx [])/\H dx=pi (.own p)/\
 ∀d l1 l2 H',H d=qr->H l1=qr->H l2=qr->RackIn K ad A G H' p rk0 dx d l1 l2->(∀b o,b≠p->H b=pi o->H' b=pi o)->Q .non H'
structure Ini(X:Cx)(A:Nat)(x:Str):Prop where
 RC:RkC X.K A
 hN:X.N[0]? =pi x
 hv:Vis X.env.scope x
 hd:(x==gV)=qu
 hcd:(x==hZ)=qu
noncomputable def Qm(x:Str)(n1 q1 a1 n2 q2 a2 n3 q3 a3 e1 e2 e3:Pos):L1 Stmt:=
 [.Assign [.Attribute (.Name x n1) "held" q1] (.Dict [] [] e1) a1,.Assign [.Attribute (.Name x n2) "done" q2] (.List [] e2) a2,.Assign [.Attribute (.Name x n3) "undone" q3] (.List [] e3) a3]
section
variable{ad:Ad}{q1:Pos}
def Bi(L:Ini X A x){σ:St}(me:σ[0]? =pi (pi (.ref p)))(hG:Same G H)(gp:G p=qr)(gx:G dx=qr)(ne:dx≠p)(hp:H p=pi (.ins A dx []))(hx:H dx=pi (.own p))(q: ∀d l1 l2 H',H d=qr->H l1=qr->H l2=qr->RackIn X.K ad A G H' p rk0 dx d l1 l2->(∀b o,b≠p->H b=pi o->H' b=pi o)->Q .non H'):
  ∃t,PSs X (Qm x n1 q1 a1 n2 q2 a2 n3 q3 a3 e1 e2 e3) t/\t {nx:=λ_ H'=>Q .non H',rt:=Q} σ H:=by
 have nm: ∀m:Pos,PE X (.Name x m) (JA 0):=λm=>y0 L.hN L.hv L.hd L.hcd;refine⟨_,kM (vD (nm n1) vQ rfl) (kM (vD (nm n2) (vE dR) rfl) (n6 (vD (nm n3) (vE dR) rfl))),?_⟩;intro d g;have i:d≠p:=λz=>by rw[z,hp]at g;cases g
 have dd:dx≠d:=λz=>by rw[<-z,hx]at g;cases g
 have l:upd H d (.dK []) p=pi (.ins A dx []):=by rw[aD (qq i)];exact hp
 refine⟨.ref p,me,p,A,dx,_,rfl,l,L.RC.cl,L.RC.n1,by show 0<1000;decide,?_⟩;refine⟨bu _,λl1 n1=>?_⟩;have lp:l1≠p:=λz=>by rw[z,aH]at n1;cases n1
 have r:l1≠d:=λz=>by rw[aD lp,z,aH]at n1;cases n1
 have f:H l1=qr:=by rw[aD lp,aD r]at n1;exact n1
 have u:dx≠l1:=λz=>by rw[<-z,hx]at f;cases f
 refine⟨.ref p,me,p,A,dx,[(("held":Str),V.ref d)],rfl,by rw[aD (qq lp),aH];rfl,L.RC.cl,L.RC.n2,by show 1<1000;decide,?_⟩;refine⟨bu _,λl2 n2=>?_⟩;have h:l2≠p:=λz=>by rw[z,aH]at n2;cases n2
 have ml:l2≠l1:=λz=>by rw[aD h,z,aH]at n2;cases n2
 have n:l2≠d:=λz=>by rw[aD h,aD ml,aD h,z,aH]at n2;cases n2
 have c:H l2=qr:=by rw[aD h,aD ml,aD h,aD n]at n2;exact n2
 have s:dx≠l2:=λz=>by rw[<-z,hx]at c;cases c
 refine⟨.ref p,me,p,A,dx,[(("held":Str),V.ref d),("done",V.ref l1)],rfl,by rw[aD (qq h),aH];rfl,L.RC.cl,L.RC.n3,by show 2<1000;decide,?_⟩;refine q d l1 l2 _ g f c ⟨by rw[aH];rfl,?_,⟨[],?_,.nil⟩,⟨[],?_,aI.nil⟩,⟨[],?_,aI.nil⟩,qq ml,gp,gx,hG.free g,hG.free f,hG.free c⟩ λb o j e=>?_;rw[aD ne,aD s,aD ne,aD u,aD ne,aD dd];exact hx;rw[aD i,aD (qq n),aD i,aD (qq r),aD i,aH];rw[aD lp,aD (qq ml),aD lp,aH];rw[aD h,aH];rw[aD j,aD (aQ e c),aD j,aD (aQ e f),aD j,aD (aQ e g)];exact e
end
section
variable{X:Cx}{ad:Ad}{A:Nat}
def SS.setR2(S:SS X ad G₀ G H ρ σ)(st:Step G H G1 H1)(hR:RackIn X.K ad A G1 H1 p r dx d l1 l2)(nw: ∀a∈[p,dx,d,l1,l2],H a=qr):SS X ad G₀ G1 H1 (ρ.set i (.rk A r)) (σ.set i (pi (.ref p))):=by
 have s1:=st.sh;have Q:=S.step st;have g: ∀(j:Nat) (sl:Slot),(ρ.set i (.rk A r))[j]? =pi sl->(j=i/\sl= .rk A r/\i<ρ.length)\/(j≠i/\ρ[j]? =pi sl):=λj sl e=>by
  by_cases z:j=i;subst z;have u:j<ρ.length:=by have:=(ay.mp e).1;rwa [lg]at this
  rw[bj u]at e;cases e;exact .inl ⟨rfl,rfl,u⟩;rw[bc (qq z)]at e;exact .inr ⟨z,e⟩
 have o: ∀{j:Nat},j≠i->(σ.set i (pi (V.ref p)))[j]? =σ[j]? :=λ{j} z=>bc (qq z);have bk: ∀{j:Nat} {b:L1 Addr},j≠i->g9 H1 (ρ.set i (.rk A r)) (σ.set i (pi (.ref p))) j b->g9 H ρ σ j b:=λ{j b} m f=>by
  obtain⟨C,Y,q,Z,W,q1,T,I,y,J,M⟩:=f;rw[bc (qq m)]at I y;exact g9.back S.sl s1 ⟨C,Y,q,Z,W,q1,T,I,y,J,M⟩
 have E: ∀{b:L1 Addr},g9 H1 (ρ.set i (.rk A r)) (σ.set i (pi (.ref p))) i b->b=[p,dx,d,l1,l2]:=λ{b} f=>by
  obtain⟨C,Y,q,Z,W,q1,T,I,y,J,M⟩:=f;rcases g i _ I with ⟨_,z,u⟩|⟨z,_⟩;cases z;rw[bj (by rw[<-S.sl.len];exact u)]at y;cases y;rw[hR.ins]at J;cases J;exact M;exact absurd rfl z
 have t: ∀c,H c=qr->X.H₀ c=qr:=λc hc=>S.st.sh.free hc;refine⟨Q.st,⟨by rw[lg,lg];exact S.sl.len,λj sl e=>?_⟩,λj sl a e w h=>?_,λj v sl x a e O w U h h'=>?_,⟨λj b f a l=>?_,λj b f a l k sl ek w hk=>?_,λj v b N a f L l s=>?_⟩⟩;rcases g j sl e with ⟨rfl,rfl,u⟩|⟨z,e⟩;exact⟨pi (.ref p),bj (by rw[<-S.sl.len];exact u),p,dx,d,l1,l2,rfl,hR⟩;obtain⟨ov,h1,h2⟩:=Q.sl.at_ j sl e;exact⟨ov,by rw[o z];exact h1,h2⟩;rcases g j sl e with ⟨_,rfl,_⟩|⟨z,e⟩;cases w;rw[o z]at h;exact S.ow j sl a e w h;rcases g j sl e with ⟨_,rfl,_⟩|⟨z,e⟩;cases w;rcases g v x O with ⟨_,rfl,_⟩|⟨z',O⟩;cases U;rw[o z]at h;rw[o z']at h';exact S.dj j v sl x a e O w U h h';by_cases m:j=i;subst m;rw[E f]at l;exact t a (nw a l);exact S.rs.h0 j b (bk m f) a l;rcases g k sl ek with ⟨_,rfl,_⟩|⟨z,B⟩;cases w;rw[o z]at hk;by_cases m:j=i;rw[m]at f;rw[E f]at l;exact(S.sl.own_at B w hk).2 (nw a l);exact S.rs.ow j b (bk m f) a l k sl B w hk;by_cases m:j=i;by_cases n:v=i;rw[m,n];rw[m]at f;rw[E f]at l;exact absurd (nw a l) ((bk n L).at S.sl a s).2;by_cases n:v=i;rw[n]at L;rw[E L]at s;exact absurd (nw a s) ((bk m f).at S.sl a l).2;exact S.rs.rr j v b N a (bk m f) (bk n L) l s
structure MkOk(X:Cx)(ad:Ad)(A:Addr):Prop where
 ok: ∃f k fd ps,Mk X.K A f/\FnOk X.prog X.w X.K X.mg X.base (CXe X.prog X.w) k f fd ps (spI X.K ad A)/\Room (k+1) X.A/\eE X.K fd ps []
end
abbrev FC:=Rho->(Bool->Rho->Out)->Out
noncomputable def Qn(d:D)(k:Bool->Out):Out:=match d with
 |.bl b=>k b
 |_=>.rt .bad
def Im(f:F):FC:=λρ k=>fC ρ (f ρ) λd=>Qn d λb=>k b ρ
noncomputable def O0(c:FC)(g h:FS):FS:=λρ=>c ρ λb ρ1=>if b then g ρ1 else h ρ1
def tTx(X:Cx)(ad:Ad)(Z:(St->Nat->Hp->Prop)->Prop)(c:FC):TT:=λσ H Q=>∃G₀ G ρ D' E k,SS X ad G₀ G H ρ σ/\XA X ad Z E/\OKo X ad G₀ (c ρ k) D' E/\∀b ρ1 G1 H1,SS X ad G₀ G1 H1 ρ1 σ->OKo X ad G₀ (k b ρ1) D' E->Q b H1
def Mb(X:Cx)(ad:Ad)(op:CmpOp):R2:=λx y H Q=>∃G d1 d2 E,Same G H/\Rep X.K ad G d1 x/\Rep X.K ad G d2 y/\RK X.K ad G H (fK op d1 d2) Q E
section
variable{X:Cx}{ad:Ad}
def Bj(hu:X.A.units+62<cLine):OpR X (compareOp op) (Mb X ad op):=by intro e s g H x y v u Q I d j h;obtain⟨G,l,f,E,i,m,c,b⟩:=h;exact jU op hu e s g H G l f x y v u Q E I i m c d j b
def Mc{G₀ G H}{ρ}{σ}{D'}{E}{k:Bool->Rho->Out}{Q:Bool->Hp->Prop}{r}(S:SS X ad G₀ G H ρ σ)(hr:OKo X ad G₀ (fC ρ r λz=>Qn z λb=>k b ρ) D' E)(q: ∀b ρ1 G1 H1,SS X ad G₀ G1 H1 ρ1 σ->OKo X ad G₀ (k b ρ1) D' E->Q b H1):
  RK X.K ad G H r (λv H'=>∃b,v= .bl b/\Q b H') (E σ)/\lO r:=by
 rcases r with d|g|c|_;cases d with
 |bl b=>
  refine⟨λv G1 H1 e f=>?_,.inl ⟨b,rfl⟩⟩;unfold Rep at f;exact⟨b,f,q b ρ G1 H1 (S.step e) hr⟩
 |_=>exact hr.elim
 exact hr.elim;exact⟨λG1 H1 e=>hr σ G1 H1 (S.step e),.inr ⟨c,rfl⟩⟩;exact hr.elim
def Me(S:SS X ad G₀ G H ρ σ)(hx:XA X ad Z E)(hr:OKo X ad G₀ (dM f ρ) D' E):tE X ad f σ H D'.rt:=by refine⟨G,ρ,E σ,S.st.gh,S.sl,hx.1 σ,?_⟩;unfold dM at hr;rcases e:f ρ with d|j|c|_;rw[e]at hr;exact λv g b st r=>hr v g b (S.st.trans st) r;rw[e]at hr;exact λp h g b st n m i r=>hr p h g b (S.st.trans st) (S.st.sh.free n) m i r;rw[e]at hr;exact λg b st=>hr σ g b (S.step st);rw[e]at hr;exact hr
end
section
variable{P:Program}{w:World}{K:Frag}{mg:Str->L7 Value}{base h:Heap}{ad:Ad}{k:Nat}{tab:L1 (Str×SK.Gl)}{fns:L1 (Nat×Fn)}
structure PQ(P:Program)(w:World)(K:Frag)(mg:Str->Option Value)(base h:Heap)(ad:Ad)(k:Nat)(tab:List (Str×SK.Gl))(fns:List (Nat×Fn)):Prop where
 t:dG P w K mg base ad k tab
 u:eY P w K mg base ad k fns
 X:K.In h
 G:h.Ns mainGlobals mg
 B:ExcK K ad
theorem w5: ∀{ps:L1 Str} {us:L1 Value},ps.Nodup->us.length=ps.length->(∀n∈ps,((ps.zip us).lookup n).isNone=qu)/\ps.filterMap (λn=>((ps.zip us).lookup n).map (n,·))=ps.zip us
 |[],[],_,_=>⟨(λn m=>nomatch m),rfl⟩
 |p::ps,u::us,nd,hl=>by
  obtain⟨e,f⟩:=la.1 nd;obtain⟨a,b⟩:=w5 (ps:=ps) (us:=us) f (by simpa using hl);have d:((p::ps).zip (u::us)).lookup p=pi u:=by simp[kg]
  have c: ∀n∈ps,((p::ps).zip (u::us)).lookup n=(ps.zip us).lookup n:=λn m=>by
   have:(n==p)=qu:=by
    rcases h:n==p with _|_;rfl;rw[eq_of_beq h]at m;exact absurd m e
   simp[kg,this]
  refine⟨λn m=>?_,?_⟩;rcases av.1 m with rfl|m;rw[d];rfl;rw[c n m];exact a n m;rw[ic,d,wJ λn m=>by rw[c n m],b];rfl
 |[],_::_,_,h=>by cases h
 |_::_,[],_,h=>by cases h
def hW(h:cT as=pi ps)(nd:ps.Nodup){kV doc pm cdv ct}(hl:us.length=ps.length):bindArgs (oj x q as body scope .none kV doc pm an cdv ct) ⟨us,[]⟩=pure (ps.zip us):=by
 unfold cT at h;split at h;rename_i f;obtain⟨r,b,t,o,u,s,p⟩:=as;simp only[aw,ko,Option.isNone_iff_eq_none]at f;obtain⟨⟨⟨⟨rfl,rfl⟩,rfl⟩,rfl⟩,rfl⟩:=f;cases h;obtain⟨i,e⟩:=w5 nd hl;have c:us.length=b.length:=by simpa using hl
 have g:(List.filter (λn=>(((b.map (·.arg)).zip us).lookup n).isNone) (b.map (·.arg)))=[]:=List.filter_eq_nil_iff.2 λn m=>by rw[i n m];decide
 unfold bindArgs oj;simp only[om,lh,k7,aq];have l:seqItems? (pc)=pure qr:=rfl;simp only at e g;rw[List.filterMap_map]at e;have j:(List.drop ((#[]:Array Value).size-b.length) ([]:L1 Value)).length=0:=by simp
 have d:List.take b.length (b.map (·.arg))=b.map (·.arg):=f7 (by simp);simp[l,c];refine(if_neg ?_).trans ?_;rw[j,Nat.sub_zero,d,g];decide;rw[e];cases h
theorem PQ.cons(T:PQ P w K mg base h ad k tab fns){x}{f}{fd}{ps}{n r}{M}(hr:k<=r)(ok:FnOk P w K mg base (CXe P w) r f fd ps (yC K ad n M))(hb:eE K fd ps [])(kp:keepIn K (.ref f)=qt)(hm:mg x=pi (.ref f))(hj:f=ad.fnA fns.length)(hdb:(x==gV)=qu):
  PQ P w K mg base h ad r ((x,.fn fns.length n M)::tab) (fns++[(n,M)]):=
 ⟨dG.cons (T.t.mono hr) hdb ⟨r,f,aj _,hm,kp,⟨_,_,ok,hb⟩,hj⟩,eY.snoc T.u hr rfl hj (aj _) kp ok hb,T.X,T.G,T.B⟩
def PQ.addV(T:PQ P w K mg base h ad k tab fns)(x:Str)(st:Stmt)(f:Addr)(ps:L1 Str)(n:Nat)(M:Fn){oc:Value}{od an:L7 Addr}{osl:Array (L7 Value)}{kV doc pm cdv ct:Value}(l:K.lookup f=pi ⟨oc,od,.func (oj x x (defArgs st) (defBody st) (defScope st) .none kV doc pm an cdv ct),osl⟩)
  (fns':L1 (Nat×Fn)) (hf:fns'=fns\/fns'=[]) (d:Gv tab fns' st=pi (n,M):=by kernel_rfl) (c:codeIn K cdv x=qt:=by kernel_rfl) (kp:keepIn K (.ref f)=qt:=by kernel_rfl) (hm:nsIn K mainGlobals x=pi (pi (.ref f)):=by kernel_rfl) (hj:f=ad.fnA fns.length:=by rfl)
  (hdb:(x==gV)=qu:=by decide) (hps:cT (defArgs st)=pi ps:=by rfl) (nd:ps.Nodup:=by decide):
  PQ P w K mg base h ad (k+1) ((x,.fn fns.length n M)::tab) (fns++[(n,M)]):=by
 have F:=lH (st:=st) l c kp;refine T.cons (o3 _) (LN (ps:=ps) T.B T.t ?_ F hps d) (F.binds λ_ _ _ _ _ _ e b=>hW hps nd b) kp (nj T.X T.G hm) hj hdb
 rcases hf with rfl|rfl
 .exact T.u
 .exact eY.nil
def PQ.add(T:PQ P w K mg base h ad k tab fns)(x:Str)(st:Stmt)(f:Addr)(ps:L1 Str)(n:Nat)(M:Fn){oc:Value}{od an:L7 Addr}{osl:Array (L7 Value)}{kV doc pm cdv ct:Value}(l:K.lookup f=pi ⟨oc,od,.func (oj x x (defArgs st) (defBody st) (defScope st) .none kV doc pm an cdv ct),osl⟩)
  (d:Gv tab [] st=pi (n,M):=by kernel_rfl) (c:codeIn K cdv x=qt:=by kernel_rfl) (kp:keepIn K (.ref f)=qt:=by kernel_rfl) (hm:nsIn K mainGlobals x=pi (pi (.ref f)):=by kernel_rfl) (hj:f=ad.fnA fns.length:=by rfl)
  (hdb:(x==gV)=qu:=by decide) (hps:cT (defArgs st)=pi ps:=by rfl) (nd:ps.Nodup:=by decide):
  PQ P w K mg base h ad (k+1) ((x,.fn fns.length n M)::tab) (fns++[(n,M)]):=T.addV x st f ps n M l [] (.inr rfl) d c kp hm hj hdb hps nd
theorem PQ.py(T:PQ P w K mg base h ad 0 tab [])(p:Py)(hm:nsIn K mainGlobals (d6 p)=pi qr:=by kernel_rfl)(hdb:(d6 p==gV)=qu:=by decide):PQ P w K mg base h ad 0 ((d6 p,.py p)::tab) []:=⟨dG.cons T.t hdb ⟨rfl,PySem.W.mg_none_of T.X T.G hm⟩,T.u,T.X,T.G,T.B⟩
theorem PQ.verr(T:PQ P w K mg base h ad 0 tab [])(hm:nsIn K mainGlobals "ValueError"=pi qr:=by kernel_rfl):PQ P w K mg base h ad 0 (("ValueError",.verr)::tab) []:=⟨dG.cons T.t rfl ⟨rfl,PySem.W.mg_none_of T.X T.G hm⟩,T.u,T.X,T.G,T.B⟩
theorem PQ.exc(T:PQ P w K mg base h ad 0 tab [])(x:Str)(c:Nat)(hm:nsIn K mainGlobals x=pi (pi (.ref (ad.cls c))):=by kernel_rfl)(hc:c<ad.nb:=by decide)(hdb:(x==gV)=qu:=by decide):PQ P w K mg base h ad 0 ((x,.exc c)::tab) []:=⟨dG.cons T.t hdb ⟨nj T.X T.G hm,hc⟩,T.u,T.X,T.G,T.B⟩
theorem PQ.int(T:PQ P w K mg base h ad 0 tab [])(x:Str)(i:Int)(t:Tok)(hm:nsIn K mainGlobals x=pi (pi (.int i t)):=by kernel_rfl)(hdb:(x==gV)=qu:=by decide):PQ P w K mg base h ad 0 ((x,.val (.int i))::tab) []:=⟨dG.cons T.t hdb ⟨.int i t,.int i,nj T.X T.G hm,⟨_,rfl⟩,λG=>by unfold Rep;rfl⟩,T.u,T.X,T.G,T.B⟩
theorem PQ.val(T:PQ P w K mg base h ad 0 tab [])(x:Str){d:D}{u:Value}{v:V}(hv:bH v u)(hr: ∀G,Rep K ad G d v)(hm:nsIn K mainGlobals x=pi (pi u):=by kernel_rfl)(hdb:(x==gV)=qu:=by decide):PQ P w K mg base h ad 0 ((x,.val d)::tab) []:=⟨dG.cons T.t hdb ⟨u,v,nj T.X T.G hm,hv,hr⟩,T.u,T.X,T.G,T.B⟩
theorem PQ.tbl(T:PQ P w K mg base h ad 0 tab [])(x:Str)(A:Addr){kvs:L1 (Str×D)}(hF:AO P w K ad A kvs)(hm:nsIn K mainGlobals x=pi (pi (.ref A)):=by kernel_rfl)(hdb:(x==gV)=qu:=by decide):PQ P w K mg base h ad 0 ((x,.tbl kvs)::tab) []:=⟨dG.cons T.t hdb ⟨A,nj T.X T.G hm,hF⟩,T.u,T.X,T.G,T.B⟩
theorem PQ.nil(X:K.In h)(G:h.Ns mainGlobals mg)(B:ExcK K ad):PQ P w K mg base h ad 0 [] []:=⟨dG.nil,eY.nil,X,G,B⟩
end
section
variable{P:Program}{w:World}{K:Frag}{mg:Str->L7 Value}{base h:Heap}{ad:Ad}{k:Nat}{tab:L1 (Str×SK.Gl)}{fns:L1 (Nat×Fn)}
def Fr{st}{A:Nat}(RC:RkC K A)(Fu:Fun K x qual st f fd)(hs:bO (aA (defScope st)) [self] (defScope st)=qt)(hb: ∃n1 q1 a1 n2 q2 a2 n3 q3 a3 e1 e2 e3,defBody st=Qm self n1 q1 a1 n2 q2 a2 n3 q3 a3 e1 e2 e3):FnOk P w K mg base (CXe P w) (k+1) f fd [self] (spI K ad A):=by
 obtain⟨M,N,kV,o,J,I,v,ct,t,rfl,lk,g⟩:=Fu.ex;obtain⟨S,nm⟩:=cI hs;obtain⟨n1,q1,a1,n2,q2,a2,n3,q3,a3,e1,e2,e3,d⟩:=hb;have h:(aA (defScope st))[0]? =pi self:=by
  have:=S.pre;cases e:aA (defScope st)with
  |nil=>rw[e]at this;cases this
  |cons y O=>rw[e]at this;cases this;rfl
 have i:self∈aA (defScope st):=List.mem_of_getElem? h;refine CH lk g S (λl H Q E b=>?_) λC c s H l Q E L b=>?_;obtain⟨p,dx,G,rfl,_⟩:=b;rfl;obtain⟨p,dx,G,rfl,r,u,m,q,n,j,B⟩:=b;rw[d];refine Bi ⟨RC,h,(S.par self (.head _)).elim .inl λz=>.inr (.inl z),(nm _ i).1,(nm _ i).2⟩ (p:=p) (dx:=dx) (G:=G) ?_ r u m q n j B;unfold L2.start;rfl
def eY.mono(h:eY P w K mg base ad k fns)(hk:k<=k'):eY P w K mg base ad k' fns:=λj n F e=>let ⟨r,h1,h2⟩:=h j n F e;⟨r,ny h1 hk,h2⟩
def Bk(h1:jz K A qf=qt)(h2:jf K A=qt)(h3:jg K A=qt)(h4:l4 K (.ref A) "__setattr__"=pi (pi (.builtin "object.__setattr__")))(h5:l4 K (.ref A) "held"=pi qr)(h6:l4 K (.ref A) "done"=pi qr)(h7:l4 K (.ref A) "undone"=pi qr):RkC K A:=⟨⟨h1,h2,h3,h4⟩,h5,h6,h7⟩
def PQ.rack(T:PQ P w K mg base h ad k tab fns)(A:Addr)(c:RkC K A)(hm:nsIn K mainGlobals "Rack"=pi (pi (.ref A)):=by kernel_rfl):PQ P w K mg base h ad k (("Rack",.cls A [])::tab) fns:=
 ⟨dG.cons T.t rfl ⟨nj T.X T.G hm,c,λ_ _ _ e=>by cases e⟩,T.u,T.X,T.G,T.B⟩
def PQ.met(T:PQ P w K mg base h ad k tab fns)(m qual:Str)(st:Stmt)(f:Addr)(self:Str)(ps:L1 Str)(n:Nat)(M:FM){A:Addr}{ms:L1 (Str×Nat×FM)}{oc:Value}{od an:L7 Addr}{osl:Array (L7 Value)}{kV doc pm cdv ct:Value}(l:K.lookup f=pi ⟨oc,od,.func (oj m qual (defArgs st) (defBody st) (defScope st) .none kV doc pm an cdv ct),osl⟩)
  (hl:tab.lookup ("Rack":Str)=pi (SK.Gl.cls A ms)) (d:Ik tab A ms st=pi (n,M):=by kernel_rfl) (c:codeIn K cdv qual=qt:=by kernel_rfl) (kp:keepIn K (.ref f)=qt:=by kernel_rfl) (m1:l4 K (.ref A) m=pi (pi (.ref f)):=by kernel_rfl) (m2:og K (.ref f)=qt:=by kernel_rfl)
  (no:m≠"held"/\m≠"done"/\m≠"undone":=by decide) (hps:cT (defArgs st)=pi (self::ps):=by rfl) (nd:(self::ps).Nodup:=by decide):
  PQ P w K mg base h ad (k+1) (("Rack",.cls A ((m,n,M)::ms))::tab) fns:=by
 have F:=lH (x:=m) (qual:=qual) (st:=st) l c kp;obtain⟨v,j,o⟩:=(T.t "Rack" _ hl).2;have ok:=Fp (k:=k) T.B T.t j o F hps d;refine⟨dG.cons (T.t.mono (o3 k)) (by decide) ⟨v,j,λi z s e=>?_⟩,T.u.mono (o3 k),T.X,T.G,T.B⟩
 rw[kg]at e
 cases q:i==m with
 |true=>
  rw[q]at e;cases e
  cases eq_of_beq q
  exact⟨no,f,k+1,_,_,aj _,⟨m1,m2,kp⟩,ok,F.binds λ_ _ _ _ _ _ H hl=>hW hps nd hl⟩
 |false=>
  rw[q]at e;obtain⟨g,E,r,p,b,C,y⟩:=o i z s e;exact⟨g,E,r,p,b,ny C (o3 k),y⟩
end
noncomputable def DP(a:Arguments):Bool:=a.posonlyargs.isEmpty&&a.args.isEmpty&&a.vararg.isNone&&a.kwonlyargs.isEmpty&&a.kw_defaults.isEmpty&&a.kwarg.isNone&&a.defaults.isEmpty
def w6(h:DP a=qt):a=⟨[],[],qr,[],[],qr,[]⟩:=by obtain⟨l,p,j,m,o,n,q⟩:=a;unfold DP at h;simp only[aw,ko,Option.isNone_iff_eq_none]at h;obtain⟨⟨⟨⟨⟨⟨e,i⟩,d⟩,f⟩,b⟩,g⟩,c⟩:=h;subst e i d f b g c;rfl
def uJ(sc:Scope):Bool:=sc.kind== .function&& !sc.isCoroutine&& !sc.isGenerator&&sc.names.all (λp=>p.2 != .cell&&p.2 != .local)&&decide (aN sc).Nodup&&(aN sc).all (λx=> !(x==gV)&& !(x==hZ))
def l8(h:uJ sc=qt):LamSc (aN sc) sc/\(aN sc).Nodup/\∀x∈aN sc,(x==gV)=qu/\(x==hZ)=qu:=by
 unfold uJ at h;simp only[aw]at h;obtain⟨⟨⟨⟨⟨f,j⟩,e⟩,g⟩,d⟩,i⟩:=h;have all: ∀p∈sc.names,p.2≠ .cell/\p.2≠ .local:=λp c=>by
  have:=zAd g p c;simpa using this
 refine⟨⟨by simpa using f,by simpa using j,by simpa using e,λx b=>(all x b).1,λx z=>(all _ (ii z)).2 rfl⟩,of_decide_eq_true d,λx b=>?_⟩;have:=zAd i x b;simpa using this
section
variable{K:Frag}{ad:Ad}{tab:L1 (Str×SK.Gl)}
def O1(B:ExcK K ad)(TB:dG P w K mg base ad k tab)(FB:eY P w K mg base ad k fns)(hs:uJ sc=qt)(hr:Room k (A.deeper (Dm q sc s.z a cd cl))):
  CtxOk (cxL (CXe P w) P w K mg base (aN sc) q sc a cd cl A outer s H E) ad ⟨tab,fns,sc,aN sc,[]⟩:=by
 obtain⟨S,c,nm⟩:=l8 hs;refine⟨rfl,c,λx i e=>?_,λx e=>e,Bb TB hr,λx i e=>(eU e).2,rfl,?_,hr.hd,B.exc,B.kin,B.kve,λj m h e=>?_⟩;obtain⟨b,g⟩:=tZ e;have m:=tY b;exact⟨gL b,g,(nm x m).1,(nm x m).2⟩;exact jd (ip (by decide:62<=64) _) hr.units;obtain⟨l,f,n,d⟩:=FB j m h e;exact⟨l,⟨n,d⟩,hr.mono f⟩
end
noncomputable def O2:Expr->L7 (Arguments×Expr×Scope)
 |.Lambda ps body sc _=>pi (ps,body,sc)
 |_=>qr
def Bl(h:O2 e=pi (ps,body,sc)): ∃p,e= .Lambda ps body sc p:=by cases e<;>first|(cases h;exact⟨_,rfl⟩)|(cases h;done)
theorem oV{α β}{f:α->L7 β}: ∀{l} {r},eL f l=pi r->∀(i:Nat) a,l[i]? =pi a->∃b,r[i]? =pi b/\f a=pi b
 |[],_,_,i,a,h=>by cases h
 |x::l,r,h,i,a,ha=>by
  unfold eL at h;rcases e:f x with _|y;rw[e]at h;cases h;rw[e]at h;obtain⟨g,c,d⟩:=zMd h;subst d;rcases i with _|i;cases ha;exact⟨y,rfl,e⟩;exact oV c i a ha
noncomputable def cxP(Ps:L1 Addr)(X:Cx):Cx:={X with ex:=Ps}
def O3(u:Un fs [] H H' h h'):Un fs ex H H' h h':=
 ⟨λb o e n f _=>u.keep b o e n f (by simp),λb o e n f _=>u.slot b o e n f (by simp),λb o e n _=>u.free b o e n (by simp),λb o e _=>u.there b o e (by simp),u.tups,u.frzs,u.tbls⟩
section
variable{Ps:L1 Addr}{σ:St}
def Mf(I:Inv X [] σ H s)(hex:X.ex=[])(hP: ∀P∈Ps,P<X.s₀.z/\X.base.get? P=qr/\P∉X.fs)(hcell: ∀x c,X.env.cells.lookup x=pi c->X.s₀.z<=c):Inv (cxP Ps X) [] σ H s:=by refine⟨⟨I.ok.mod,I.ok.kind,I.ok.glob,I.ok.blt,I.ok.above,I.ok.inj,I.ok.has,I.ok.cab,I.ok.hd,I.ok.frames,I.ok.stk,λb d=>?_,I.ok.bs,I.ok.bsz,λb o e d=>?_,λb d=>(hP b d).2.2,I.ok.funs,I.ok.frf⟩,I.os,I.bare,?_,I.loc,I.cell,I.free,I.freeC,I.pin,I.hok,I.len⟩;exact⟨bh (bg (hP b d).1 I.ok.above),λx c h z=>absurd (bg (hP b d).1 (hcell x c h)) (by rw[z];exact mq _)⟩;have f:X.base.get? b=pi o:=e;rw[(hP b d).2.1]at f;cases f;have u:=I.base;rw[hex]at u;exact O3 u
end
def Fs:Tb P0 q #[] []:=⟨trivial,(λc d h=>by cases h),(λp b=>by cases b)⟩
structure Td where
 dn:Str
 en:Str
 x:Str
 cx:Str
def O4(t:Td)(sc:Scope):Bool:=bO (aA sc) [t.dn] sc&&aA sc==[t.dn,t.en]&&sc.names.lookup t.dn==pi .local&&sc.names.lookup t.en==pi .local&&sc.names.lookup t.x==pi .globalImplicit&&sc.names.lookup t.cx==pi .globalImplicit&&
 !(t.x==gV)&& !(t.cx==gV)
def oW{F}: ∀r c,gN F r≠ .ex c:=λr c z=>by
 unfold gN at z;rcases r with d|e|b|_;cases z;cases z;simp only at z;split at z<;>cases z;cases z
noncomputable def defBody:Stmt->L1 Stmt
 |.FunctionDef _ _ b _ _ _ _ _ _ _=>b
 |_=>[]
noncomputable def O5:Stmt->L7 Scope
 |.FunctionDef _ _ _ _ _ _ sc _ _ _=>pi sc
 |_=>qr
def StOk.P{ad}(O:StOk X ad C):StOk (cxP Ps X) ad C:=by refine⟨⟨O.cx.N,O.cx.nd,O.cx.vis,O.cx.gk,λx g e=>⟨(O.cx.gt x g e).1,?_⟩,O.cx.cap,O.cx.calm,O.cx.un,O.cx.hd,O.cx.exc,O.cx.kin,O.cx.kve,λj n F e=>?_⟩,O.fn,O.sc,O.lc,O.exm,O.exi⟩;have h:=(O.cx.gt x g e).2;rcases g with ⟨k,n,f⟩|c|_|d|p|kvs|⟨A,E⟩|⟨A,M⟩|⟨A,n,M⟩;obtain⟨r,B,⟨t,s,i⟩,y⟩:=h;exact⟨r,B,⟨t,s,i⟩,y⟩;exact h;exact h;exact h;exact h;exact h;obtain⟨t,s,i⟩:=h;exact⟨t,s,λm n M z=>let ⟨no,f,r,l,o,b,q,u,v⟩:=i m n M z;⟨no,f,r,l,o,b,q,u,v⟩⟩;obtain⟨f,r,l,o,b,q,u,v,w⟩:=h;exact⟨f,r,l,o,b,q,u,v,w⟩;obtain⟨f,r,l,o,b,q,u,v,w⟩:=h;exact⟨f,r,l,o,b,q,u,v,w⟩;obtain⟨r,⟨t,s⟩,i⟩:=O.cx.fnv j n F e;exact⟨r,⟨t,s⟩,i⟩
def rQ(L:Pl)(h:Heap)(H:Hp)(fs:L1 Addr):Prop:= ∀p∈L,h.get? p.1=pi p.2/\H p.1=qr/\p.1∉fs/\∀v,p.2.data≠ .cell v
section
variable{K:Frag}{kV:Value}{args:Args}
def DQ(lk:K.lookup fa=pi ⟨oc,od,.func (oj name qual params body scope dV kV doc pm an (.ref c) ct),osl⟩)(hcd:md K (.ref c) qual=qt)(S:FnScope N prs scope)(hr:Room (k+1) A)(e0:Env0 P w K mg base A outer s H)(hb:BindsTo s (oj name qual params body scope dV kV doc pm an (.ref c) ct) args (prs.zip us))(hl:vs.length=prs.length)(rv:bW vs us)(pk:rQ (L++pl) s.heap H (frs outer))(T0:TD (TbL P0 q) L pl)(hbP:base.get? P0=qr)(hbody:qV (cxP [P0] (jN (CXe P w) P w K mg base N qual scope fa (.ref c) A outer s H λ_ _ _=>False)) (TbL P0 q) body t)(ht:t ⟨λ_ _=>False,Q,λ_ _=>False,λ_ _=>False⟩ (start N vs) H):
  codeAny (model P w) A (.call (.ref fa) args) (λr s'=>∃u v H' L',r= .ok (.ret u)/\s'.os=s.os/\AllBare s'.gens/\Un (frs outer) [P0] H H' s.heap s'.heap/\HOk P w H' s'.heap/\bH v u/\Q v H'/\rQ (L'++pl) s'.heap H' (frs outer)/\TD (TbL P0 q) L' pl) s:=by
 obtain⟨M,cs,Z,tb⟩:=T0.tb;have B:=pk (P0,mh M) (gy _ (by rw[Z];exact .head _));have C:K.In s.heap:=e0.mod.kin.keeps λb o e=>(e0.bs b o e).1;have lim:s.heap.NoLimit:=e0.mod.nolimit.keeps λb o e=>(e0.bs b o e).1;have ab:us.length=prs.length:=by rw[<-hl];exact rv.length.symm
 have i: ∀y∈prs.zip us,scope.names.lookup y.1=pi .local\/(scope.names.lookup y.1=pi .cell/\((cellsFrom (s.z+1) scope.names []).lookup y.1).isSome=qt):=λy U=>by
  rcases S.par y.1 (lf U).1 with z|z;exact .inl z;exact .inr ⟨z,fj _ _ _ (.inl z)⟩
 let X:=jN (CXe P w) P w K mg base N qual scope fa (.ref c) A outer s H λ_ _ _=>False;refine codeAny_call_function hr.depth (C _ _ lk) rfl S.co S.gen rfl (iy C hcd) (hb _ _ _ _ ?_);refine wpAny_newFunctionEnv_cells S.kind i λad he j y=>?_;subst he;refine⟨lim.keeps y.toInCall.keep,codeAny_func ?_⟩;have hk:=y.toInCall.keep;have I0:Inv X [] (start N vs) H j:=gG S hr.hd e0 hl rv y;have O:Inv (cxP [P0] X) [] (start N vs) H j:=Mf I0 rfl (λP I=>by
  rw[ja.mp I];exact⟨ah B.1,hbP,B.2.2.1⟩) λz d h=>nz (y.above z d (ii h))
 have I2:Inv (cxP [P0] X) (L++pl) (start N vs) H j:=O.pins_of λp l=>by
  obtain⟨x,Y,G,a4⟩:=pk p l;exact⟨hk _ _ x,Y,bh (ah x),G,a4⟩
 refine wpAny_mono (hbody pl L j _ H _ T0 I2 ht) (λfl s' g=>?_) λe s' g=>?_;obtain⟨L',T,g⟩:=g;cases fl with
 |next=>obtain⟨_,_,_,z⟩:=g;exact z.elim
 |brk=>obtain⟨_,_,_,z⟩:=g;exact z.elim
 |cont=>obtain⟨_,_,_,z⟩:=g;exact z.elim
 |ret u=>
  obtain⟨v,ag,H',J,n,qv⟩:=g;exact⟨u,v,H',L',rfl,J.os,J.bare,J.base,J.hok,n,qv,λp l=>let t:=J.pin p (bt _ l);⟨t.1,t.2.1,t.2.2.2.1,t.2.2.2.2⟩,T⟩
 have no: ∀(e:Value) (f:Shared),CXe P w outer H s (λ_ _ _=>False) e f->False:=λe f z=>by
  obtain⟨_,_,_,_,_,_,_,_,_,_,_,_,_,_,z⟩:=z;exact z
 have m:wpAny (model P w) (A.deeper (envOfC qual scope s.z fa (.ref c))) (leaving (envOfC qual scope s.z fa (.ref c)) e) (λ_ f=>CXe P w outer H s (λ_ _ _=>False) e f) (λE f=>CXe P w outer H s (λ_ _ _=>False) E f) s':=g;exact wpAny_mono m (λ_ f z=>(no _ _ z).elim) λE f z=>(no _ _ z).elim
end
def Io(X:Cx)(ad:Ad)(A n:Nat)(P0:Addr)(q:Str)(k:Nat)(fa:Addr)(fd:FuncData)(prs:L1 Str)(M:FM):Prop:=
 ∀(A':Around) (outer:L1 qh) (s:Shared) (G H:Hp) (p0 dx d l1 l2:Addr) (r:Rk) (ds:L1 D) (ws:L1 V) (us:L1 Value) (args:Args) (L pl:Pl) (Q:VK),Room k A'->Env0 X.prog X.w X.K X.mg X.base A' outer s H->BindsTo s fd args (prs.zip us)->bW (V.ref p0::ws) us->Same G H->RackIn X.K ad A G H p0 r dx d l1 l2->aI X.K ad G ds ws->ds.length=n->
  rQ (L++pl) s.heap H (frs outer)->TD (TbL P0 q) L pl->RMK X.K ad A G H p0 dx d l1 l2 (M r ds) Q (λ_ _=>False)->
  codeAny (model X.prog X.w) A' (.call (.ref fa) args) (λr s'=>∃u v H' L',r= .ok (.ret u)/\s'.os=s.os/\AllBare s'.gens/\Un (frs outer) [P0] H H' s.heap s'.heap/\HOk X.prog X.w H' s'.heap/\bH v u/\Q v H'/\rQ (L'++pl) s'.heap H' (frs outer)/\TD (TbL P0 q) L' pl) s
section
variable{ad:Ad}
def Ip(hD:Io X ad A n P0 q k fa fd prs M)(hr:Room k X.A)(hnx: ∀r ds c,M r ds≠ .pure (.ex c))(hg:L2.Gl X tn)(hm:X.mg tn=pi (.ref fa))(hdb:(tn==gV)=qu)(hk:l7 X.K (.ref fa)=qt)(hbd: ∀s us,X.K.In s.heap->us.length=n+1->BindsTo s fd ⟨us,[]⟩ (prs.zip us))(hx:P0∈X.ex)(hstk:X.stack=X.env::X.outer/\X.env.frame=pi X.env.locals)(hV:mU X i x)(ha:MA X ad es fs)(hn:fs.length=n)(hst:starEach (.Name x px::es) X.env=(qu,eval (.Name x px) X.env)::starEach es X.env)(hany:(backTo cp (starEach es X.env)).any (·.1)=qu):
  LPE X (TbL P0 q) (.Call (.Name tn p) (.Name x px::es) [] cp) (AZ X ad A i M fs):=by
 rintro ce L s σ H Q T I ⟨G,ρ,E,r,B,dx,d,l1,l2,hG,hS,as,h1,hR,hA⟩;refine wpAny_Call_Name_kw (eJ I hg hm ?_ hdb);refine i3 (h₀:=X.base) I.ok.mod.kin hk (L2.thn (cG (bZ hV) (ha) hst cp _ s σ H (λw H1=>∃ws ds h,w= .ref B::ws/\Step G H h H1/\aI X.K ad h ds ws/\ds.length=n/\RMK X.K ad A h H1 B dx d l1 l2 (M r ds) Q E) I ?_) λus o hz=>?_) hst hany;refine⟨.ref B,h1,?_⟩;obtain⟨G',N,E',a1,a2,a3,m⟩:=hA;refine⟨G',N,E',a1,a2,a3,?_⟩;cases e:args fs N with
 |ok ar=>
  rw[e]at m;intro w h H1 Y S;obtain⟨ds,G2,b1,b2,U,b4⟩:=m w h H1 Y S;exact⟨w,ds,G2,rfl,b1,b2,U.trans hn,b4⟩
 |ex c=>rw[e]at m;exact m
 |bad=>rw[e]at m;exact m
 obtain⟨w,Z,l,r2,ws,ds,h,e1,Y,S,hl,t⟩:=hz;subst e1;refine⟨l.kIn,?_⟩;have an: ∀b,b≠X.env.locals->b∉X.fs->b∉frs X.stack:=λb n1 n2 z=>by
  rw[hstk.1]at z;unfold frs at z;rw[ic,hstk.2]at z;rcases av.mp z with y|y;exact n1 y;exact n2 y
 have pk:rQ (L++(X.pn++ce)) o.heap Z (frs X.stack):=λp f=>by
  have:=l.pin p (by simp only[k6]at f ⊢;rcases f with z|z|z<;>simp[z]);exact⟨this.1,this.2.1,an _ this.2.2.1 this.2.2.2.1,this.2.2.2.2⟩
 obtain⟨ps,cs,hL,tb⟩:=T.tb;have am:RMK X.K ad A h Z B dx d l1 l2 (M r ds) Q (λ_ _=>False):=by
  have:=hnx r ds;cases em:M r ds with
  |chg y r'=>rw[em]at t;exact t
  |pure y=>
   rw[em]at t;cases y with
   |ok y=>exact t
   |ow ys=>exact t
   |ex c=>exact absurd em (this c)
   |bad=>exact t
 have lu:us.length=n+1:=by rw[<-r2.length,bq,S.length,hl]
 refine wpAny_call (codeAny_mono (hD X.A X.stack o h Z B dx d l1 l2 r ds ws us ⟨us,[]⟩ L (X.pn++ce) Q hr l.env0 (hbd o us l.kIn lu) r2 Y.gh (hR.step Y) S hl pk T am) λap s' O=>?_);obtain⟨u,v,H',L',rfl,os,C,un,al,rv,qv,ab,T'⟩:=O;obtain⟨hh,g,dr,tk,ag⟩:=s';obtain rfl:ag=o.os:=os;have I3:Inv X [] σ Z o:=l.pins_of λp f=>by cases f
 have I4:Inv X [] σ H' {o with heap:=hh,gens:=g,drawn:=dr,toks:=tk}:=I3.call (ch:=[P0]) un al C λb j=>by
  rw[ja.mp j];refine⟨.inl hx,(l.ok.exf P0 hx).1,(l.ok.exf P0 hx).2,λp f=>?_⟩;rw[k7]at f;exact(T.dj (P0,mh ps) (by rw[hL];exact .head _) p (gy _ f)).symm
 have J: ∀b,b∉frs X.stack->b≠X.env.locals/\b∉X.fs:=λb j=>by
  rw[hstk.1]at j;unfold frs at j;rw[ic,hstk.2]at j;exact⟨λz=>j (by rw[z];exact .head _),λz=>j (.tail _ z)⟩
 refine⟨L',T',v,H',I4.pins_of λp f=>?_,rv,qv⟩;obtain⟨b1,b2,U,b4⟩:=ab p (by simp only[k6]at f ⊢;rcases f with z|z<;>simp[z]);exact⟨b1,b2,(J _ U).1,(J _ U).2,b4⟩
end
abbrev FL:=Rho->RM
def JJ(A i:Nat)(M:FM)(fs:L1 F):FL:=λρ=>match(ρ[i]? :L7 Slot)with
 |some (.rk C r)=>if C=A then(match args fs ρ with
  |.ok ds=>M r ds
  |.ex c=>.pure (.ex c)
  |.bad=>.pure .bad)else .pure .bad
 |_=>.pure .bad
noncomputable def ifM(f:F)(g h:FL):FL:=λρ=>match f ρ with
 |.ok (.bl b)=>if b then g ρ else h ρ
 |.ex c=>.pure (.ex c)
 |_=>.pure .bad
def Mg(dE:Expr->L7 F)(A:Nat)(ms:L1 (Str×Nat×FM))(C:SK.Ctx)(e:Expr):L7 FL:=match e with
 |.Call f as kws cp=>if kws.isEmpty then(match f with
  |.Attribute o m ap=>if(ap.endLine==cp.line)=qt then(cF o).bind λ(x,_)=>(loc C x).bind λi=>(ms.lookup m).bind λ(n,M)=>if as.length<20 then(eL dE as).bind λfs=>if fs.length=n then pi (JJ A i M fs)else qr else qr else qr
  |_=>qr)else qr
 |_=>qr
noncomputable def vIf:Expr->L7 (Expr×Expr×Expr)
 |.IfExp c a b _=>pi (c,a,b)
 |_=>qr
def O6(dE:Expr->L7 F)(A:Nat)(ms:L1 (Str×Nat×FM))(C:SK.Ctx)(e:Expr):L7 FL:=match vIf e with
 |some (c,a,b)=>(dE c).bind λf=>(Mg dE A ms C a).bind λg=>(Mg dE A ms C b).map λh=>ifM f g h
 |none=>Mg dE A ms C e
theorem RMK.step{K}{ad}(h:RMK K ad A G H p dx d l1 l2 m Q E)(st:Step G H G1 H1):RMK K ad A G1 H1 p dx d l1 l2 m Q E:=by rcases m with x|⟨x,r⟩;exact RK.step h st;intro v l j f t s g n;refine h v l j f ⟨st.sg.trans t.sg,t.gh,λb o c e=>t.sh b o c (st.sh _ _ e),λb i u=>?_,λb c=>t.th b λz=>c (st.sh.free z)⟩ s (g.imp id λz=>st.sh.free z) n;rcases q:G1 b with _|o;exact st.sh.free (t.nw b q u);exact st.nw b i (by rw[q];exact λz=>nomatch z)
def tFR(X:Cx)(ad:Ad)(A:Nat)(p0 dx d l1 l2:Addr)(g:FL):TE:=λσ H Q=>∃G ρ E r i,Same G H/\SL X.K ad G H ρ σ/\XP X ad σ E/\ρ[i]? =pi (.rk A r)/\σ[i]? =pi (pi (.ref p0))/\RackIn X.K ad A G H p0 r dx d l1 l2/\(∀(j C:Nat) (r':Rk),ρ[j]? =pi (.rk C r')->j=i)/\RMK X.K ad A G H p0 dx d l1 l2 (g ρ) Q E
section
variable{ad:Ad}{A:Nat}
def uK(hE:nO ad n)(O:CtxOk X ad C)(RC:RkC X.K A)(MO: ∀m n M,ms.lookup m=pi (n,M)->MetOk X ad A m n M)(h:Mg (bN n C) A ms C e=pi g):PE X e (tFR X ad A p0 dx d l1 l2 g):=by
 unfold Mg at h;split at h;rename_i f as Y cp;split at h;rename_i hk;cases ko.mp hk;split at h;rename_i o m ap;split at h;rename_i hl;have l:=zBd h;clear h;obtain⟨⟨x,p⟩,h0,h⟩:=l;cases aV h0;have l:=zBd h;clear h;obtain⟨i,W,h⟩:=l;have l:=zBd h;clear h;obtain⟨⟨n0,M⟩,h2,h⟩:=l;have vz:=O.vis x i W;simp only at h;split at h;rename_i q;have l:=zBd h;clear h;obtain⟨fs,w,h⟩:=l;split at h;rename_i hn;cases h;obtain⟨ma,t⟩:=oS hE O w;refine PE.imp (Fd RC (MO m n0 M h2) vz ma hn (λa r e=>by
  subst e;exact⟨aJ (t a (.head _)),jF λe he=>t e (.tail _ he)⟩) (fJ w).symm (uD t q) hl) λσ H Q L=>?_
 obtain⟨G,u,E,r,j,J,y,l,T,S,hR,hu,b⟩:=L;unfold JJ at b;split at b;rename_i I r' v;by_cases B:I=A;rw[if_pos B]at b;have U:i=j:=hu i I r' v;subst U;rw[T]at v;cases v;refine⟨G,u,E,r,p0,dx,d,l1,l2,J,y,l,S,hR,G,u,E,J,y,l,?_⟩;rcases s:args fs u with Z|c|_;rw[s]at b;exact λvs G1 H1 z N=>⟨Z,G1,z,N,fH s,RMK.step b z⟩;rw[s]at b;exact b;rw[s]at b;exact b;rw[if_neg B]at b;exact b.elim;exact b.elim;cases h;cases h;cases h;cases h;cases h;cases h
def Mh(h:vIf e=pi (c,a,b)): ∃p,e= .IfExp c a b p:=by cases e<;>first|(cases h;exact⟨_,rfl⟩)|(cases h;done)
def Iq(hE:nO ad n)(O:CtxOk X ad C)(RC:RkC X.K A)(MO: ∀m n M,ms.lookup m=pi (n,M)->MetOk X ad A m n M)(h:O6 (bN n C) A ms C e=pi g):PE X e (tFR X ad A p0 dx d l1 l2 g):=by
 unfold O6 at h;split at h;rename_i c a b U;obtain⟨Z,rfl⟩:=Mh U;have o:=zBd h;clear h;obtain⟨f,T,h⟩:=o;have o:=zBd h;clear h;obtain⟨S,W,h⟩:=o;obtain⟨Y,N,rfl⟩:=zMd h;refine PE.imp (Cy (hE X C _ f O T).2.1 (uK (p0:=p0) (dx:=dx) (d:=d) (l1:=l1) (l2:=l2) hE O RC MO W) (uK (p0:=p0) (dx:=dx) (d:=d) (l1:=l1) (l2:=l2) hE O RC MO N)) λσ H Q L=>?_;obtain⟨G,s,E,r,i,I,t,o,w,u,z,x,j⟩:=L;unfold ifM at j;rcases q:f s with y|ys|c|_;rw[q]at j;cases y<;>try exact ba j
 rename_i k;refine⟨G,s,E,I,t,o,.inl ⟨k,q⟩,?_⟩;rw[q];intro v B H1 p J;unfold Rep at J;subst J;refine⟨k,rfl,?_⟩;have l:RMK X.K ad A G H p0 dx d l1 l2 (if k=qt then S s else Y s) Q E:=j;cases k;rw[if_neg bf]at l;exact CJ ⟨B,s,E,r,i,p.gh,t.step p,o,w,u,z.step p,x,RMK.step l p⟩;rw[if_pos rfl]at l;exact Cq ⟨B,s,E,r,i,p.gh,t.step p,o,w,u,z.step p,x,RMK.step l p⟩;rw[q]at j;exact j.elim;rw[q]at j;refine⟨G,s,E,I,t,o,.inr ⟨c,q⟩,?_⟩;rw[q];exact j;rw[q]at j;exact j.elim;exact uK hE O RC MO h
end
def Bm{l:L1 Nat}(h:l.Nodup){i j x:Nat}(a:l[i]? =pi x)(b:l[j]? =pi x):i=j:=by obtain⟨hi,a⟩:=ay.mp a;obtain⟨c,b⟩:=ay.mp b;exact(List.getElem_inj h).mp (a.trans b.symm)
structure DidX(X:Cx)(ad:Ad)(C:SK.Ctx)(tn:Str)(F:Fn)(A:Nat)(ms:List (Str×Nat×FM))(P c:Addr)(q:Str)(k:Nat):Prop where
 O:StOk X ad C
 B:ExcK X.K ad
 TB:dG X.prog X.w X.K X.mg X.base ad k C.tab
 FB:eY X.prog X.w X.K X.mg X.base ad k C.fns
 RC:RkC X.K A
 MO: ∀m n M,ms.lookup m=pi (n,M)->(m≠"held"/\m≠"done"/\m≠"undone")/\∃f r fd ps,r<=k/\Meth X.K A m f/\FnOk X.prog X.w X.K X.mg X.base (CXe X.prog X.w) r f fd ps (spM X.K ad A n M)/\eE X.K fd ps []
 told: ∃ft fd dn,X.mg tn=pi (.ref ft)/\l7 X.K (.ref ft)=qt/\j4 X.prog X.w X.K X.mg X.base ad (k+1) ft fd dn F/\∀(s:Shared) (u:Value),X.K.In s.heap->BindsTo s fd ⟨[u],[]⟩ [(dn,u)]
 tdb:(tn==gV)=qu
 room:Room (k+2) X.A
 ex:P∈X.ex
 ql:X.env.qual++"<lambda>"=q
 code:X.env.code= .ref c
 hC:mi X.base c P
 hB:X.base.BuiltinsAt X.mg P
def uL(F:Fn)(cap:L1 Nat)(g:FL):FL:=λρ=>match Cu cap ρ with
 |some sl=>eZ F (g sl)
 |none=>.pure .bad
def O7(tn:Str)(A:Nat)(ms:L1 (Str×Nat×FM))(C:SK.Ctx):Expr->L7 (L1 Nat×FL)
 |.Call (.Name x _) [l] [] _=>if x=tn/\C.sc.names.lookup x=pi .globalImplicit then(O2 l).bind λ(ps,body,sc)=>if DP ps&&uJ sc then(eL (λx=>eF C x) (aN sc)).bind λcap=>(O6 (bN 50 ⟨C.tab,C.fns,sc,aN sc,[]⟩) A ms ⟨C.tab,C.fns,sc,aN sc,[]⟩ body).map λg=>(cap,g)else qr else qr
 |_=>qr
def Bn(tn:Str)(F:Fn)(A:Nat)(ms:L1 (Str×Nat×FM))(C:SK.Ctx)(e:Expr):L7 FL:=(O7 tn A ms C e).bind λ(cap,g)=>if cap.contains 0&&decide cap.Nodup then pi (uL F cap g)else qr
def tF0(X:Cx)(ad:Ad)(A:Nat)(p0 dx d l1 l2:Addr)(g:FL):TE:=λσ H Q=>∃G ρ E r,Same G H/\SL X.K ad G H ρ σ/\XP X ad σ E/\ρ[0]? =pi (.rk A r)/\σ[0]? =pi (pi (.ref p0))/\RackIn X.K ad A G H p0 r dx d l1 l2/\(∀(j C:Nat) (r':Rk),ρ[j]? =pi (.rk C r')->j=0)/\RMK X.K ad A G H p0 dx d l1 l2 (g ρ) Q E
def Ir{K}{ad}{F}(h:RMK K ad A G H p dx d l1 l2 (eZ F m) Q E):RMK K ad A G H p dx d l1 l2 (eZ F m) Q λ_ _=>False:=by rcases m with r|⟨x,r⟩;have b:RK K ad G H (gN F r) Q E:=h;show RK K ad G H (gN F r) Q _;rcases e:gN F r with d|f|c|_;rw[e]at b;exact b;rw[e]at b;exact b;exact absurd e (oW r c);rw[e]at b;exact b;exact h
def Mi: ∀{cs} {sl},Cu cs ρ=pi sl->∀(i:Nat) s,sl[i]? =pi s->∃j,cs[i]? =pi j/\ρ[j]? =pi s:=by
 intro cs sl h i s e;have d:eL (λi=>uI ρ[i]?) cs=pi sl:=h;induction cs generalizing sl i with
 |nil=>cases d;cases e
 |cons c cs n=>
  unfold eL at d;rcases b:uI ρ[c]? with _|y;rw[b]at d;cases d;rw[b]at d;obtain⟨l,f,m⟩:=zMd d;subst m;rcases i with _|i;cases e;refine⟨c,rfl,?_⟩;rcases g:ρ[c]? with _|z;rw[g]at b;cases b;rw[g]at b;cases z<;>first|(cases b;rfl)|(cases b;done)
  exact n (sl:=l) (i:=i) f e f
def Mj: ∀{cs} {sl},Cu cs ρ=pi sl->∀(i j:Nat),cs[i]? =pi j->∃s,sl[i]? =pi s/\ρ[j]? =pi s:=by intro cs sl h i j e;obtain⟨b,g,l⟩:=oV (f:=λi=>uI ρ[i]?) h i j e;refine⟨b,g,?_⟩;have c:uI ρ[j]? =pi b:=l;rcases d:ρ[j]? with _|z;rw[d]at c;cases c;rw[d]at c;cases z<;>first|(cases c;rfl)|(cases c;done)
section
variable{ad:Ad}{F:Fn}
def Ml(L:DidX X ad C tn F A ms P c q k)(h:O7 tn A ms C e=pi (cap,fb)){σ:St}{ρ sl:Rho}(T:TD (TbL P q) L0 (X.pn++ce))(I:Inv X (L0++ce) σ H s)(hG:Same G H)(hS:SL X.K ad G H ρ σ)(hcd:Cu cap ρ=pi sl)(ei:cap[i']? =pi i)(z1:sl[i']? =pi (.rk A r))(es:σ[i]? =pi (pi (.ref p0)))(hR:RackIn X.K ad A G H p0 r dx d l1 l2)(hu: ∀(j C:Nat) r',sl[j]? =pi (.rk C r')->j=i')(hr:RMK X.K ad A G H p0 dx d l1 l2 (eZ F (fb sl)) Q E):
  X.wp (eval e X.env) (EPL X (TbL P q) ce σ Q) X.xe s:=by
 unfold O7 at h;split at h;rename_i x p l cp;split at h;rename_i g;obtain⟨rfl,ab⟩:=g;have g:=zBd h;clear h;obtain⟨⟨ps,a1,sc⟩,h0,h⟩:=g;obtain⟨lp,rfl⟩:=Bl h0;simp only at h;split at h;rename_i hp;rw[aw]at hp;obtain⟨am,J⟩:=hp;cases w6 am;have g:=zBd h;clear h;obtain⟨a0,b,h⟩:=g;obtain⟨a2,ar,h⟩:=zMd h;cases h;obtain⟨ft,fd,dn,t1,t2,t3,t4⟩:=L.told;have hC:mi s.heap c P:=by
  obtain⟨o,y,u,tf,t,tg,ak,U,tt,z,r⟩:=L.hC;exact⟨o,y,u,tf,t,tg,ak,U,tt,(I.bs _ _ z).1,r⟩
 have hB:s.heap.BuiltinsAt X.mg P:=by
  obtain⟨bm,o,b1,b2,b3,b4,b5,r⟩:=L.hB;exact⟨bm,o,b1,b2,b3,b4,(I.bs _ _ b5).1,r⟩
 refine wX (k:=k) (F:=F) (cap:=cap) (dn:=dn) (fd:=fd) (ad:=ad) (ds:=sl) (Φ:=λG H Q E=>RMK X.K ad A G H p0 dx d l1 l2 (fb sl) Q E) (tb:=λY=>tFR Y ad A p0 dx d l1 l2 fb) (λx _=>L.O.fn x) (L.O.cx.gk _ ab) t1 L.tdb t2 t3 L.room t4 L.ex rfl L.ql (λx g=>?_) L.code hC hB (l8 J).1 (λ_ _ _ _=>rfl) (fJ b) (λi x hi=>?_) (λa cd cl A' ag s H E hr=>?_) T I hG hS hcd (λY y G1 H1 Q1 E1 Z ap an st1 v al as=>?_) (LV (Ir hr));obtain⟨j,z⟩:=i9 b x (jA g);exact L.O.cx.cap x j z;obtain⟨j,z,e2⟩:=oV b i x hi;refine⟨j,z,?_,L.O.cx.cap x j e2⟩;rw[L.O.cx.N];exact gL (eU e2).1;exact Iq (bV (ad:=ad) 50).1 (O1 L.B L.TB L.FB J hr) L.RC (λm n M hm=>let ⟨no,f,r,fd,ps,h1,h2,h3,h4⟩:=L.MO m n M hm;⟨no,f,r,fd,ps,h2,h3,hr.mono h1,h4⟩) ar;have lv:(y.map pi).length=sl.length:=v.len.symm;obtain⟨v0,ev⟩: ∃v0,y[i']? =pi v0:=by
  have S:i'<sl.length:=(ay.mp z1).1;rw[<-lv,aq]at S;exact⟨y[i'],bd S⟩
 have e0:=al i' i v0 ei ev;rw[es]at e0;cases e0;exact⟨G1,sl,(λc H'=>E1 (.ref (ad.cls c)) qr H'),r,i',an,by rw[Z];exact v,lW ap,z1,by rw[jj,ev];rfl,by rw[Z];exact hR.step st1,hu,by rw[Z];exact as⟩;cases h;cases h;cases h
def w8(L:DidX X ad C tn F A ms P c q k)(h:Bn tn F A ms C e=pi g):LPE X (TbL P q) e (tF0 X ad A p0 dx d l1 l2 g):=by have p:=zBd h;clear h;obtain⟨⟨l,fb⟩,h,m⟩:=p;simp only at m;split at m;rename_i f;rw[aw,decide_eq_true_eq]at f;cases m;rintro ce Y s Z H Q T I ⟨G,v,E,r,W,w,p,y,M,S,N,i⟩;unfold uL at i;rcases b:Cu l v with _|sl;rw[b]at i;exact i.elim;rw[b]at i;obtain⟨n,o⟩: ∃n,l[n]? =pi 0:=List.mem_iff_getElem?.mp (by simpa using f.1);obtain⟨J,u,t⟩:=Mj b n 0 o;rw[y]at t;cases t;refine Ml L h T I W w b o u M S (λj K O x=>?_) i;obtain⟨B,U,z⟩:=Mi b j _ x;have:=N B K O z;subst this;exact Bm f.2 U o;cases m
end
noncomputable def JK:Stmt->L7 Expr
 |.Return v _=>v
 |_=>qr
noncomputable def NG:Stmt->L7 (Expr×L1 Stmt×L1 Stmt)
 |.If c a b _=>pi (c,a,b)
 |_=>qr
def dSs(tn:Str)(F:Fn)(A:Nat)(ms:L1 (Str×Nat×FM))(C:SK.Ctx):L1 Stmt->L7 FL
 |[]=>qr
 |s::dF=>match dF with
  |[]=>(JK s).bind λe=>Bn tn F A ms C e
  |_::_=>(NG s).bind λ(c,a,b)=>if b.isEmpty then(KI a).bind λs1=>(JK s1).bind λe=>(bN 50 C c).bind λf=>(Bn tn F A ms C e).bind λg=>(dSs tn F A ms C dF).map λh=>ifM f g h else qr
def uM(h:JK s=pi e): ∃p,s= .Return (pi e) p:=by cases s<;>first|(cases h;exact⟨_,rfl⟩)|(cases h;done)
def Bo(h:NG s=pi (c,a,b)): ∃p,s= .If c a b p:=by cases s<;>first|(cases h;exact⟨_,rfl⟩)|(cases h;done)
section
variable{X:Cx}{ad:Ad}{C:SK.Ctx}{tn q:Str}{F:Fn}{A:Nat}{ms:L1 (Str×Nat×FM)}{P c:Addr}{k:Nat}{e:Expr}{g:FL}{p0 dx d l1 l2:Addr}{t:TE}
theorem Fv(L:DidX X ad C tn F A ms P c q k): ∀{sts} {g},dSs tn F A ms C sts=pi g->qV X (TbL P q) sts λD σ H=>tF0 X ad A p0 dx d l1 l2 g σ H D.rt
 |[],_,h=>by cases h
 |[s],g,h=>by
  have i:=zBd (show(JK s).bind (λe=>Bn tn F A ms C e)=pi g from h);obtain⟨e,w,x⟩:=i;obtain⟨z,rfl⟩:=uM w;exact i8 (u:=Cz) (uH (w8 L x)) (gK kY)
 |s::s2::dF,g,h=>by
  have i:=zBd (show(NG s).bind (λ(c,a,b)=>if b.isEmpty then(KI a).bind λM=>(JK M).bind λe=>(bN 50 C c).bind λf=>(Bn tn F A ms C e).bind λg=>(dSs tn F A ms C (s2::dF)).map λh=>ifM f g h else qr)=pi g from h);clear h;obtain⟨⟨cd,a,b⟩,w,h⟩:=i;obtain⟨z,rfl⟩:=Bo w;simp only at h;split at h;rename_i hb;cases ko.mp hb;have i:=zBd h;clear h;obtain⟨M,x,h⟩:=i;cases DE x;have i:=zBd h;clear h;obtain⟨e,Z,h⟩:=i;obtain⟨rp,rfl⟩:=uM Z;have i:=zBd h;clear h;obtain⟨f,U,h⟩:=i;have i:=zBd h;clear h;obtain⟨g1,h5,h⟩:=i;obtain⟨g2,W,rfl⟩:=zMd h;have ih:=Fv L W;refine qV.imp (i8 (LU ((bV (ad:=ad) 50).1 X C _ f L.O.cx U).2.1 (i8 (u:=Cz) (uH (w8 (p0:=p0) (dx:=dx) (d:=d) (l1:=l1) (l2:=l2) L h5)) (gK kY)) (gK kY)) ih) λD σ H Y=>?_;obtain⟨G,o,E,r,S,p,i,Q,N,I,B,j⟩:=Y;unfold ifM at j;rcases n:f o with y|ys|c|_;rw[n]at j;cases y<;>try exact ba j
  rename_i t;refine⟨G,o,E,S,p,i,.inl ⟨t,n⟩,?_⟩;rw[n];intro v J H1 m T;unfold Rep at T;subst T;refine⟨t,rfl,?_⟩;have l:RMK X.K ad A G H p0 dx d l1 l2 (if t=qt then g1 o else g2 o) D.rt E:=j;cases t;rw[if_neg bf]at l;exact CJ ⟨J,o,E,r,m.gh,p.step m,i,Q,N,I.step m,B,RMK.step l m⟩;rw[if_pos rfl]at l;exact Cq ⟨J,o,E,r,m.gh,p.step m,i,Q,N,I.step m,B,RMK.step l m⟩;rw[n]at j;exact j.elim;rw[n]at j;refine⟨G,o,E,S,p,i,.inr ⟨c,n⟩,?_⟩;rw[n];exact j;rw[n]at j;exact j.elim;cases h
end
def Iu(A N:Nat)(g:FL):FM:=λr ds=>g (.rk A r::(ds.map Slot.sh++ao (N-(ds.length+1)) .no))
section
variable{ad:Ad}{tab:L1 (Str×SK.Gl)}{F:Fn}{A:Nat}{ms:L1 (Str×Nat×FM)}{kV:Value}
def Mm(B:ExcK X.K ad)(TB:dG X.prog X.w X.K X.mg X.base ad k tab)(FB:eY X.prog X.w X.K X.mg X.base ad k fns)(RC:RkC X.K A)(MO: ∀m n M,ms.lookup m=pi (n,M)->(m≠"held"/\m≠"done"/\m≠"undone")/\∃f r fd ps,r<=k/\Meth X.K A m f/\FnOk X.prog X.w X.K X.mg X.base (CXe X.prog X.w) r f fd ps (spM X.K ad A n M)/\eE X.K fd ps [])(told: ∃ft fd dn,X.mg tn=pi (.ref ft)/\l7 X.K (.ref ft)=qt/\j4 X.prog X.w X.K X.mg X.base ad (k+1) ft fd dn F/\∀s u,X.K.In s.heap->BindsTo s fd ⟨[u],[]⟩ [(dn,u)])(tdb:(tn==gV)=qu)(hC:mi X.base c P0)(hB:X.base.BuiltinsAt X.mg P0)(hbP:X.base.get? P0=qr)(lk:X.K.lookup fa=pi ⟨oc,od,.func (oj name qual params body sc dV kV doc pm an (.ref c) ct),osl⟩)(hcd:md X.K (.ref c) qual=qt)(hs:bO (aA sc) (self::prs) sc=qt)(hd:dSs tn F A ms ⟨tab,fns,sc,aA sc,[]⟩ body=pi g):
  Io X ad A prs.length P0 ((envOfC qual sc 0 fa (.ref c)).qual++"<lambda>") (k+3) fa (oj name qual params body sc dV kV doc pm an (.ref c) ct) (self::prs) (Iu A (aA sc).length g):=by
 intro t b s G H p0 dx d l1 l2 r h l us args L0 pl Q x N q rv C y o U Z T hq;have S:=(cI hs).1;have i:Room (k+2) (t.deeper (envOfC qual sc s.z fa (.ref c))):=x.deeper _;have L:DidX (cxP [P0] (jN (CXe X.prog X.w) X.prog X.w X.K X.mg X.base (aA sc) qual sc fa (.ref c) t b s H λ_ _ _=>False)) ad ⟨tab,fns,sc,aA sc,[]⟩ tn F A ms P0 c ((envOfC qual sc 0 fa (.ref c)).qual++"<lambda>") k:=
  ⟨(j0 B TB FB hs (i.mono (by lia))).P,B,TB,FB,RC,MO,told,tdb,i,.head _,rfl,rfl,hC,hB⟩
 have p:l.length=prs.length:=by rw[o.length,U]
 refine DQ (k:=k+2) lk hcd S x N q (by rw[bq,bq,p]) rv Z T hbP (Fv (p0:=p0) (dx:=dx) (d:=d) (l1:=l1) (l2:=l2) L hd) ?_;have S0:=hU (X:=cxP [P0] (jN (CXe X.prog X.w) X.prog X.w X.K X.mg X.base (aA sc) qual sc fa (.ref c) t b s H λ_ _ _=>False)) (ad:=ad) (n:=(aA sc).length-(h.length+1)) C o;have v:L2.start (aA sc) (V.ref p0::l)=pi (V.ref p0)::(l.map pi++ao ((aA sc).length-(h.length+1)) qr):=by
  unfold L2.start;rw[bq,o.length];rfl
 rw[v];have E:SL X.K ad G H (h.map SK.Slot.sh++ao ((aA sc).length-(h.length+1)) SK.Slot.no) (l.map pi++ao ((aA sc).length-(h.length+1)) qr):=S0.sl;refine⟨G,SK.Slot.rk A r::(h.map SK.Slot.sh++ao ((aA sc).length-(h.length+1)) SK.Slot.no),λ_ _=>False,r,C,SL.cons (s:=.rk A r) (ov:=pi (.ref p0)) E ⟨p0,dx,d,l1,l2,rfl,y⟩,?_,rfl,rfl,y,λj O Y I=>?_,hq⟩;exact λce H s e s' _ J=>by
  obtain⟨_,_,_,_,_,_,_,_,_,_,_,_,_,_,_,_,z⟩:=J;exact z.elim
 rcases j with _|j;rfl;have e':(h.map Slot.sh++ao ((aA sc).length-(h.length+1)) Slot.no)[j]? =pi (.rk O Y):=I;have m:=List.mem_of_getElem? e';rcases k6.mp m with m|m;obtain⟨d',_,z⟩:=au.mp m;cases z;cases (List.mem_replicate.mp m).2
end
section
variable{K:Frag}{ad:Ad}{q1:Str}{st:Stmt}{F:Fn}
def DS(Fu:Fun K x0 qual st f fd)(hb: ∃cp xp ep ap hp' rq np dp rp tp,defBody st=[kR t.dn t.en t.x t.cx cp xp ep ap hp' rq np dp rp tp])(hs:(O5 st).map (O4 t)=pi qt)(hmx:mg t.x=pi (.ref fa))(hkx:l7 K (.ref fa)=qt)(hfx:FnOkQ P w K mg base (CXe P w) kf fa fdx [q1] (yC K ad 1 F))(hbx:eE K fdx [q1] [])(hkf:kf<=k)(hmc:mg t.cx=pi (.ref (ad.cls 0)))(B:ExcK K ad):j4 P w K mg base ad k f fd t.dn F:=by
 obtain⟨oc,od,kV,C,pm,an,T,ct,M,rfl,lk,n⟩:=Fu.ex;cases st with
 |FunctionDef nm as b dl re tp i ts bi ab=>
  obtain⟨cp,xp,ep,ap,hp',rq,np,dp,rp,z,hb⟩:=hb;cases (show b=_ from hb);have h:O4 t i=qt:=ku hs;unfold O4 at h;simp only[aw,js]at h;obtain⟨⟨⟨⟨⟨⟨⟨O,u⟩,J⟩,L⟩,Y⟩,v⟩,U⟩,q⟩:=h;have d:aA i=[t.dn,t.en]:=by simpa using u
  obtain⟨S,c⟩:=cI O;intro A j s G H a Φ Q E args I y l m _ _ g r Z;have p:t.dn∈aA i:=by rw[d];simp
  have o:t.en∈aA i:=by rw[d];simp
  exact Be (N:=aA i) lk n S (by rw[d];rfl) (by rw[d];rfl) (cQ J) (cQ L) (c _ p).1 (c _ p).2 (c _ o).1 (c _ o).2 hmx U hkx hfx hbx hkf hmc q B.exm (λX e=>by show X.env.scope.names.lookup _=_;rw[e];exact cQ Y) (λX e=>by show X.env.scope.names.lookup _=_;rw[e];exact cQ v) I y l m g r Z
 |_=>cases hs
end
section
variable{ad:Ad}{st:Stmt}
def Bp(a:MS X ad Z st g):LMS X Δ ad Z st g:=E4 a
def DT:Hb X Δ ad Z [] bC:=gK oK
def Iw(hc:LPT X Δ e (tTx X ad Z c))(ha:Hb X Δ ad Z sa gs)(hb:Hb X Δ ad Z sb hs):LMS X Δ ad Z (.If e sa sb pos) (O0 c gs hs):=by refine LPS.imp (HP hc ha hb) ?_;rintro m n H ⟨d,G,j,E,S,g,l⟩;refine⟨d,G,j,m,E,λb f=>if b then gs f else hs f,S,g,l,λb f i o h ok=>?_⟩;cases b;exact CJ ⟨d,i,f,E,h,g,ok⟩;exact Cq ⟨d,i,f,E,h,g,ok⟩
end
def uN(A i:Nat)(f g:F):FS:=λρ=>fC ρ (g ρ) λy=>match(ρ[i]? :L7 Slot)with
 |some (.rk C r)=>if C=A then fC ρ (f ρ) (λz=>match z with
  |.str q=>if r.held.length<LIM then .nx (ρ.set i (.rk A {r with held:=fE r.held q y}))else .rt .bad
  |_=>.rt .bad)else .rt .bad
 |_=>.rt .bad
def NH(j A:Nat):FS:=λρ=>.nx (ρ.set j (.rk A rk0))
def Fw(X:Cx)(ad:Ad)(A:Nat)(M:FR)(fs:L1 F):TE:=λσ H Q=>∃G E,XP X ad σ E/\tA X ad fs σ H (λvs H1=>∃ds G1,Step G H G1 H1/\aI X.K ad G1 ds vs/\ds.length=fs.length/\RRK X.K ad A G1 H1 (M ds) Q E)
section
variable{X:Cx}{ad:Ad}{A i j:Nat}{e:Expr}
theorem StepR.at(gh:Same G H)(gb:G b=qr)(hb:b∈foot)(hn:H b≠qr):StepR foot G H G (upd H b o):=by refine⟨Same.refl _,λc u e=>?_,λc u d e=>?_,λc g f=>absurd g f,λc d=>?_⟩;rw[aD (λz=>by rw[z,gb]at e;cases e)];exact gh c u e;rw[aD (λz=>d (by rw[z];exact hb))];exact e;by_cases z:c=b;rw[z,aH];exact λy=>nomatch y;rw[aD z];exact d
def Ix(hu:X.A.units+62<cLine)(RC:RkC X.K A)(hV:mU X i x)(hk:ME X ad k f)(hw:ME X ad v g)(hs:swapsWith v (pi (.Subscript (.Attribute (.Name x np) "held" qp) k kp)) pos.line X.env=pure qu):
  MS X ad Z (.Assign [.Subscript (.Attribute (.Name x np) "held" qp) k kp] v pos) (uN A i f g):=by
 refine PS.imp (zZ (by lia) (iW (bZ hV) rfl) hk hw hs) ?_;rintro L Q H ⟨h,G,l,E,S,s,U⟩;refine eQ S s U λw y G1 H1 st1 p b=>?_;have o:=S.step st1;cases n:(l[i]? :L7 Slot)with
 |none=>rw[n]at b;exact b.elim
 |some sl=>
  rw[n]at b;rcases sl with _|_|_|_|_|⟨C,r⟩;exact b.elim;exact b.elim;exact b.elim;exact b.elim;exact b.elim;have c:OKo X ad h (if C=A then fC l (f l) (λz=>match z with
   |.str q=>if r.held.length<LIM then .nx (l.set i (.rk A {r with held:=fE r.held q y}))else .rt .bad
   |_=>.rt .bad)else .rt .bad) L E:=b
  by_cases j:C=A;rw[if_pos j]at c;subst j;obtain⟨Y,dx,d,l1,l2,J,N⟩:=o.sl.rk n;refine jC RC N J (fd:="held") rfl RC.n1 ?_;refine eQ o s c λu z T H2 st2 M I=>?_;have O:=o.step st2;cases z with
  |str q=>
   unfold Rep at M;subst M;have e:=N.step st2;obtain⟨kvs,t,B⟩:=e.held;have W:kvs.length=r.held.length:=(mo B).symm;have m:OKo X ad h (if r.held.length<LIM then .nx (l.set i (.rk C {r with held:=fE r.held q y}))else .rt .bad) L E:=I;by_cases j:r.held.length<LIM;rw[if_pos j]at m;refine⟨d,_,rfl,GC.k (k:=qo q) t (by rw[W];exact bg j (by decide)),?_⟩;exact m Q T _ (O.updR n J e (StepR.at O.st.gh e.gd (by simp) (by rw[t];exact λz=>nomatch z)) (e.dict (wK B (p.mono st2.sg) q)) (.inl rfl));rw[if_neg j]at m;exact m.elim
  |_=>exact I.elim
  rw[if_neg j]at c;exact c.elim
def RRK.impE(h:RRK X.K ad A G H m Q E)(k: ∀c H',E c H'->E' c H'):RRK X.K ad A G H m Q E':=by rcases m with r|c|_;exact h;exact λd H' b=>k c H' (h d H' b);exact h
def O8(T:AJ X tn (spR X.K ad A n N))(hg:L2.Gl X tn)(hdb:(tn==gV)=qu)(ha:MA X ad (a::es) fs)(hn:fs.length=n)(hst:starEach (a::es) X.env=(qu,eval a X.env)::starEach es X.env)(hany:(backTo cp (starEach es X.env)).any (·.1)=qu):
  PE X (.Call (.Name tn p) (a::es) [] cp) (Fw X ad A N fs):=by
 rintro B s l H Q I ⟨G,E,h,w⟩;obtain⟨O,k,M,prs,z,hk,g,u,t⟩:=T;refine wpAny_Call_Name_kw (eJ I hg z ?_ hdb);refine i3 (h₀:=X.base) I.ok.mod.kin hk (L2.thn (ha cp _ s l H _ I w) λL i f=>?_) hst hany;obtain⟨vs,q,b,v,o,y,j,d,x,C⟩:=f;exact⟨b.kIn,lR (vs:=vs) (E:=xk ad E) g u t b v ⟨y,o,j.gh,d,x.trans hn,C.impE λc J e=>⟨c,rfl,e⟩⟩ λe r m=>h B q i e r b m⟩
def Mo(O:StOk X ad C)(he:PE X e (Fw X ad A (λ_=>.rk rk0) []))(hj:loc C y=pi j)(hs:swapsWith e (pi (.Name y p)) pos.line X.env=pure qu):MS X ad Z (.Assign [.Name y p] e pos) (NH j A):=by have nm:=O.nm hj;refine PS.imp (pS O.cx.nd nm.1 nm.2.1 he hs nm.2.2) ?_;rintro w b H ⟨g,G,i,E,S,f,l⟩;exact⟨G,E b,f.1 b,G,i,E b,S.st.gh,S.sl,f.1 b,λt q u st h=>⟨[],q,st,h,rfl,λp v d x s m n c o r=>l _ m n ((S.step st).setR2 c o r)⟩⟩
def Mp(MK:MkOk X ad A)(hg:L2.Gl X z)(hm:X.mg z=pi (.ref A))(hdb:(z==gV)=qu):PE X (.Call (.Name z np) [] [] cp) (Fw X ad A (λ_=>.rk rk0) []):=by
 obtain⟨f,k',fd,ps,M,F,J,B⟩:=MK.ok;rintro u s m H Q I ⟨G,E,Z,K,W,E0,w,a2,Y,j⟩;refine CG (E:=λ_ _ _=>False) M F J hg hm B .nil (λu m H s e s' I h=>by obtain⟨_,_,_,_,_,_,_,_,_,_,_,_,_,_,z⟩:=h;exact z.elim) hdb u s m H Q I ?_;obtain⟨ds,n,v,_,_,j⟩:=j [] K H (Step.refl w) aI.nil;intro p g np d i;have gh:=v.gh;refine⟨p,g,n,rfl,gh.trans ((Same.upd_new d).trans (Same.upd_new (by rw[aD (qq i)];exact np))),gh.free np,gh.free d,i,aH,by rw[aD i,aH],λx U C l S T L N hk=>⟨rfl,?_⟩⟩;have back: ∀{c:Addr},upd (upd H g (.own p)) p (.ins A g []) c=qr->H c=qr:=λ{c} h=>by
  by_cases z:c=p;rw[z];exact np;by_cases q:c=g;rw[q];exact d;rw[aD z,aD q]at h;exact h
 have r:Same H l:=λb o e=>hk b o (aQ e np) (by rw[aD (aQ e np),aD (aQ e d)];exact e);exact j p g x U C n l ⟨Same.refl _,gh.trans r,r,λb y O=>absurd y O⟩ N λa t=>by
  simp only[av,ki,or_false]at t;rcases t with z|z|z|z|z;rw[z];exact np;rw[z];exact d;rw[z];exact back S;rw[z];exact back T;rw[z];exact back L
def rR(i j A:Nat)(e:F):FS:=λρ=>fC ρ (e ρ) λd=>.nx ((ρ.set i (.rk A rk0)).set j (.sh d))
def DU{kt k2}(O:StOk X ad C)(he:PE X e (Fw X ad A (λ_=>.rk rk0) []))(ha:ME X ad a f)(se:eX e)(sa:eX a)(hi:loc C x=pi i)(hj:loc C y=pi j)(ok:qI C x y px py e a=qt):
  MS X ad Z (.Assign [.Tuple [.Name x px,.Name y py] kt pt] (.Tuple [e,a] k2 pt2) pos) (rR i j A f):=by
 refine PS.imp (uF O he ha se sa hi hj ok) ?_;rintro M c H ⟨l,G,n,E,S,g,o⟩;exact⟨G,E c,g.1 c,G,n,E c,S.st.gh,S.sl,g.1 c,λI t K st m=>⟨[],t,st,m,rfl,λp L d T w z B b s u=>eQ ((S.step st).step b) g o λv J N Q h q r=>⟨_,_,rfl,r _ _ _ ((((S.step st).setR2 b s u).step h).set q)⟩⟩⟩
end
section
variable{ad:Ad}
def DV(he:LPE X Δ e te)(hs:swapsWith e qr pos.line X.env=pure qu):LPS X Δ (.Expr e pos) λD σ H=>te σ H λ_ H1=>D.nx σ H1:=by intro f L s σ H D T I h;refine wpAny_Expr_any (L2.thn (he f L s σ H _ T I h) λu i b=>?_) I.quiet hs;obtain⟨g,d,v,H1,c,_,q⟩:=b;exact⟨g,d,σ,H1,c,q⟩
def Iy(he:LPE X Δ e (AZ X ad A i M fs))(hs:swapsWith e qr pos.line X.env=pure qu):LMS X Δ ad Z (.Expr e pos) (Il A i M fs):=by refine LPS.imp (DV he hs) ?_;rintro n c H ⟨b,G,m,E,S,f,d⟩;exact L8 S f d λv y l j g h o k=>k c l j h
end
def l9(M:FM)(N:FR)(fs:L1 F):F:=λρ=>match args fs ρ with
 |.ok ds=>(match N ds with
  |.rk r=>(M r []).told
  |.ex c=>.ex c
  |.bad=>.bad)
 |.ex c=>.ex c
 |.bad=>.bad
section
variable{ad:Ad}
def Iz(he:PE X e (Fw X ad A N fs))(hst:eX e)(T:AJ X tn (spM X.K ad A 0 M))(hg:L2.Gl X tn)(hdb:(tn==gV)=qu):ME X ad (.Call (.Name tn p) [e] [] cp) (l9 M N fs):=by rintro ce s U H Q I ⟨G,z,E,hG,O,q,b⟩;obtain⟨fa,k,fd,prs,hm,hk,L,o,hb⟩:=T;refine wpAny_Call_Name_kw (eJ I hg hm ?_ hdb);refine i3 (h₀:=X.base) I.ok.mod.kin hk (L2.thn (cG he dR (aJ hst) cp _ s U H (λvs m=>∃g j d l i r h,vs=[.ref g]/\Same h m/\RackIn X.K ad A h m g r j d l i/\RK X.K ad h m (M r []).told Q E) I ?_) λus S J=>?_) (aJ hst) rfl;refine⟨G,E,q,G,z,E,hG,O,q,?_⟩;unfold l9 at b;rcases n:args fs z with B|c|_;rw[n]at b;intro vs h m u C;refine⟨B,h,u,C,fH n,?_⟩;simp only at b;rcases v:N B with r|c|_;rw[v]at b;intro g j d l i x t f y nw;exact⟨g,j,d,l,i,r,x,rfl,f.gh,y,RK.step (RK.step b u) f⟩;rw[v]at b;exact λx t f=>b x t (u.trans f);rw[v]at b;exact b.elim;rw[n]at b;exact b;rw[n]at b;exact b.elim;obtain⟨vs,Z,w,r2,g,j,d,l,i,r,h,rfl,gh,y,hq⟩:=J;exact⟨w.kIn,lR (vs:=[V.ref g]) (E:=xk ad E) L o hb w r2 ⟨h,g,r,j,d,l,i,[],[],rfl,gh,y,aI.nil,rfl,(t9 hq).impE λc t e=>⟨c,rfl,e⟩⟩ λe s' Y=>q ce Z S e s' w Y⟩
end
def mB(F:Fn)(cap:L1 Nat)(f:SK.F):SK.F:=λρ=>match Cu cap ρ with
 |some sl=>gN F (f sl)
 |none=>.bad
def NI(N:FR)(fs:L1 F):F:=λρ=>match args fs ρ with
 |.ok ds=>(match N ds with
  |.ex c=>.ex c
  |_=>.bad)
 |.ex c=>.ex c
 |.bad=>.bad
structure KRd where
 A:Nat
 M:FR
 fs:List F
def Mq(dE:Expr->L7 F)(C:SK.Ctx)(e:Expr):L7 KRd:=match e with
 |.Call f as kws _=>if kws.isEmpty then(cF f).bind λ(x,_)=>if as.isEmpty then qr else(match glo C x with
  |some (.rmk A n M)=>(eL dE as).bind λfs=>if fs.length=n then pi ⟨A,M,fs⟩ else qr
  |_=>qr)else qr
 |_=>qr
def DW(dE:Expr->L7 F)(C:SK.Ctx)(e:Expr):L7 F:=match e with
 |.Call f as kws _=>if kws.isEmpty then(cF f).bind λ(x,_)=>(one as).bind λa=>(match glo C x with
  |some (.rfn A M)=>(Mq dE C a).bind λr=>if r.A=A then pi (l9 M r.M r.fs)else qr
  |_=>qr)else qr
 |_=>qr
def DX(C:SK.Ctx)(e:Expr):L7 F:=match DW (bN 50 C) C e with
 |some f=>pi f
 |none=>(match Mq (bN 50 C) C e with
  |some r=>pi (NI r.M r.fs)
  |none=>bN 50 C e)
def Bq(tn:Str)(C:SK.Ctx):Expr->L7 (L1 Nat×F)
 |.Call (.Name x _) [l] [] _=>if x=tn/\C.sc.names.lookup x=pi .globalImplicit then(O2 l).bind λ(ps,body,sc)=>if DP ps&&uJ sc then(eL (λx=>eF C x) (aN sc)).bind λcap=>(DX ⟨C.tab,C.fns,sc,aN sc,[]⟩ body).map λf=>(cap,f)else qr else qr
 |_=>qr
structure TelX(X:Cx)(ad:Ad)(C:SK.Ctx)(tn:Str)(F:Fn)(k:Nat)(P:Addr):Prop where
 O:CtxOk X ad C
 B:ExcK X.K ad
 TB:dG X.prog X.w X.K X.mg X.base ad k C.tab
 FB:eY X.prog X.w X.K X.mg X.base ad k C.fns
 told: ∃ft fd dn,X.mg tn=pi (.ref ft)/\l7 X.K (.ref ft)=qt/\j4 X.prog X.w X.K X.mg X.base ad (k+1) ft fd dn F/\∀(s:Shared) (u:Value),X.K.In s.heap->BindsTo s fd ⟨[u],[]⟩ [(dn,u)]
 tdb:(tn==gV)=qu
 room:Room (k+2) X.A
 hB:X.base.BuiltinsAt X.mg P
section
variable{X:Cx}{ad:Ad}{C:SK.Ctx}{n k:Nat}{e:Expr}{sl:L1 SK.Slot}{F:Fn}{f:SK.F}{q:Str}
def Br(hE:nO ad n)(O:CtxOk X ad C){r}(h:Mq (bN n C) C e=pi r):PE X e (Fw X ad r.A r.M r.fs)/\∃a b c d,e= .Call a b c d:=by unfold Mq at h;split at h;rename_i f j w E;refine⟨?_,_,_,_,_,rfl⟩;split at h;rename_i u;cases dB u;have l:=zBd h;clear h;obtain⟨⟨x,p⟩,v,h⟩:=l;cases aV v;simp only at h;split at h;cases h;rename_i g;split at h;rename_i A n M q;obtain⟨fs,s,h⟩:=zBd h;split at h;rename_i m;cases h;obtain⟨o,y,z⟩:=O.gl q;rcases j with _|⟨a,dF⟩;exact absurd rfl g;obtain⟨B,i⟩:=oS hE O s;exact O8 z o y B m (aJ (i a (.head _))) (jF λe t=>i e (.tail _ t));cases h;cases h;cases h;cases h
def w9(hE:nO ad n)(O:CtxOk X ad C)(h:DW (bN n C) C e=pi f):ME X ad e f:=by unfold DW at h;split at h;split at h;rename_i q;cases dB q;have g:=zBd h;clear h;obtain⟨⟨x,p⟩,s,h⟩:=g;cases aV s;have g:=zBd h;clear h;obtain⟨a,o,h⟩:=g;cases bX o;split at h;rename_i A M l;have g:=zBd h;clear h;obtain⟨r,i,h⟩:=g;split at h;rename_i u;cases h;subst u;obtain⟨j,v,w⟩:=O.gl l;obtain⟨m,t⟩:=Br hE O i;exact Iz m (by obtain⟨a,b,c,d,e⟩:=t;rw[e];trivial) w j v;cases h;cases h;cases h;cases h
def IA{K}(h:RK K ad G H (gN F x) Q λ_ _=>False):tlM K ad F (λG H Q E=>RK K ad G H x Q E) G H Q:=by rcases x with d|f|c|_;exact h;exact h;exact λe g b=>⟨c,rfl,e,b,RK.step (show RK K ad G H (exR F c) Q λ_ _=>False from h) b⟩;exact h
def DY{tab}{fns}{sc}{body}(B:ExcK X.K ad)(TB:dG X.prog X.w X.K X.mg X.base ad k tab)(FB:eY X.prog X.w X.K X.mg X.base ad k fns)(hs:uJ sc=qt)(h:DX ⟨tab,fns,sc,aN sc,[]⟩ body=pi f):
  ∃tb:Cx->TE,(∀a cd cl A outer s H E,Room k (A.deeper (Dm q sc s.z a cd cl))->PE (cxL (CXe X.prog X.w) X.prog X.w X.K X.mg X.base (aN sc) q sc a cd cl A outer s H E) body (tb (cxL (CXe X.prog X.w) X.prog X.w X.K X.mg X.base (aN sc) q sc a cd cl A outer s H E)))/\
   ∀Y (vs:L1 V) G1 H1 Q1 E1,Y.K=X.K->DefX Y E1->Same G1 H1->SL X.K ad G1 H1 sl (vs.map pi)->RK X.K ad G1 H1 (f sl) Q1 (λc H'=>E1 (.ref (ad.cls c)) qr H')->tb Y (vs.map pi) H1 Q1:=by
 have m:(∀Y:Cx,CtxOk Y ad ⟨tab,fns,sc,aN sc,[]⟩->ME Y ad body f)\/∃r,Mq (bN 50 ⟨tab,fns,sc,aN sc,[]⟩) ⟨tab,fns,sc,aN sc,[]⟩ body=pi r/\f=NI r.M r.fs:=by
  unfold DX at h;split at h;rename_i I x;cases h;exact .inl λY O=>w9 (bV (ad:=ad) 50).1 O x;split at h;rename_i r n;cases h;exact .inr ⟨r,n,rfl⟩;exact .inl λY O=>((bV (ad:=ad) 50).1 _ _ _ _ O h).1
 rcases m with m|⟨r,n,rfl⟩;exact⟨λY=>tE Y ad f,λa cd cl A outer s H E e=>m _ (O1 B TB FB hs e),λY vs G1 H1 Q1 E1 g i o d b=>⟨G1,sl,_,o,by rw[g];exact d,lW i,by rw[g];exact b⟩⟩;refine⟨λY=>Fw Y ad r.A r.M r.fs,λa cd cl A outer s H E e=>(Br (bV (ad:=ad) 50).1 (O1 B TB FB hs e) n).1,λY vs G1 H1 Q1 E1 g i o d b=>?_⟩;refine⟨G1,λc H'=>E1 (.ref (ad.cls c)) qr H',lW i,G1,sl,λc H'=>E1 (.ref (ad.cls c)) qr H',o,by rw[g];exact d,lW i,?_⟩;unfold NI at b;rcases j:args r.fs sl with u|c|_;rw[j]at b;intro C y G t v;refine⟨u,y,t,v,fH j,?_⟩;simp only at b;rcases l:r.M u with _|c|_;rw[l]at b;exact b.elim;rw[l]at b;exact λz H' p=>b z H' (t.trans p);rw[l]at b;exact b.elim;rw[j]at b;exact b;rw[j]at b;exact b.elim
end
section
variable{ad:Ad}{F:Fn}
def xA(h:Bq tn C e=pi (cap,f)): ∃p lp cp body sc,e= .Call (.Name tn p) [.Lambda ⟨[],[],qr,[],[],qr,[]⟩ body sc lp] [] cp/\C.sc.names.lookup tn=pi .globalImplicit/\uJ sc=qt/\eL (λx=>eF C x) (aN sc)=pi cap/\DX ⟨C.tab,C.fns,sc,aN sc,[]⟩ body=pi f:=by unfold Bq at h;split at h;rename_i x p l cp;split at h;rename_i b;obtain⟨rfl,i⟩:=b;have b:=zBd h;clear h;obtain⟨⟨o,body,sc⟩,n,h⟩:=b;obtain⟨lp,rfl⟩:=Bl n;simp only at h;split at h;rename_i d;rw[aw]at d;cases w6 d.1;have b:=zBd h;clear h;obtain⟨j,c,h⟩:=b;obtain⟨m,g,h⟩:=zMd h;cases h;exact⟨_,_,_,_,_,rfl,i,d.2,c,g⟩;cases h;cases h;cases h
def xB(L:TelX X ad C tn F k P)(hfn: ∀x j,eF C x=pi j->X.fn x=qt)(hx:P∈X.ex)(hq:X.env.qual++"<lambda>"=q)(hcode:X.env.code= .ref c)(hC:mi X.base c P)(h:Bq tn C e=pi (cap,f)):LPE X (TbL P q) e (tE X ad (mB F cap f)):=by
 obtain⟨p,lp,cp,ag,sc,rfl,y,hl,b,U⟩:=xA h;rintro ce L0 s σ H Q T I ⟨G,ρ,E,hG,hS,ak,g⟩;unfold mB at g;rcases n:Cu cap ρ with _|sl;rw[n]at g;exact g.elim;rw[n]at g;replace g:RK X.K ad G H (gN F (f sl)) Q E:=g;obtain⟨ft,fd,dn,t1,t2,t3,t4⟩:=L.told;have Z:mi s.heap c P:=by
  obtain⟨o,J,t,tf,m,tg,A,u,tt,l,r⟩:=hC;exact⟨o,J,t,tf,m,tg,A,u,tt,(I.bs _ _ l).1,r⟩
 have hB:s.heap.BuiltinsAt X.mg P:=by
  obtain⟨bm,o,b1,b2,b3,b4,b5,r⟩:=L.hB;exact⟨bm,o,b1,b2,b3,b4,(I.bs _ _ b5).1,r⟩
 obtain⟨tb,v,w⟩:=DY (sl:=sl) L.B L.TB L.FB hl U;refine wX (k:=k) (F:=F) (cap:=cap) (dn:=dn) (fd:=fd) (ad:=ad) (ds:=sl) (Φ:=λG H Q E=>RK X.K ad G H (f sl) Q E) (tb:=tb) (λx hx=>let ⟨j,l⟩:=i9 b x (jA hx);hfn x j l) (L.O.gk _ y) t1 L.tdb t2 t3 L.room t4 hx rfl hq (λx hx=>?_) hcode Z hB (l8 hl).1 (λ_ _ _ _=>rfl) (fJ b) (λi x hi=>?_) v T I hG hS n (λY J G1 H1 Q1 E1 yk S M st1 z al ab=>w Y J G1 H1 Q1 E1 yk S M z ab) (IA ?_);obtain⟨j,l⟩:=i9 b x (jA hx);exact L.O.cap x j l;obtain⟨j,l,e2⟩:=oV b i x hi;refine⟨j,l,?_,L.O.cap x j e2⟩;rw[L.O.N];exact gL (eU e2).1;cases e:gN F (f sl)with
 |ok d=>rw[e]at g;exact g
 |ow xs=>rw[e]at g;exact g
 |ex c=>exact absurd e (oW _ c)
 |bad=>rw[e]at g;exact g
end
structure MRd where
 A:Nat
 i:Nat
 M:FM
 fs:List F
def Bs(h:rkc C=pi (A,ms)):C.tab.lookup ("Rack":Str)=pi (SK.Gl.cls A ms):=by unfold rkc at h;split at h;rename_i e;cases h;exact e;cases h
def Bt(e:Expr):L7 Str:=match e with
 |.Call f as kws _=>if as.isEmpty&&kws.isEmpty then(cF f).map (·.1)else qr
 |_=>qr
def Bu(h:Bt e=pi z): ∃np cp,e= .Call (.Name z np) [] [] cp:=by unfold Bt at h;split at h;split at h;rename_i b;rw[aw]at b;cases dB b.1;cases dB b.2;obtain⟨⟨x,p⟩,c,rfl⟩:=zMd h;cases aV c;exact⟨_,_,rfl⟩;cases h;cases h
def JL(st:Stmt):L7 (Expr×Expr):=match st with
 |.Assign ts e _=>(one ts).map λt=>(t,e)
 |_=>qr
def mC{st}(h:JL st=pi (t,e)): ∃p,st= .Assign [t] e p:=by unfold JL at h;split at h;obtain⟨d,b,c⟩:=zMd h;cases bX b;cases c;exact⟨_,rfl⟩;cases h
structure GCl where
 g:Str
 gp:Pos
 x:Str
 xp:Pos
 as:List Expr
 cp:Pos
def O9(e:Expr):L7 GCl:=match e with
 |.Call f as kws cp=>if kws.isEmpty then(cF f).bind λ(g,gp)=>(match as with
  |[]=>qr
  |a::r=>(cF a).map λ(x,xp)=>⟨g,gp,x,xp,r,cp⟩)else qr
 |_=>qr
def IB(h:O9 e=pi c):e= .Call (.Name c.g c.gp) (.Name c.x c.xp::c.as) [] c.cp:=by unfold O9 at h;split at h;split at h;rename_i hk;cases ko.mp hk;have d:=zBd h;clear h;obtain⟨⟨g,gp⟩,b,h⟩:=d;cases aV b;simp only at h;split at h;cases h;obtain⟨⟨x,xp⟩,f,rfl⟩:=zMd h;cases aV f;rfl;cases h;cases h
abbrev GMs:=L1 (Str×Nat×FM)
def rdG(gms:GMs)(A:Nat)(C:SK.Ctx)(e:Expr):L7 MRd:=(O9 e).bind λc=>(gms.lookup c.g).bind λ(n,M)=>if C.sc.names.lookup c.g=pi .globalImplicit then(loc C c.x).bind λi=>(eL (bN 50 C) c.as).bind λfs=>if fs.length=n then pi ⟨A,i,M,fs⟩ else qr else qr
def IC:Expr->L7 (Expr×CmpOp×Expr)
 |.Compare a ops cs _=>(match ops with
  |[op]=>(one cs).map λb=>(a,op,b)
  |_=>qr)
 |_=>qr
def DZ(h:IC e=pi (a,op,b)): ∃p,e= .Compare a [op] [b] p:=by unfold IC at h;split at h;split at h;obtain⟨f,c,d⟩:=zMd h;cases d;cases bX c;exact⟨_,rfl⟩;cases h;cases h
def NJ(C:SK.Ctx)(e:Expr):L7 Nat:=(Bt e).bind λx=>if x=("Rack":Str)/\C.sc.names.lookup x=pi .globalImplicit then(rkc C).map (·.1)else qr
noncomputable def Bv:Expr->Bool
 |.Call _ _ _ _=>qt
 |_=>qu
def rS(h:Bv e=qt): ∃a b c d,e= .Call a b c d:=by
 cases e with
 |Call a b c d=>exact⟨_,_,_,_,rfl⟩
 |_=>cases h
noncomputable def vEx:Stmt->L7 Expr
 |.Expr e _=>pi e
 |_=>qr
def Mr{st}(h:vEx st=pi e): ∃p,st= .Expr e p:=by cases st<;>first|(cases h;exact⟨_,rfl⟩)|(cases h;done)
def Pa(C:SK.Ctx)(st:Stmt):L7 FS:=(JL st).bind λ(t,e)=>(Gm t).bind λ(es,_)=>(KH es e).bind λq=>(NJ C q.a).bind λr=>(loc C q.x).bind λi=>(loc C q.y).bind λj=>(bN 50 C q.b).bind λf=>if qI C q.x q.y q.px q.py q.a q.b=qt then pi (rR i j r f)else qr
def Pb(C:SK.Ctx)(rd:Expr->L7 MRd)(st:Stmt):L7 FS:=(vEx st).bind λe=>if Bv e then(rd e).map λr=>Il r.A r.i r.M r.fs else qr
structure RD where
 m:Expr->Option MRd
 tn:Str
 F:Fn
def ID(rd:RD)(C:SK.Ctx)(st:Stmt):L7 FS:=(JL st).bind λ(t,e)=>(cF t).bind λ(x,_)=>(Bq rd.tn C e).bind λ(cap,f)=>(loc C x).map λi=>fL i (mB rd.F cap f)
def Bw(i j:Nat)(f g:F):FS:=λρ=>fC ρ (f ρ) λd=>match g ρ with
 |.ow xs=>.nx ((ρ.set i (.sh d)).set j (.ow xs))
 |_=>.rt .bad
def Pc(C:SK.Ctx)(st:Stmt):L7 FS:=(JL st).bind λ(t,e)=>(Gm t).bind λ(es,_)=>(KH es e).bind λq=>(loc C q.x).bind λi=>(loc C q.y).bind λj=>(bN 50 C q.a).bind λf=>(bN 50 C q.b).bind λg=>
 if C.bs.contains q.y=qt/\qI {C with bs:=[]} q.x q.y q.px q.py q.a q.b=qt then pi (Bw i j f g)else qr
def Qo(rd:RD)(C:SK.Ctx)(e:Expr):L7 F:=match Bq rd.tn C e with
 |some (cap,f)=>pi (mB rd.F cap f)
 |none=>DW (bN 50 C) C e
structure CmV where
 elt:Expr
 tg:Expr
 it:Expr
 sc:Scope
noncomputable def IE:Expr->L7 CmV
 |.ListComp elt gens sc _=>(match gens with
  |[⟨tg,it,ifs,n⟩]=>if n=0/\ifs.isEmpty=qt then pi ⟨elt,tg,it,sc⟩ else qr
  |_=>qr)
 |_=>qr
def D0(h:IE e=pi c): ∃p,e= .ListComp c.elt [⟨c.tg,c.it,[],0⟩] c.sc p:=by unfold IE at h;split at h;split at h;split at h;rename_i d;obtain⟨rfl,b⟩:=d;cases ko.mp b;cases h;exact⟨_,rfl⟩;cases h;cases h;cases h
def IF(rd:RD)(C:SK.Ctx)(e:Expr):L7 F:=(IE e).bind λv=>(bT v.tg).bind λ(xs,k)=>(Cs 50 C (k != 0) v.it).bind λfi=>if iY v.sc xs=qt/\aN v.sc=[]then
 (Qo rd {C with sc:=v.sc,N:=xs++aN v.sc} v.elt).map λe=>aY k [] fi qr e else qr
def NK(rd:RD)(C:SK.Ctx)(e:Expr):L7 F:=(IC e).bind λ(a,op,b)=>(IF rd C a).bind λf=>(bN 50 C b).map λg=>bR op f g
def QZ(rd:RD)(C:SK.Ctx)(st:Stmt):L7 FS:=(JK st).bind λe=>(NK rd C e).map dM
def ifC(rd:RD)(C:SK.Ctx)(st:Stmt):L7 FS:=(NG st).bind λ(c,a,b)=>(NK rd C c).bind λf=>(kH 50 qt C a).bind λg=>(kH 50 qt C b).map λh=>O0 (Im f) g h
noncomputable def orS(a:L7 FS)(b:L7 FS):L7 FS:=match a with
 |some g=>pi g
 |none=>b
mutual
def gS:Nat->RD->SK.Ctx->Stmt->L7 FS
 |0,_,_,_=>qr
 |n+1,rd,C,st=>orS (Pa C st) (orS (Pb C rd.m st) (orS (ID rd C st) (orS (Pc C st) (orS (QZ rd C st) (orS (ifC rd C st) (match st with
  |.For tg it b [] _=>(bT tg).bind λ(xs,k)=>(Qd C qu it).bind λf=>(eL (λx=>loc C x) xs).bind λis=>(gSs n rd C b).map λg=>dU (jR C it) (vM is (k==0) f g)
  |st=>Ct 50 qt C st))))))
def gSs:Nat->RD->SK.Ctx->L1 Stmt->L7 FS
 |0,_,_,_=>qr
 |n+1,rd,C,l=>match l with
  |[]=>pi bC
  |st::r=>(gS n rd C st).bind λg=>(gSs n rd C r).map λh=>aT g h
end
structure LawG(X:Cx)(ad:Ad)(C:SK.Ctx)(Δ:Pl->Prop)(rd:RD):Prop where
 O:StOk X ad C
 pass:PassesOwn (model X.prog X.w) X.A X.env X.xe
 made: ∀A ms,C.tab.lookup ("Rack":Str)=pi (SK.Gl.cls A ms)->MkOk X ad A
 tx: ∃k P c q,TelX X ad C rd.tn rd.F k P/\P∈X.ex/\X.env.qual++"<lambda>"=q/\X.env.code= .ref c/\mi X.base c P/\∀{Y:Cx} {e:Expr} {t:TE},LPE Y (TbL P q) e t->LPE Y Δ e t
 dl:ExO X Δ X.ex
 rd: ∀e r,rd.m e=pi r->LPE X Δ e (AZ X ad r.A r.i r.M r.fs)
section
variable{X:Cx}{ad:Ad}{C:SK.Ctx}{Δ:Pl->Prop}{rd:RD}{e:Expr}{Z:(St->Nat->Hp->Prop)->Prop}
def Bx(O:StOk X ad C)(mk: ∀A ms,C.tab.lookup ("Rack":Str)=pi (SK.Gl.cls A ms)->MkOk X ad A)(h:NJ C e=pi A):PE X e (Fw X ad A (λ_=>.rk rk0) [])/\∃a b c d,e= .Call a b c d:=by unfold NJ at h;have l:=zBd h;clear h;obtain⟨x,j,h⟩:=l;obtain⟨p,o,rfl⟩:=Bu j;split at h;rename_i i;obtain⟨rfl,m⟩:=i;obtain⟨⟨B,ms⟩,g,rfl⟩:=zMd h;obtain⟨n,f,_,_⟩:=O.cx.gt _ _ (Bs g);exact⟨Mp (mk B ms (Bs g)) (O.cx.gk _ m) f n,_,_,_,_,rfl⟩;cases h
def IG(O:StOk X ad C)(mk: ∀A ms,C.tab.lookup ("Rack":Str)=pi (SK.Gl.cls A ms)->MkOk X ad A){st}(h:Pa C st=pi g):MS X ad Z st g:=by unfold Pa at h;have l:=zBd h;clear h;obtain⟨⟨t,e⟩,w,h⟩:=l;have l:=zBd h;clear h;obtain⟨⟨E,k,H⟩,s,h⟩:=l;have l:=zBd h;clear h;obtain⟨q,n,h⟩:=l;have l:=zBd h;clear h;obtain⟨r,o,h⟩:=l;obtain⟨i,u,h⟩:=zBd h;obtain⟨j,y,h⟩:=zBd h;obtain⟨f,m,h⟩:=zBd h;split at h;rename_i v;cases h;obtain⟨z,rfl⟩:=mC w;cases uC s;obtain⟨G,B,rfl,rfl⟩:=uG n;obtain⟨p,x⟩:=Bx O mk o;exact DU O p (((bV (ad:=ad) 50).1 X C _ _ O.cx m).1) (by obtain⟨a,b,c,d,e⟩:=x;rw[e];trivial) (aL m).1 u y v;cases h
def IH(L:LawG X ad C Δ rd){st}(h:Pb C rd.m st=pi g):LMS X Δ ad Z st g:=by unfold Pb at h;have j:=zBd h;clear h;obtain⟨e,i,h⟩:=j;obtain⟨p,rfl⟩:=Mr i;split at h;rename_i f;obtain⟨r,l,rfl⟩:=zMd h;obtain⟨a,b,c,d,rfl⟩:=rS f;exact Iy (L.rd _ _ l) rfl;cases h
def II(O:StOk X ad C)(hi:loc C x=pi i)(he:LPE X Δ e (tE X ad f))(hs:swapsWith e (pi (.Name x pos')) pos.line X.env=pure qu):
  LMS X Δ ad Z (.Assign [.Name x pos'] e pos) (fL i f):=by
 have nm:=O.nm hi;rintro n L s h H D T I ⟨j,G,z,E,S,g,l⟩;refine wpAny_Assign_Name (L2.thn (he n L s h H _ T I (eQ (Q':=λv b=>D.nx (h.set i (pi v)) b) S g l λv d q b o r k=>k _ q b ((S.step o).set r))) λv B c=>?_) hs;obtain⟨w,p,y,b,m,u,q1⟩:=c;exact fS m O.cx.nd nm.1 nm.2.1 u (λA t=>⟨w,p,_,b,t,q1⟩) nm.2.2
def IJ{st}(h1:LMS X Δ ad Z st g):LMS X Δ ad Z st (dU is g):=by rcases is with _|⟨i,is⟩;exact h1;rintro n L s l H m T I ⟨b,G,o,E,S,d,c⟩;obtain⟨f,e,h,_,j⟩:=S.frz (is:=i::is) I;exact h1 n L s l e m T j ⟨b,f,_,E,h,d,c⟩
def D1(L:LawG X ad C Δ rd){st}(h:ID rd C st=pi g):LMS X Δ ad Z st g:=by unfold ID at h;have b:=zBd h;clear h;obtain⟨⟨t,e⟩,s,h⟩:=b;have b:=zBd h;clear h;obtain⟨⟨x,p⟩,r,h⟩:=b;have b:=zBd h;clear h;obtain⟨⟨n,f⟩,d,h⟩:=b;obtain⟨i,o,rfl⟩:=zMd h;obtain⟨u,rfl⟩:=mC s;cases aV r;obtain⟨w,P,c,q,T,m,j,l,v,up⟩:=L.tx;refine II L.O o (up (xB T (λx _ _=>L.O.fn x) m j l v d)) ?_;obtain⟨_,_,_,_,_,rfl,_⟩:=xA d;rfl
def IL{i j kt k2}(O:StOk X ad C)(ha:ME X ad a fa)(hb:ME X ad b fb)(sa:eX a)(sb:eX b)(hi:loc C x=pi i)(hj:loc C y=pi j)(ok:qI {C with bs:=[]} x y px py a b=qt):
  MS X ad Z (.Assign [.Tuple [.Name x px,.Name y py] kt pt] (.Tuple [a,b] k2 pt2) pos) (Bw i j fa fb):=by
 refine PS.imp (uF O ha hb sa sb hi hj ok) ?_;rintro B h H ⟨l,G,f,E,S,g,o⟩;refine eQ S g o λv d s A st r k=>?_;rcases e:fb f with _|I|_|_;rw[e]at k;exact k.elim;rw[e]at k;have c:=S.step st;refine⟨s,f,E h,c.st.gh,c.sl,g.1 h,?_⟩;rw[e];exact λp z t u st2 n m w q=>⟨_,_,rfl,k _ t u ((c.set r).setOw st2 n m w q)⟩;rw[e]at k;exact k.elim;rw[e]at k;exact k.elim
def IM(O:StOk X ad C){st}(h:Pc C st=pi g):MS X ad Z st g:=by unfold Pc at h;have b:=zBd h;clear h;obtain⟨⟨t,e⟩,r,h⟩:=b;have b:=zBd h;clear h;obtain⟨⟨w,k,y⟩,n,h⟩:=b;have b:=zBd h;clear h;obtain⟨q,l,h⟩:=b;obtain⟨i,m,h⟩:=zBd h;obtain⟨j,o,h⟩:=zBd h;obtain⟨f,d,h⟩:=zBd h;obtain⟨v,c,h⟩:=zBd h;split at h;rename_i p;cases h;obtain⟨s,rfl⟩:=mC r;cases uC n;obtain⟨x,u,rfl,rfl⟩:=uG l;exact IL O (((bV (ad:=ad) 50).1 X C _ _ O.cx d).1) (((bV (ad:=ad) 50).1 X C _ _ O.cx c).1) (aL d).1 (aL c).1 m o p.2;cases h
def TelX.comp(T:TelX X ad C rd.tn rd.F k P){xs:L1 Str}{pins':Pl}(O':CtxOk (cX X N' sc s3 H3 fp pins') ad {C with sc:=sc,N:=N'}):TelX (cX X N' sc s3 H3 fp pins') ad {C with sc:=sc,N:=N'} rd.tn rd.F k P:=
 ⟨O',T.B,T.TB,T.FB,T.told,T.tdb,T.room,T.hB⟩
def D2(L:LawG X ad C Δ rd)(h:IF rd C e=pi f):LPE X Δ e (tE X ad f):=by
 unfold IF at h;have m:=zBd h;clear h;obtain⟨v,G,h⟩:=m;obtain⟨U,rfl⟩:=D0 G;have m:=zBd h;clear h;obtain⟨⟨xs,k⟩,A,h⟩:=m;obtain⟨K,u,h⟩:=zBd h;split at h;case isFalse=>cases h
 rename_i i;obtain⟨i,n⟩:=i;obtain⟨fe,t,rfl⟩:=zMd h;have O:=L.O.cx;have B:eL (λx=>eF C x) (aN v.sc)=pi []:=by rw[n];rfl
 obtain⟨W,I⟩:=Fg A;obtain⟨c1,S,c3,c4,c5,Z,c7⟩:=hJ i;have o: ∀s r p d,CtxOk (cX X (xs++aN v.sc) v.sc r p s d) ad {C with sc:=v.sc,N:=xs++aN v.sc}:=λs r p d=>Fa O i B;refine v7 (ex0:=X.ex) O.calm L.dl (rB O i B) ((bV (ad:=ad) 50).2.2 X C v.tg _ _ K O I u).1 (λa b c z=>?_) W (A6 O i A) (λ_ _ _ _=>trivial) λs r p d w=>?_
 .rw[z]at u;exact gO u
 .unfold Qo at t;split at t
  .rename_i Q f' M;cases t;obtain⟨k',P,c,q,T,E,H,J,Y,up⟩:=L.tx;refine up (xB (T.comp (xs:=xs) (o s r p d)) (λx j m=>?_) (w _ E) H J Y M);refine decide_eq_true ?_;obtain⟨j1,hk⟩:=eU m;rcases hk with hk|hk
   .have g:x∈oC v.sc:=by
     unfold oC;exact au.mpr ⟨(x,.cell),kz.mpr ⟨ii hk,rfl⟩,rfl⟩
    rcases S with z|⟨z,l⟩
    .rw[z]at g;cases g
    .obtain⟨y,rfl⟩:=fy.mp l;rw[z]at g ⊢;rw[ja.mp g]
   .have g:x∈aN v.sc:=by
     unfold aN;exact au.mpr ⟨(x,.free),kz.mpr ⟨ii hk,rfl⟩,rfl⟩
    rw[n]at g;cases g
  .exact Ao (w9 (bV (ad:=ad) 50).1 (o s r p d) t)
def Fx{σ:St}(h:tE X ad (bR op f g) σ H Q):tOp (Mb X ad op) (tE X ad f) (tE X ad g) σ H Q:=
 h.el λG p E n b c i=>dX n b c i λv d s q e r k=>dX e.gh (b.step e) c k λw m o t st2 j l=>⟨o,d,m,E,st2.gh,r.mono st2.sg,j,l⟩
def By(L:LawG X ad C Δ rd)(h:NK rd C e=pi f):LPE X Δ e (tE X ad f)/\LPT X Δ e (tTx X ad Z (Im f)):=by
 unfold NK at h;have j:=zBd h;clear h;obtain⟨⟨a,op,b⟩,h1,h⟩:=j;obtain⟨f1,h2,h⟩:=zBd h;obtain⟨g,Y,rfl⟩:=zMd h;obtain⟨p,rfl⟩:=DZ h1;have ha:=D2 L h2;have mb:=((bV (ad:=ad) 50).1 X C _ _ L.O.cx Y).1;have hm:behindInMarks op b=qu:=fY (aL Y).2.1;refine⟨λB U s d H Q T I h=>?_,?_⟩;exact wpAny_Compare1 (L2.thn (ha B U s d H _ T I (Fx h)) λv N i=>by obtain⟨w,n,x,K,m,W,J⟩:=i;exact L2.thn (mb _ N d K _ m J) λu l i=>by obtain⟨y,t,r,A,o⟩:=i;exact L2.thn (Bj L.O.cx.un _ l d t x y v u _ r W A o) λc s3 hz=>⟨w,n,hz⟩) hm;rintro B U s d H Q T I ⟨ab,G,ρ,D',E,k,S,j,hr,q⟩;have M:=Fx (f:=f1) (g:=g) ⟨G,ρ,E d,S.st.gh,S.sl,j.1 d,(Mc S hr q).1⟩;refine wpAny_isTrue_Compare1 (L2.thn (ha B U s d H _ T I M) λv N ⟨w,n,x,K,m,W,J⟩=>L2.thn (mb _ N d K _ m J) λu l ⟨y,t,r,A,o⟩=>
  L2.thn (Bj L.O.cx.un _ l d t x y v u _ r W A o) λc s3 ⟨z,H3,I3,r3,k,e,q3⟩=>?_) hm
 subst e;cases r3;exact wpAny_truthy_bool ⟨w,n,H3,I3,q3⟩
def nT{P:FS->Prop}(h:orS a b=pi g)(ha: ∀g,a=pi g->P g)(hb: ∀g,b=pi g->P g):P g:=by rcases a with _|x;exact hb g h;exact ha g h
theorem Ms{E₀}(L:LawG X ad C Δ rd): ∀n,(∀st g,gS n rd C st=pi g->LMS X Δ ad (Zt ad E₀ qt) st g)/\∀l g,gSs n rd C l=pi g->Hb X Δ ad (Zt ad E₀ qt) l g
 |0=>⟨(λ_ _ h=>by cases h),(λ_ _ h=>by cases h)⟩
 |n+1=>by
  obtain⟨I,r⟩:=Ms (E₀:=E₀) L n;obtain⟨K,kL,J⟩:=bV (ad:=ad) 50;refine⟨λst g h=>?_,λl g h=>?_⟩;unfold gS at h;refine nT h (λg h=>Bp (IG L.O L.made h)) λg B=>nT B (λg h=>IH L h) λg T=>nT T (λg h=>D1 L h) λg M=>nT M (λg h=>Bp (IM L.O h)) λg Y=>nT Y (λg h=>?_) λg W=>nT W (λg h=>?_) λg h=>?_;obtain⟨e,i,h⟩:=zBd h;obtain⟨f,d,rfl⟩:=zMd h;obtain⟨p,rfl⟩:=uM i;exact LPS.imp (uH (By (Z:=Zt ad E₀ qt) L d).1) λD σ H t=>by obtain⟨w,G,ρ,E,S,o,N⟩:=t;exact Me S o N
  have o:=zBd h;clear h;obtain⟨⟨c,a,b⟩,i,h⟩:=o;obtain⟨f,d,h⟩:=zBd h;obtain⟨u,s,h⟩:=zBd h;obtain⟨j,v,rfl⟩:=zMd h;obtain⟨p,rfl⟩:=Bo i;have A:=(jG (ad:=ad) (E₀:=E₀) 50).2;exact Iw (By L d).2 (gK (A X C qt _ u L.O (λz=>nomatch z) s)) (gK (A X C qt _ j L.O (λz=>nomatch z) v));split at h;rename_i tg y b U _;have o:=zBd h;clear h;obtain⟨⟨xs,m⟩,i,h⟩:=o;obtain⟨f,d,h⟩:=zBd h;obtain⟨is,s,h⟩:=zBd h;obtain⟨j,v,rfl⟩:=zMd h;have q:MIG X ad tg y f/\∀a b c,y≠ .Set a b c:=by
   unfold Qd at d;split at d;exact⟨oN (K X C _ f L.O.cx d).1,λ_ _ _ z=>nomatch z⟩;rename_i Q;exact⟨(J X C tg _ qu f L.O.cx (λz=>nomatch z) d).2 rfl (λx p z=>Q x p z),λa b c z=>by subst z;exact gO d⟩
  exact IJ (AD L.pass L.O.cx.calm L.O.cx.nd q.1 i (L.O.nms s) (r _ j v) (Aw q.2));exact Bp ((jG (ad:=ad) (E₀:=E₀) 50).1 X C qt _ g L.O (λz=>nomatch z) h);unfold gSs at h;split at h;cases h;exact DT;obtain⟨u,i,h⟩:=zBd h;obtain⟨j,d,rfl⟩:=zMd h;exact q8 (I _ u i) (r _ j d)
end
def wN(C:SK.Ctx)(y:Str)(e:Expr):L7 FS:=(loc C y).bind λj=>(NJ C e).map λA=>NH j A
def wH(C:SK.Ctx)(o k e:Expr):L7 FS:=if Bv e then(rkc C).bind λ(A,_)=>(atF C "held" o).bind λi=>(bN 50 C k).bind λf=>(bN 50 C e).map λg=>uN A i f g else qr
def wA(C:SK.Ctx)(st:Stmt):L7 FS:=(JL st).bind λ(t,e)=>match t with
 |.Name y _=>wN C y e
 |.Subscript o k _=>wH C o k e
 |_=>qr
mutual
def wS:Nat->SK.Ctx->Stmt->L7 FS
 |0,_,_=>qr
 |n+1,C,s=>match wA C s with
  |some g=>pi g
  |none=>match s with
   |.If c a b _=>(bN 50 C c).bind λf=>(wSs n C a).bind λg=>(wSs n C b).map λh=>sIf f g h
   |.For tg it b els _=>if els.isEmpty then(bT tg).bind λ(xs,k)=>(Cs 50 C qu it).bind λf=>(eL (λx=>loc C x) xs).bind λis=>if(cF it).isNone then(wSs n C b).map λg=>vM is (k==0) f g else qr else qr
   |s=>Ct 50 qu C s
def wSs:Nat->SK.Ctx->L1 Stmt->L7 FS
 |0,_,_=>qr
 |n+1,C,ss=>match ss with
  |[]=>pi bC
  |[a]=>wS n C a
  |a::r=>(wS n C a).bind λf=>(wSs n C r).map λg=>aT f g
end
def IN:Stmt->L7 Str
 |.Return v _=>v.bind λe=>(cF e).map (·.1)
 |_=>qr
def wR:Nat->SK.Ctx->L1 Stmt->L7 (FS×Nat)
 |0,_,_=>qr
 |n+1,C,ss=>match ss with
  |[]=>qr
  |[a]=>(IN a).bind λx=>(loc C x).map λi=>(bC,i)
  |a::r=>(wS n C a).bind λf=>(wR n C r).map λ(g,i)=>(aT f g,i)
structure WOk(X:Cx)(ad:Ad)(C:SK.Ctx)(E₀:XK):Prop where
 O:StOk X ad C
 MK: ∀A ms,C.tab.lookup ("Rack":Str)=pi (SK.Gl.cls A ms)->MkOk X ad A
 dx:DefX X E₀
 po:PassesOwn (model X.prog X.w) X.A X.env X.xe
def D3{st}(h:IN st=pi x): ∃p q,st= .Return (pi (.Name x p)) q:=by unfold IN at h;split at h;obtain⟨e,b,h⟩:=zBd h;obtain⟨⟨y,p⟩,c,rfl⟩:=zMd h;cases aV c;cases b;exact⟨_,_,rfl⟩;cases h
section
variable{X:Cx}{ad:Ad}{C:SK.Ctx}{E₀:XK}{e:Expr}{st:Stmt}{g:FS}
def Pd(W:WOk X ad C E₀)(h:wA C st=pi g):MS X ad (Zt ad E₀ qu) st g:=by have O:=W.O;have s:=(bV (ad:=ad) 50).1;unfold wA at h;have l:=zBd h;clear h;obtain⟨⟨t,e⟩,u,h⟩:=l;simp only at h;split at h;rename_i y p;obtain⟨n,rfl⟩:=mC u;unfold wN at h;obtain⟨j,m,h⟩:=zBd h;obtain⟨r,I,rfl⟩:=zMd h;obtain⟨B,a,b,c,d,rfl⟩:=Bx O W.MK I;exact Mo O B m rfl;rename_i o k N;obtain⟨n,rfl⟩:=mC u;unfold wH at h;split at h;rename_i w;have l:=zBd h;clear h;obtain⟨⟨A,Q⟩,m,h⟩:=l;obtain⟨i,L,h⟩:=zBd h;obtain⟨f,G,h⟩:=zBd h;obtain⟨J,z,rfl⟩:=zMd h;obtain⟨x,p,q,rfl,H⟩:=iL L;have E:=O.cx.vis x i H;obtain⟨_,_,M,_⟩:=O.cx.gt _ _ (Bs m);have v:=(s X C _ f O.cx G).1;have K:=(s X C _ J O.cx z).1;obtain⟨a,b,c,d,rfl⟩:=rS w;exact Ix O.cx.un M E v K rfl;cases h;cases h
def Mt(W:WOk X ad C E₀): ∀n,(∀st g,wS n C st=pi g->MS X ad (Zt ad E₀ qu) st g)/\(∀ss g,wSs n C ss=pi g->MSs X ad (Zt ad E₀ qu) ss g):=by
 have O:=W.O;have y:=(bV (ad:=ad) 50).1;have I:=(bV (ad:=ad) 50).2.2;have kD: ∀st g,Ct 50 qu C st=pi g->MS X ad (Zt ad E₀ qu) st g:=λst g h=>(jG (ad:=ad) (E₀:=E₀) 50).1 X C qu _ g O (λ_=>⟨W.dx,W.po⟩) h;intro n;induction n with
 |zero=>
  refine⟨λst g h=>?_,λss g h=>?_⟩;unfold wS at h;cases h;unfold wSs at h;cases h
 |succ n B=>
  obtain⟨s,d⟩:=B;refine⟨λst g h=>?_,λss g h=>?_⟩;unfold wS at h;split at h;rename_i K v;cases h;exact Pd W v;split at h;obtain⟨f,j,h⟩:=zBd h;obtain⟨q,e,h⟩:=zBd h;obtain⟨l,o,rfl⟩:=zMd h;exact Hd (y X C _ f O.cx j).2.1 (d _ q e) (d _ l o);rename_i tg r b w H _;split at h;rename_i i;cases dB i;have u:=zBd h;clear h;obtain⟨⟨L,m⟩,j,h⟩:=u;obtain⟨f,e,h⟩:=zBd h;obtain⟨J,o,h⟩:=zBd h;split at h;rename_i A;obtain⟨l,G,rfl⟩:=zMd h;have E: ∀x p,r≠ .Name x p:=λx p z=>by subst z;cases A
  have t: ∀a b c,r≠ .Set a b c:=λa b c z=>by subst z;exact gO e
  exact E7 W.po O.cx.calm O.cx.nd ((I X C tg _ qu f O.cx (λz=>nomatch z) e).2 rfl E) j (O.nms o) (d _ l G) (Aw t);cases h;cases h;exact kD _ _ h;unfold wSs at h;split at h;cases h;exact oK;exact Az (s _ _ h);obtain⟨q,j,h⟩:=zBd h;obtain⟨l,e,rfl⟩:=zMd h;exact oM (s _ _ j) (d _ _ e)
def tR(X:Cx)(ad:Ad)(Z:(St->Nat->Hp->Prop)->Prop)(g:FS)(i:Nat):TS:=λD' σ H=>tS X ad Z g {D' with nx:=λσ' H'=>∃p,σ'[i]? =pi (pi (.ref p))/\D'.rt (.ref p) H'} σ H
theorem Mu(W:WOk X ad C E₀): ∀n ss g i,wR n C ss=pi (g,i)->PSs X ss (tR X ad (Zt ad E₀ qu) g i)
 |0,ss,g,i,h=>by unfold wR at h;cases h
 |n+1,ss,g,i,h=>by
  unfold wR at h;split at h;cases h;obtain⟨x,s,h⟩:=zBd h;obtain⟨j,o,e⟩:=zMd h;cases e;obtain⟨p,q,rfl⟩:=D3 s;have I:=W.O.cx.vis x _ o;refine n6 (PS.imp (vB (bZ I)) ?_);rintro z t H ⟨b,G,m,E,S,l,d⟩;obtain⟨B,v,w⟩:=(show OKo X ad b (.nx m) _ E from d) t G H S;exact⟨.ref B,v,w⟩;obtain⟨A,s,h⟩:=zBd h;have l:=zMd h;clear h;obtain⟨⟨K,j⟩,o,e⟩:=l;cases e;refine PSs.imp (kM ((Mt W n).1 _ _ s) (Mu W n _ _ _ o)) ?_;rintro z t H ⟨b,G,m,E,S,l,d⟩;refine⟨b,G,m,E,S,l,?_⟩;unfold aT at d;rcases e:A m with f|r|f|f|⟨c,f⟩;rw[e]at d;exact λJ u L y=>⟨b,u,f,E,y,l,d⟩;rw[e]at d;cases r<;>exact d;rw[e]at d;exact d;rw[e]at d;exact d;rw[e]at d;exact d
end
noncomputable def NL(A:Nat):L7 Slot->RR
 |some (.rk C r)=>if C=A then .rk r else .bad
 |_=>.bad
def Fy(A N:Nat)(g:FS)(i:Nat):FR:=λds=>match g (ds.map Slot.sh++ao (N-ds.length) .no)with
 |.nx ρ=>NL A ρ[i]?
 |.ex c _=>.ex c
 |_=>.bad
def rFn(tab:L1 (Str×SK.Gl))(A:Nat)(s:Stmt):L7 (Nat×FR):=match s with
 |.FunctionDef _ as b _ _ _ sc _ _ _=>(cT as).bind λP=>if bO (aA sc) P sc then(wR 100 ⟨tab,[],sc,aA sc,[]⟩ b).map λp=>(P.length,Fy A (aA sc).length p.1 p.2)else qr
 |_=>qr
def MkT(P:Program)(w:World)(K:Frag)(mg:Str->L7 Value)(base:Heap)(ad:Ad)(k:Nat)(tab:L1 (Str×SK.Gl)):Prop:= ∀A ms,tab.lookup ("Rack":Str)=pi (SK.Gl.cls A ms)->∃f r fd ps,r+1<=k/\Mk K A f/\FnOk P w K mg base (CXe P w) r f fd ps (spI K ad A)/\eE K fd ps []
section
variable{K:Frag}{ad:Ad}{tab:L1 (Str×SK.Gl)}
def IO{st}{F}(B:ExcK K ad)(TB:dG P w K mg base ad k tab)(mk:MkT P w K mg base ad k tab)(Fu:Fun K x qual st f fd)(hps:cT (defArgs st)=pi ps)(hd:rFn tab A st=pi (n,F)):FnOk P w K mg base (CXe P w) (k+1) f fd ps (spR K ad A n F):=by
 obtain⟨oc,od,kV,al,pm,an,v,ct,am,rfl,lk,ak⟩:=Fu.ex;cases st with
 |FunctionDef nm as b dl re tp j ts bi ap=>
  have I:((cT as).bind λPs=>if bO (aA j) Ps j then(wR 100 ⟨tab,[],j,aA j,[]⟩ b).map λp=>(Ps.length,Fy A (aA j).length p.1 p.2)else qr)=pi (n,F):=hd;have J:cT as=pi ps:=hps;rw[J]at I;have q:(if bO (aA j) ps j then(wR 100 ⟨tab,[],j,aA j,[]⟩ b).map λp=>(ps.length,Fy A (aA j).length p.1 p.2)else qr)=pi (n,F):=I;by_cases Z:bO (aA j) ps j=qt;rw[if_pos Z]at q;have hx:=zMd q;clear q I;obtain⟨⟨g,i⟩,hg,e⟩:=hx;cases e;obtain⟨S,nm⟩:=cI Z;refine CH lk ak S (λvs H Q E ⟨G,y,_,r,hl,_⟩=>by rw[r.length,hl]) λM l s H vs Q E hr ag=>?_;obtain⟨G,y,hG,r,hl,hq⟩:=ag;let C:SK.Ctx:=⟨tab,[],j,aA j,[]⟩;have O:StOk (jN (CXe P w) P w K mg base (aA j) qual j f v M l s H E) ad C:=j0 B TB eY.nil Z hr;have T:DefX (jN (CXe P w) P w K mg base (aA j) qual j f v M l s H E) E:=⟨rfl,rfl,rfl,λe s' h=>h⟩;have W:WOk (jN (CXe P w) P w K mg base (aA j) qual j f v M l s H E) ad C E:=⟨O,λA ms e=>let ⟨f,r,fd,ps,U,h2,h3,h4⟩:=mk A ms e;⟨f,r,fd,ps,h2,h3,hr.mono U,h4⟩,T,jv (Q₁:=λe ab=>CXe P w l H s E e ab)⟩;refine⟨_,Mu W 100 b g i hg,?_⟩;refine⟨G,G,y.map Slot.sh++ao ((aA j).length-y.length) .no,λN c t=>E (.ref (ad.cls c)) qr t,?_,⟨λN=>lW T,λ_ N c H h=>h⟩,?_⟩;have:=hU (X:=jN (CXe P w) P w K mg base (aA j) qual j f v M l s H E) (ad:=ad) (n:=(aA j).length-y.length) hG r;unfold L2.start;rw[r.length];exact this;have m:RRK K ad A G H (match g (y.map Slot.sh++ao ((aA j).length-y.length) .no)with
   |.nx z=>NL A z[i]?
   |.ex c _=>.ex c
   |_=>.bad) Q (λc t=>E (.ref (ad.cls c)) qr t):=hq
  cases e:g (y.map Slot.sh++ao ((aA j).length-y.length) .no)with
  |nx z=>
   rw[e]at m;intro N G' t L;have o:RRK K ad A G H (NL A (z[i]? :L7 Slot)) Q (λc t=>E (.ref (ad.cls c)) qr t):=m;cases Y:(z[i]? :L7 Slot)with
   |none=>rw[Y]at o;exact o.elim
   |some sl=>
    rw[Y]at o;rcases sl with _|_|_|_|_|⟨C',r1⟩;exact o.elim;exact o.elim;exact o.elim;exact o.elim;exact o.elim;have u:RRK K ad A G H (if C'=A then .rk r1 else .bad) Q (λc t=>E (.ref (ad.cls c)) qr t):=o;by_cases hc:C'=A;rw[if_pos hc]at u;subst hc;obtain⟨p0,dx,d,l1,l2,U,hR⟩:=L.sl.rk Y;exact⟨p0,U,u p0 dx d l1 l2 G' t L.st hR λa ha=>L.rs.h0 i _ ⟨C',r1,p0,dx,d,l1,l2,Y,U,hR.ins,rfl⟩ a ha⟩;rw[if_neg hc]at u;exact u.elim
  |bk z=>rw[e]at m;exact m.elim
  |ct z=>rw[e]at m;exact m.elim
  |ex c z=>rw[e]at m;exact λN G' t L=>m G' t L.st
  |rt r'=>rw[e]at m;exact m.elim
  rw[if_neg Z]at q;cases q
 |_=>cases hd
end
section
variable{P:Program}{w:World}{K:Frag}{mg:Str->L7 Value}{base h:Heap}{ad:Ad}{k:Nat}{tab:L1 (Str×SK.Gl)}{fns:L1 (Nat×Fn)}
theorem PQ.rfn(T:PQ P w K mg base h ad k tab fns)(x:Str)(st:Stmt)(f:Addr)(self:Str)(M:FM){A:Addr}{ms:L1 (Str×Nat×FM)}{oc:Value}{od an:L7 Addr}{osl:Array (L7 Value)}{kV doc pm cdv ct:Value}(l:K.lookup f=pi ⟨oc,od,.func (oj x x (defArgs st) (defBody st) (defScope st) .none kV doc pm an cdv ct),osl⟩)
  (hl:tab.lookup ("Rack":Str)=pi (SK.Gl.cls A ms)) (d:Ik tab A ms st=pi (0,M):=by kernel_rfl) (c:codeIn K cdv x=qt:=by kernel_rfl) (kp:keepIn K (.ref f)=qt:=by kernel_rfl) (hm:nsIn K mainGlobals x=pi (pi (.ref f)):=by kernel_rfl)
  (hdb:(x==gV)=qu:=by decide) (hps:cT (defArgs st)=pi [self]:=by rfl) (nd:[self].Nodup:=by decide):
  PQ P w K mg base h ad (k+1) ((x,.rfn A M)::tab) fns:=by
 have F:=lH (st:=st) l c kp;obtain⟨g,b,e⟩:=(T.t "Rack" _ hl).2;exact⟨dG.cons (T.t.mono (o3 k)) hdb ⟨f,k+1,_,_,aj _,nj T.X T.G hm,kp,Fp (k:=k) T.B T.t b e F hps d,F.binds λ_ _ _ _ _ _ i hl=>hW hps nd hl⟩,T.u.mono (o3 k),T.X,T.G,T.B⟩
theorem PQ.rmk(T:PQ P w K mg base h ad k tab fns)(mk:MkT P w K mg base ad k tab)(x:Str)(st:Stmt)(f:Addr)(ps:L1 Str)(n A:Nat)(M:FR){oc:Value}{od an:L7 Addr}{osl:Array (L7 Value)}{kV doc pm cdv ct:Value}(l:K.lookup f=pi ⟨oc,od,.func (oj x x (defArgs st) (defBody st) (defScope st) .none kV doc pm an cdv ct),osl⟩)
  (d:rFn tab A st=pi (n,M):=by kernel_rfl) (c:codeIn K cdv x=qt:=by kernel_rfl) (kp:keepIn K (.ref f)=qt:=by kernel_rfl) (hm:nsIn K mainGlobals x=pi (pi (.ref f)):=by kernel_rfl)
  (hdb:(x==gV)=qu:=by decide) (hps:cT (defArgs st)=pi ps:=by rfl) (nd:ps.Nodup:=by decide):
  PQ P w K mg base h ad (k+1) ((x,.rmk A n M)::tab) fns:=by
 have F:=lH (st:=st) l c kp;exact⟨dG.cons (T.t.mono (o3 k)) hdb ⟨f,k+1,_,_,aj _,nj T.X T.G hm,kp,IO (k:=k) T.B T.t mk F hps d,F.binds λ_ _ _ _ _ _ e b=>hW hps nd b⟩,T.u.mono (o3 k),T.X,T.G,T.B⟩
end
noncomputable def Mv(H:Hp)(Ps:L1 Addr):Hp:=λb=>if b∈Ps then pi (.lst [])else H b
def rT(h:Mv H Ps b=qr):H b=qr/\b∉Ps:=by unfold Mv at h;by_cases e:b∈Ps;rw[if_pos e]at h;cases h;rw[if_neg e]at h;exact⟨h,e⟩
def IP(h:H b=qr)(n:b∉Ps):Mv H Ps b=qr:=by unfold Mv;rw[if_neg n];exact h
noncomputable def tbs(Ps:L1 Addr):Pl:=Ps.map λP=>(P,mh #[])
def Bz{ad}(L:LawG (cxP Ps X) ad C Δ rd)(hg:gSs n rd C b=pi g)(I:Inv (cxP Ps X) [] (vs.map pi++ao m qr) H s)(hH:X.H₀=H)(hpn:X.pn=[])(hΔ:Δ (tbs Ps))(ht: ∀P∈Ps,s.heap.get? P=pi (mh #[])/\H P=qr/\P∉X.fs)(hG:Same G H)(r:aI X.K ad G ds vs)(hm:g (ds.map SK.Slot.sh++ao m .no)= .rt (.ok (.bl qt))):
  X.wp (execs b X.env) (λf s'=>f= .ret (.bool qt)/\∃σ' H' L,Δ L/\Inv (cxP Ps X) [] σ' H' s'/\∀p∈L,s'.heap.get? p.1=pi p.2) X.xe s:=by
 have o:Inv (cxP Ps X) (tbs Ps++[]) (vs.map pi++ao m qr) H s:=I.pins_of λp c=>by
  rw[k7]at c;obtain⟨P,j,rfl⟩:=au.mp c;obtain⟨x,E,l⟩:=ht P j;exact⟨x,E,(I.ok.exf P j).1,l,λv z=>nomatch z⟩
 have T:TD Δ (tbs Ps) ((cxP Ps X).pn++[]):=⟨hΔ,λp _ r y=>by
  have e:r∈X.pn++[]:=y;rw[hpn]at e;cases e⟩
 refine L2.thn ((Ms (E₀:=λ_ _ _=>False) L n).2 b g hg [] _ s _ H ⟨λ_ _=>False,λv _=>v= .bl qt,λ_ _=>False,λ_ _=>False⟩ T o ⟨G,G,ds.map SK.Slot.sh++ao m .no,λ_ _ _=>False,?_,⟨λS Y H s e s' _ t=>?_,λz=>nomatch z⟩,?_⟩) λf s' d=>?_;have h:Same G (cxP Ps X).H₀:=by
  show Same G X.H₀;rw[hH];exact hG
 have:=hU (X:=cxP Ps X) (ad:=ad) (n:=m) h r;have e:(cxP Ps X).H₀=H:=hH;rwa [e]at this;obtain⟨_,_,_,_,_,_,_,_,_,_,_,_,_,_,_,_,z⟩:=t;exact z.elim;rw[hm];intro v U H' Q q;unfold Rep at q;exact q;obtain⟨O,B,d⟩:=d;cases f with
 |next=>obtain⟨_,_,_,z⟩:=d;exact z.elim
 |brk=>obtain⟨_,_,_,z⟩:=d;exact z.elim
 |cont=>obtain⟨_,_,_,z⟩:=d;exact z.elim
 |ret u=>
  obtain⟨v,σ',H',J,N,M⟩:=d;have i:v= .bl qt:=M;subst i;obtain rfl:u=pd qt:=N;exact⟨rfl,σ',H',O,B.tb,J.pins_of (λp c=>by cases c),λp c=>(J.pin p (bt _ (gy _ c))).1⟩
section
variable{K:Frag}{ad:Ad}{kV:Value}{cL:Nat}{CP:L1 (Addr×Addr)}
def rV(KX:K.In s₁.heap)(hns:s₁.heap.Ns mainGlobals mg)(hb:s₁.heap.Ns builtinsNs mb)(hbb: ∀x:Str,x≠"__name__"->mb x=bootBuiltins x)(hlim:s₁.heap.NoLimit)(hg:s₁.gens= #[])(lk:K.lookup fa=pi ⟨oc,od,.func (oj name qual params body scope dV kV doc pm an (.ref cL) ct),osl⟩)(hcd:md K (.ref cL) qual=qt)(S:FnScope N [x] scope)(hbind: ∀s u,BindsTo s (oj name qual params body scope dV kV doc pm an (.ref cL) ct) ⟨[u],[]⟩ [(x,u)])(hr:Room (k+3) callerA)(hC: ∀z∈CP,mi s₁.heap z.1 z.2/\s₁.heap.BuiltinsAt mg z.2/\s₁.heap.get? z.2=pi (mh #[])/\K.lookup z.2=qr)(hΔ:Δ (tbs (CP.map (·.2))))(hΔ': ∀L,Δ L->∀P∈CP.map (·.2), ∃ps,(P,mh ps)∈L)(hO:N9 H)(hok:HOk P w H s₁.heap)(nd: ∀b o es ep,s₁.heap.get? b=pi o->o.data= .dict es ep->H b=qr)(nK: ∀b o,K.lookup b=pi o->H b=qr)(hn: ∀z∈CP,H z.1=qr/\H z.2=qr)(hbn: ∀bm o,s₁.heap.get? bm=pi o->o.data= .plain->H bm=qr)(LX: ∀base,K.In base->base.Ns mainGlobals mg->(∀z∈CP,mi base z.1 z.2/\base.BuiltinsAt mg z.2/\base.get? z.2=qr)->LawG (cxP (CP.map (·.2)) (jN (CXe P w) P w K mg base N qual scope fa (.ref cL) callerA [] s₁ H λ_ _ _=>False)) ad C Δ rd)(hread:gSs n rd C body=pi g)(hG:Same G H)(rp:aI K ad G [d] [.ref a])(hN:N.length=m+1)(hm:g ([d].map SK.Slot.sh++ao m .no)= .rt (.ok (.bl qt))):
  codeAny (model P w) callerA (.call (.ref fa) ⟨[.ref a],[]⟩) (λr s'=>r= .ok (.ret (.bool qt))/\OldK s₁.heap s'.heap/\s'.os=s₁.os/\AllBare s'.gens) s₁:=by
 let base:=JU s₁.heap (Mv H (CP.map (·.2)));have c: ∀{b:Addr} {o:Obj},s₁.heap.get? b=pi o->H b=qr->b∉CP.map (·.2)->base.get? b=pi o:=λe n z=>Cw e (IP n z);have l: ∀{b:Addr} {o:Obj},s₁.heap.get? b=pi o->o≠mh #[]->b∉CP.map (·.2):=λ{b o} e z y=>by
  obtain⟨p,j,rfl⟩:=au.mp y;rw[(hC p j).2.2.1]at e;exact z (ku e).symm
 have q: ∀{b:Addr} {mm:Str->L7 Value},s₁.heap.Ns b mm->base.Ns b mm:=λ{b mm} ⟨o,es,ep,e,dd,r⟩=>⟨o,es,ep,c e (nd _ _ _ _ e dd) (l e λz=>by rw[z]at dd;cases dd),dd,r⟩;have T:K.In base:=λb o e=>c (KX b o e) (nK b o e) λz=>by
  obtain⟨p,j,rfl⟩:=au.mp z;rw[(hC p j).2.2.2]at e;cases e
 have hM:Mod K mg base:=⟨T,q hns,⟨mb,q hb,hbb⟩,let ⟨mc,h1,h2⟩:=hlim;⟨mc,q h1,h2⟩⟩;have e0:Env0 P w K mg base callerA [] s₁ H:=⟨rfl,hM,λb o e=>⟨(sT e).1,(rT (sT e).2).1⟩,Nat.le_of_eq (yZ _ _),trivial,λb hb=>absurd (show b∈([]:L1 Addr) from hb) (by simp),hok,.of_eq hg⟩;have O: ∀P∈CP.map (·.2),base.get? P=qr:=λP I=>by
  rcases e:base.get? P with _|o;rfl;exact absurd I (rT (sT e).2).2
 have L:=LX base T (q hns) λz E=>by
  obtain⟨h1,h2,h3,h4⟩:=hC z E;refine⟨?_,?_,O _ (List.mem_map_of_mem E)⟩;obtain⟨o,vs,M,tf,B,tg,ag,Y,tt,v,Q,U,r⟩:=h1;exact⟨o,vs,M,tf,B,tg,ag,Y,tt,c v (hn z E).1 (l v λy=>by rw[y]at U;cases U;exact absurd r.1 (by simp)),Q,U,r⟩;obtain⟨bm,o,b1,b2,b3,b4,b5,b6,b7,Z⟩:=h2;exact⟨bm,o,b1,b2,b3,b4,c b5 (hbn bm o b5 Z) (l b5 λy=>by rw[y]at Z;cases Z),b6,b7,Z⟩
 let X:=jN (CXe P w) P w K mg base N qual scope fa (.ref cL) callerA [] s₁ H λ_ _ _=>False;have A: ∀y∈[(x,qe a)],scope.names.lookup y.1=pi .local\/(scope.names.lookup y.1=pi .cell/\((cellsFrom (s₁.z+1) scope.names []).lookup y.1).isSome=qt):=λy hy=>by
  rw[ja.mp hy];rcases S.par x (.head _)with z|z;exact .inl z;exact .inr ⟨z,fj _ _ _ (.inl z)⟩
 refine codeAny_call_function hr.depth (KX _ _ lk) rfl S.co S.gen rfl (iy KX hcd) (hbind _ _ _ _ _ _ ?_);refine wpAny_newFunctionEnv_cells S.kind A λam he s1 y=>?_;subst he;refine⟨hlim.keeps y.toInCall.keep,codeAny_func ?_⟩;have I0:Inv X [] (start N [.ref a]) H s1:=gG (vs:=[.ref a]) (us:=[.ref a]) (ps:=[x]) S hr.hd e0 rfl (.cons rfl .nil) y;have t: ∀b,b∉X.fs:=λb z=>absurd (show b∈([]:L1 Addr) from z) (by simp);have I1:Inv (cxP (CP.map (·.2)) X) [] (start N [.ref a]) H s1:=Mf I0 rfl (λP I=>by
  obtain⟨p,j,rfl⟩:=au.mp I;exact⟨ah (hC p j).2.2.1,O _ I,t _⟩) λz d h=>nz (y.above z d (ii h))
 have ab:start N [V.ref a]=[V.ref a].map pi++ao m qr:=by
  unfold L2.start;have e:N.length - [V.ref a].length=m:=by rw[hN];simp
  rw[e]
 rw[ab]at I1;refine wpAny_mono (Bz (X:=X) L hread I1 rfl rfl hΔ (λP I=>by
  obtain⟨p,j,rfl⟩:=au.mp I;exact⟨y.toInCall.keep _ _ (hC p j).2.2.1,(hn p j).2,t _⟩) hG rp hm) (λfl s' hs=>?_) λe s' hs=>?_
 obtain⟨rfl,ap,H',L',dl,J,hL⟩:=hs;refine⟨rfl,⟨λb o e=>?_,λb o e=>?_⟩,J.os,J.bare⟩;by_cases i:b∈CP.map (·.2);obtain⟨ps,j⟩:=hΔ' L' dl b i;have al:=hL _ j;obtain⟨z,E,rfl⟩:=au.mp i;rw[(hC z E).2.2.1]at e;cases e;obtain⟨co,vs,_,_,_,_,_,_,_,v,Q,U,e4,_⟩:=(hC z E).1;exact .inr (.inl ⟨⟨z.1,co,vs,v,Q,U,e4⟩,rfl, #[],ps,rfl,by rw[al];simp[mh]⟩);refine .inl ?_;have nx:b∉(cxP (CP.map (·.2)) X).ex:=i;rcases hh:H b with _|u;exact J.base.keep b o e hh (t b) nx;rcases hO b with z|⟨ob,xs,z⟩;rw[hh]at z;cases z;have z2:=J.base.frzs b ob _ z;obtain⟨v,_⟩:=hok b _ z;obtain⟨Q,_⟩:=J.hok b _ z2;rw[e]at v;cases v;exact Q;by_cases i:b∈CP.map (·.2);obtain⟨ps,j⟩:=hΔ' L' dl b i;exact⟨_,hL _ j⟩;exact J.base.there b o e i;have no: ∀(e:Value) (f:Shared),CXe P w [] H s₁ (λ_ _ _=>False) e f->False:=λe f z=>by
  obtain⟨_,_,_,_,_,_,_,_,_,_,_,_,_,_,z⟩:=z;exact z
 have ak:wpAny (model P w) (callerA.deeper (envOfC qual scope s₁.z fa (.ref cL))) (leaving (envOfC qual scope s₁.z fa (.ref cL)) e) (λ_ f=>CXe P w [] H s₁ (λ_ _ _=>False) e f) (λe' f=>CXe P w [] H s₁ (λ_ _ _=>False) e' f) s':=hs;exact wpAny_mono ak (λ_ f z=>(no _ _ z).elim) λe' f z=>(no _ _ z).elim
end
def Fz(T:Top p loose mean mg mb h)(hT:h.get? P0=pi (mh #[])):h.BuiltinsAt mg P0:=by obtain⟨l,j,f,n,b,i,m,c⟩:=T.bmain;refine⟨l,j,f,n,λz=>?_,λz=>?_,b,i,m,c⟩;obtain⟨o,r,q,e,d,_⟩:=T.g;rw[<-z,b]at e;cases e;rw[c]at d;cases d;rw[z,hT]at b;cases b;cases c
section
variable{K:Frag}{ad:Ad}{kV:Value}{cL:Nat}{CP:L1 (Addr×Addr)}
def BA(KX:K.In s₁.heap)(hns:s₁.heap.Ns mainGlobals mg)(hb:s₁.heap.Ns builtinsNs mb)(hbb: ∀x:Str,x≠"__name__"->mb x=bootBuiltins x)(hlim:s₁.heap.NoLimit)(hg:s₁.gens= #[])(ha:s₁.heap.get? a=pi {cls:=.type "list",data:=.seq vs.toArray})(hi:IntsAre vs ns)(hl:ns.length<=sizeLine)(lk:K.lookup fa=pi ⟨oc,od,.func (oj name qual params body scope dV kV doc pm an (.ref cL) ct),osl⟩)(hcd:md K (.ref cL) qual=qt)(S:FnScope N [x] scope)(hbind: ∀s u,BindsTo s (oj name qual params body scope dV kV doc pm an (.ref cL) ct) ⟨[u],[]⟩ [(x,u)])(hr:Room (k+3) callerA)(hC: ∀z∈CP,mi s₁.heap z.1 z.2/\s₁.heap.BuiltinsAt mg z.2/\s₁.heap.get? z.2=pi (mh #[])/\K.lookup z.2=qr)(hΔ:Δ (tbs (CP.map (·.2))))(hΔ': ∀L,Δ L->∀P∈CP.map (·.2), ∃ps,(P,mh ps)∈L)(LX: ∀base H,K.In base->base.Ns mainGlobals mg->(∀z∈CP,mi base z.1 z.2/\base.BuiltinsAt mg z.2/\base.get? z.2=qr)->LawG (cxP (CP.map (·.2)) (jN (CXe P w) P w K mg base N qual scope fa (.ref cL) callerA [] s₁ H λ_ _ _=>False)) ad C Δ rd)(hread:gSs n rd C body=pi g)(hrep: ∀H,N9 H->SqL K H a (ns.map V.int)->∃G,Same G H/\aI K ad G [d] [.ref a])(hN:N.length=m+1)(hm:g ([d].map SK.Slot.sh++ao m .no)= .rt (.ok (.bl qt))):
  codeAny (model P w) callerA (.call (.ref fa) ⟨[.ref a],[]⟩) (λr s'=>r= .ok (.ret (.bool qt))/\OldK s₁.heap s'.heap/\s'.os=s₁.os/\AllBare s'.gens) s₁:=by
 have v:=qB hi;have h:=hi.length;rcases hk:K.lookup a with _|o;have i: ∀{b:Addr} {o:Obj},s₁.heap.get? b=pi o->o.data≠ .seq vs.toArray->b≠a:=λ{b o} e z y=>by
  rw[y,ha]at e;cases e;exact z rfl
 let H:Hp:=λb=>if b=a then pi (.frz {cls:=.type "list",data:=.seq vs.toArray} (.lst (ns.map V.int)))else qr
 have c: ∀{b:Addr},b≠a->H b=qr:=λz=>if_neg z;have t:N9 H:=λb=>by
  by_cases hb:b=a;exact .inr ⟨_,_,if_pos hb⟩;exact .inl (if_neg hb)
 have p:HOk P w H s₁.heap:=λb u z=>by
  by_cases hb:b=a;have f:=(if_pos hb).symm.trans z;cases f;subst hb;exact⟨ha,by rw[aq];exact hl,vs,_,v,ha⟩;have f:=(if_neg hb).symm.trans z;cases f
 obtain⟨G,l,j⟩:=hrep H t (.inl (.inr ⟨{cls:=.type "list",data:=.seq vs.toArray},if_pos rfl⟩));refine rV (H:=H) KX hns hb hbb hlim hg lk hcd S hbind hr hC hΔ hΔ' t p (λb o E J e z=>c (i e (by rw[z];exact λy=>nomatch y))) (λb o e=>c λy=>by rw[y,hk]at e;cases e) (λz q=>⟨?_,c (i (hC z q).2.2.1 λy=>nomatch y)⟩) (λI o e z=>c (i e (by rw[z];exact λy=>nomatch y))) (λbase=>LX base _) hread l j hN hm;obtain⟨o,M,_,_,_,_,_,_,_,B,_,A,_⟩:=(hC z q).1;exact c (i B (by rw[A];exact λy=>nomatch y));have e:=KX a o hk;rw[ha]at e;cases e;obtain⟨G,l,j⟩:=hrep (λ_=>qr) (λ_=>.inl rfl) (.inr ⟨_,vs.toArray,_,hk,rfl,rfl,rfl,by rw[ax,h];exact hl,by simpa using v⟩);exact rV (H:=λ_=>qr) KX hns hb hbb hlim hg lk hcd S hbind hr hC hΔ hΔ' (λ_=>.inl rfl) (λb u z=>by have f:(qr:L7 HO)=pi u:=z;cases f) (λ_ _ _ _ _ _=>rfl) (λ_ _ _=>rfl) (λ_ _=>⟨rfl,rfl⟩) (λ_ _ _ _=>rfl) (λbase=>LX base _) hread l j hN hm
end
structure LawGT(P:Program)(w:World)(K:Frag)(mg:Str->Option Value)(fa:Addr)(name did:Str)(ad:Ad)(C:SK.Ctx)(Δ:Pl->Prop)(rd:RD)(g:FS)(k n m:Nat)(cL P1 c P0:Addr)(params:Arguments)(body:List Stmt)(scope:Scope):Prop where
 lk: ∃oc od dV kV doc pm an ct osl,K.lookup fa=pi ⟨oc,od,.func (oj name name params body scope dV kV doc pm an (.ref cL) ct),osl⟩/\∀(s:Shared) (u:Value),BindsTo s (oj name name params body scope dV kV doc pm an (.ref cL) ct) ⟨[u],[]⟩ [("_law_script",u)]
 cd:md K (.ref cL) name=qt
 sc:bO (aA scope) ["_law_script"] scope=qt
 room:Room (k+3) callerA
 tab1:tabIn K name=pi (cL,P1)
 tab:tabIn K did=pi (c,P0)
 out:K.lookup P0=qr/\K.lookup P1=qr
 tb0:Δ (tbs [P1,P0])
 tb1: ∀L,Δ L->∀P∈[P1,P0], ∃ps,(P,mh ps)∈L
 lx: ∀(s₁:Shared) (base:Heap) (H:Hp),K.In base->base.Ns mainGlobals mg->(∀z∈[(cL,P1),(c,P0)],mi base z.1 z.2/\base.BuiltinsAt mg z.2/\base.get? z.2=qr)->LawG (cxP [P1,P0] (jN (CXe P w) P w K mg base (aA scope) name scope fa (.ref cL) callerA [] s₁ H λ_ _ _=>False)) ad C Δ rd
 read:gSs n rd C body=pi g
 len:(aA scope).length=m+1
 tru: ∀ns:List Int,g ([D.lst (ns.map D.int)].map SK.Slot.sh++ao m .no)= .rt (.ok (.bl qt))
def walkG{l:PySem.W.OpenLaw}{XP}{K:Params->nq}(hn:l.most=pi 63)(hdf:d.params.defaults=[])(hY: ∀w h,YP w h->(K w.params).In h)(hrec: ∃e,(recsOf q).find? (λe=>e.name==did)=pi e)(hrec1: ∃e,(recsOf q).find? (λe=>e.name==d.name)=pi e)(F: ∀w mg fa h,(K w.params).In h->h.Ns mainGlobals mg->mg d.name=pi (.ref fa)->∃ad C Δ rd g k n m cL P1 c P0 params body scope,LawGT l.prog w (K w.params) mg fa d.name did ad C Δ rd g k n m cL P1 c P0 params body scope):
  PySem.W.WalkO q loose XP YP l.row.toRowW d [] (λf vs=>PySem.call f vs):=by
 refine Att.attach_call hn hdf λw J t mg mb fa o pm cd O a vs B G Y ho hd Z A s i p Q=>?_;have u:=hY w _ Y;obtain⟨ad,C,Δ,rd,g,k,n,m,cL,P1,c,P0,params,body,scope,L⟩:=F w mg fa _ u G.T.g A;obtain⟨e,S⟩:=hrec;obtain⟨U,I⟩:=tab_of G.T u S L.tab;obtain⟨e1,y⟩:=hrec1;obtain⟨x,r⟩:=tab_of G.T u y L.tab1;obtain⟨oc,od,dV,kV,E,ab,an,ct,X,lk,N⟩:=L.lk;refine BA (d:=.lst (B.map D.int)) u G.T.g G.T.b G.T.builtins G.T.nolimit Q s i (ny p (by decide)) lk L.cd (cI L.sc).1 N L.room (CP:=[(cL,P1),(c,P0)]) (λz v=>by
  rcases av.mp v with rfl|v;exact⟨x,Fz G.T r,r,L.out.2⟩;rw[ja.mp v];exact⟨U,Fz G.T I,I,L.out.1⟩) L.tb0 L.tb1 (λj H=>L.lx t j H) L.read (λH _ M=>⟨H,Same.refl _,aI.cons (by unfold Rep;exact⟨a,_,rfl,M,aI.map_int⟩) aI.nil⟩) L.len (L.tru B)
def Mw{q1 q0}(h:P1≠P0):Two (TbL P1 q1) (TbL P0 q0) (tbs [P1,P0]):=
 ⟨[(P1,mh #[])],[(P0,mh #[])],rfl,⟨#[],[],rfl,Fs⟩,⟨#[],[],rfl,Fs⟩,λp b r c=>by rw[ja.mp b,ja.mp c];exact h.symm⟩
def FA{q1 q0}L(h:Two (TbL P1 q1) (TbL P0 q0) L)P(hP:P∈[P1,P0]): ∃ps,(P,mh ps)∈L:=by obtain⟨e,M2,rfl,⟨ps,d,rfl,_⟩,⟨b,c,rfl,_⟩,_⟩:=h;rcases av.mp hP with rfl|hP;exact⟨ps,.head _⟩;rw[ja.mp hP];exact⟨b,bt _ (.head _)⟩
section
variable{P:Program}{w:World}{K:Frag}{mg:Str->L7 Value}{base:Heap}{ad:Ad}{k:Nat}{tab:L1 (Str×SK.Gl)}{fns:L1 (Nat×Fn)}{sc:Scope}{qual x q dn tn:Str}{fa fa1 P0 P1 cL:Addr}{s₁:Shared}{H:Hp}{bs prs1:L1 Str}{fd1:FuncData}{nd A:Nat}{Md:FM}{F:Fn}
def IQ(B:ExcK K ad)(TB:dG P w K mg base ad k tab)(FB:eY P w K mg base ad k fns)(hs:bO (aA sc) [x] sc=qt)(hr:Room (k+4) callerA)(mk: ∀A ms,tab.lookup ("Rack":Str)=pi (SK.Gl.cls A ms)->∃f r fd ps,r<=k/\Mk K A f/\FnOk P w K mg base (CXe P w) r f fd ps (spI K ad A)/\eE K fd ps [])(hD:Io (cxP [P1,P0] (jN (CXe P w) P w K mg base (aA sc) qual sc fa (.ref cL) callerA [] s₁ H λ_ _ _=>False)) ad A nd P0 q (k+3) fa1 fd1 prs1 Md)(nx: ∀r ds c,Md r ds≠ .pure (.ex c))(hm1:mg dn=pi (.ref fa1))(hdb1:(dn==gV)=qu)(hk1:l7 K (.ref fa1)=qt)(hb1: ∀s us,K.In s.heap->us.length=nd+1->BindsTo s fd1 ⟨us,[]⟩ (prs1.zip us))(told: ∃ft fd dn,mg tn=pi (.ref ft)/\l7 K (.ref ft)=qt/\j4 P w K mg base ad (k+1) ft fd dn F/\∀s u,K.In s.heap->BindsTo s fd ⟨[u],[]⟩ [(dn,u)])(tdb:(tn==gV)=qu)(hC:mi base cL P1)(hB:base.BuiltinsAt mg P1):
  LawG (cxP [P1,P0] (jN (CXe P w) P w K mg base (aA sc) qual sc fa (.ref cL) callerA [] s₁ H λ_ _ _=>False)) ad ⟨tab,fns,sc,aA sc,bs⟩ (Two (TbL P1 ((envOfC qual sc s₁.z fa (.ref cL)).qual++"<lambda>")) (TbL P0 q)) ⟨rdG [(dn,nd,Md)] A ⟨tab,fns,sc,aA sc,bs⟩,tn,F⟩:=by
 have d:Room (k+3) (callerA.deeper (envOfC qual sc s₁.z fa (.ref cL))):=hr.deeper _;have O:StOk (cxP [P1,P0] (jN (CXe P w) P w K mg base (aA sc) qual sc fa (.ref cL) callerA [] s₁ H λ_ _ _=>False)) ad ⟨tab,fns,sc,aA sc,bs⟩:=(j0 B TB FB hs (d.mono (by lia))).P;refine⟨O,jv (Q₁:=λe y=>CXe P w [] H s₁ (λ_ _ _=>False) e y),λA ms e=>let ⟨f,r,fd,ps,C,h2,p,v⟩:=mk A ms e;⟨f,r,fd,ps,h2,p,d.mono (by lia),v⟩,
  ⟨k,P1,cL,_,⟨O.cx,B,TB,FB,told,tdb,d.mono (by lia),hB⟩,.head _,rfl,rfl,hC,LPE.fst⟩,λL h=>⟨λb o=>⟨o,let ⟨ps,z⟩:=FA L h b o;⟨_,z⟩⟩,λ_ _ b o=>o⟩,λe r l=>?_⟩
 replace l:rdG [(dn,nd,Md)] A ⟨tab,fns,sc,aA sc,bs⟩ e=pi r:=l;unfold rdG at l;have j:=zBd l;clear l;obtain⟨c,C,h⟩:=j;rw[IB C];have j:=zBd h;clear h;obtain⟨⟨n,M⟩,m,h⟩:=j;simp only at h;split at h;rename_i t;have j:=zBd h;clear h;obtain⟨i,p,h⟩:=j;have j:=zBd h;clear h;obtain⟨fs,v,h⟩:=j;split at h;rename_i I;cases h;obtain⟨G,E⟩:=oS (bV (ad:=ad) 50).1 O.cx v;have J:=O.cx.vis _ i p;have gl:=O.cx.gk _ t;rw[kg]at m;rcases e:c.g==dn with _|_;rw[e]at m;cases m;rw[e]at m;cases m;rw[eq_of_beq e]at gl ⊢;exact(Ip hD d nx gl hm1 hdb1 hk1 hb1 (.tail _ (.head _)) ⟨rfl,rfl⟩ J G I rfl (jF E)).snd;cases h;cases h
end
def aE(h:a ρ= .nx ρ'):aT a b ρ=b ρ':=by simp[aT,h]
def cR(h:a ρ= .rt r):aT a b ρ= .rt r:=by simp[aT,h]
def cJ(h:e ρ= .ok d):fL i e ρ= .nx (ρ.set i (.sh d)):=by simp[fL,h,fC]
def uO(h:e ρ= .ow d):fL i e ρ= .nx (ρ.set i (.sh (.lst d))):=by simp[fL,h,fC]
def IR(h:e ρ= .ow d):yU i e ρ= .nx (ρ.set i (.ow d)):=by simp[yU,h]
def mD(h:e ρ= .ok (.tup ds))(l:ds.length=is.length):iE is e ρ= .nx (setN is ds ρ):=by simp[iE,h,fC,l]
def dC(h:e ρ= .ok d):iF e ρ= .nx ρ:=by simp[iF,h,fC]
def oX(h:e ρ= .ex c):iF e ρ= .ex c ρ:=by simp[iF,h,fC]
def aS(h:e ρ= .ok d):dM e ρ= .rt (.ok d):=by simp[dM,h]
def eG(h:c ρ= .ok (.bl qt)):sIf c a b ρ=a ρ:=by simp[sIf,h]
def cU(h:c ρ= .ok (.bl qu)):sIf c a b ρ=b ρ:=by simp[sIf,h]
def aP(h:b (ds.map Slot.sh++ao (n-ds.length) .no)= .rt (.ok d)):fnOf n b ds= .ok d:=by simp[fnOf,h]
def gQ(h:b (ds.map Slot.sh++ao (n-ds.length) .no)= .ex c ρ):fnOf n b ds= .ex c:=by simp[fnOf,h]
def oY(h:b (ds.map Slot.sh++ao (n-ds.length) .no)= .nx ρ):fnOf n b ds= .ok .non:=by simp[fnOf,h]
def rW:iN (xs.map D.int)=pi xs:=by
 induction xs with
 |nil=>rfl
 |cons x r b=>simp[iN,b]
def hX:eP (xs.map D.bl)=pi xs:=by
 induction xs with
 |nil=>rfl
 |cons x r b=>simp[eP,b]
def aU(h:a ρ= .ok x)(k:b ρ= .ok y):aR op a b ρ=j9 op x y:=by simp[aR,h,k,R.bind]
def aW(h:a ρ= .ok x)(k:b ρ= .ok y):bR op a b ρ=fK op x y:=by simp[bR,h,k,R.bind]
def cV(h:a ρ= .ok x)(k:b ρ= .ok y):rIx a b ρ=dIx x y:=by simp[rIx,h,k,R.bind]
def rX(h:a ρ= .ow x)(k:b ρ= .ok y):rIx a b ρ=dIx (.lst x) y:=by simp[rIx,h,k,R.bind]
def gR(h:a ρ= .ok (.bl b)):kG a ρ= .ok (.bl (!b)):=by simp[kG,h,R.bind]
def rY(h:a ρ= .ok (.bl qt)):lI a b ρ=b ρ:=by simp[lI,h,R.bind]
def xC(h:a ρ= .ok (.bl qu)):lI a b ρ= .ok (.bl qu):=by simp[lI,h,R.bind]
def D4(h:a ρ= .ok (.bl qt)):rOr a b ρ= .ok (.bl qt):=by simp[rOr,h,R.bind]
def oZ(h:a ρ= .ok (.bl qu)):rOr a b ρ=b ρ:=by simp[rOr,h,R.bind]
def FD(h:a ρ= .ok x)(k:p x=pi b):rIs p a ρ= .ok (.bl b):=by simp[rIs,h,k,R.bind]
def bF(h:a ρ= .ok x):aF f [a] ρ=f [x]:=by simp[aF,lJ,args,h,RA.cons,RA.then]
def dI(h:a ρ= .ow x):aF f [a] ρ=f [.lst x]:=by simp[aF,lJ,args,h,RA.cons,RA.then]
def dD(h:a ρ= .ok x)(k:b ρ= .ok y):aF f [a,b] ρ=f [x,y]:=by simp[aF,lJ,args,h,k,RA.cons,RA.then]
def dP(h:a ρ= .ok x)(k:b ρ= .ok y)(l:c ρ= .ok z):aF f [a,b,c] ρ=f [x,y,z]:=by simp[aF,lJ,args,h,k,l,RA.cons,RA.then]
def fZ(h:a ρ= .ok x)(k:b ρ= .ok y):fD [a,b] ρ= .ok (.tup [x,y]):=by simp[fD,lJ,args,h,k,RA.cons,RA.then]
def BB(h:a ρ= .ok (.int i))(h':b ρ= .ok (.int j))(h'':c ρ= .ok (.int k)):fN .LtE .Lt a b c ρ= .ok (.bl (decide (i<=j)&&decide (j<k))):=by by_cases e:i<=j<;>simp[fN,h,h',h'',R.bind,fK,e]
def Mx{ds:L1 D}:JD [.lst (ds.map λd=>.bl (p d))]= .ok (.bl (ds.all p)):=by
 have e:(ds.map λd=>D.bl (p d))=(ds.map p).map D.bl:=by simp
 have k:(items (D.lst (ds.map λd=>D.bl (p d)))).bind eP=pi (ds.map p):=by
  show eP _=_;rw[e];exact hX
 simp only[JD,k];simp
theorem nU{f}{g}: ∀{ds},(∀d∈ds,f d=pi (pi (g d)))->bE f ds=pi (ds.map g)
 |[],_=>rfl
 |d::r,h=>by simp[bE,h d (.head _),nU (ds:=r) λx m=>h x (.tail _ m)]
theorem nV{f}{P:D->Prop}: ∀{ds},(∀d∈ds, ∃x,f d=pi (pi x)/\P x)->∃xs,bE f ds=pi xs/\xs.length=ds.length/\∀x∈xs,P x
 |[],_=>⟨[],rfl,rfl,nofun⟩
 |d::r,h=>by
  obtain⟨x,e,p⟩:=h d (.head _);obtain⟨xs,b,l,q⟩:=nV (ds:=r) λx m=>h x (.tail _ m);refine⟨x::xs,by simp[bE,e,b],by simp[l],?_⟩;intro y m;cases m with
  |head=>exact p
  |tail _ m=>exact q y m
def mE(hi:it ρ= .ok (.lst ds)\/it ρ= .ok (.tup ds)\/it ρ= .ow ds)(h: ∀d∈ds,e (.sh d::jP cs ρ)= .ok (g d)):aY 0 cs it qr e ρ= .ow (ds.map g):=by
 have k:bE (dJ 0 (jP cs ρ) qr e) ds=pi (ds.map g):=nU λd m=>by simp[dJ,tgt,h d m]
 rcases hi with hi|hi|hi<;>simp[aY,hi,R.bind,items,iI,k]
def mF{P:D->Prop}(hi:it ρ= .ok (.lst ds)\/it ρ= .ok (.tup ds)\/it ρ= .ow ds)(h: ∀d∈ds, ∃ts x,tgt n d=pi ts/\e (ts++jP cs ρ)= .ok x/\P x):
  ∃xs,aY n cs it qr e ρ= .ow xs/\xs.length=ds.length/\∀x∈xs,P x:=by
 obtain⟨xs,k,l,q⟩:=nV (f:=dJ n (jP cs ρ) qr e) (P:=P) (ds:=ds) λd m=>by
  obtain⟨ts,x,a,b,c⟩:=h d m;exact⟨x,by simp[dJ,a,b],c⟩
 refine⟨xs,?_,l,q⟩;rcases hi with hi|hi|hi<;>simp[aY,hi,R.bind,items,iI,k]
def jH(h:a ρ= .ok (.int n))(l:n<=100000):eW a ρ= .ok (.lst (x8 n)):=by
 have:(-100000:Int)<=(n:Int)/\(n:Int)<=100000:=by lia
 simp[eW,h,R.bind,vJ,this]
def xD(h:d∈x8 n): ∃k,k<n/\d= .int k:=by simp only[x8,au,List.mem_range]at h;obtain⟨k,a,b⟩:=h;exact⟨k,a,b.symm⟩
def mG:(x8 n).length=n:=by simp[x8]
def f8{n:Nat}(h:xs[n]? =pi x):dIx (.lst xs) (.int n)= .ok x:=by obtain⟨l,e⟩:=ay.1 h;simp[dIx,items,ixD,l,e]
def mH{n:Nat}(h:xs[n]? =pi x):dIx (.tup xs) (.int n)= .ok x:=by obtain⟨l,e⟩:=ay.1 h;simp[dIx,items,ixD,l,e]
def BC(h:sml j=qt):j9 .Mult (.int i) (.int j)= .ok (.int (i*j)):=by simp[j9,fF,h]
def My(h:sml i=qt):j9 .Mult (.int i) (.int j)= .ok (.int (i*j)):=by simp[j9,fF,h]
def mI(h:0<j):j9 .Mod (.int i) (.int j)= .ok (.int (i % j)):=by simp[j9,fF,h]
def uP(h:0<j)(l:j<1073741824):j9 .FloorDiv (.int i) (.int j)= .ok (.int (i/j)):=by simp[j9,fF,h,l]
def Mz(a: -18446744073709551616<i)(b:i<18446744073709551616):sml i=qt:=by simp[sml,a,b]
def mJ(hi:it ρ= .ok (.lst ds)\/it ρ= .ow ds):vM is o it b ρ=eK (m7 is o) b ds ρ:=by rcases hi with hi|hi<;>simp[vM,hi,fC,mZ,items]
def iA:cS xs=qt↔ ∀x∈xs,plain x=qt:=by
 induction xs with
 |nil=>simp[cS]
 |cons x r b=>simp[cS,b]
def uQ(a:plain x=qt)(b:plain y=qt)(c:dep y<=60):kF x y=qt:=by have:min (dep x) (dep y)<=60:=ny (Nat.min_le_right ..) c;simp[kF,a,b,this]
def o0(h:kF x y=qt):fK .Eq x y= .ok (.bl (deq x y)):=by simp[fK,h]
def uR(h:kF x y=qt):fK .NotEq x y= .ok (.bl (!deq x y)):=by simp[fK,h]
def BD(h: ∀x∈xs,dep x=0):CL xs=0:=by
 induction xs with
 |nil=>rfl
 |cons x r b=>simp[CL,h x (.head _),b λy m=>h y (.tail _ m)]
end SK
namespace SK.k76
open SK
def aM:Fn:=λds=>LS (fnOf 3 (aT (fL 1 (gZ [rIs (mT 9) (aB 0),rIs (mT 8) (aB 0),rIs (mT 3) (aB 0),rIs (mT 2) (aB 0)]))
 (aT (fL 1 (aR .Add (aB 1) (gZ [rIs (mT 5) (aB 0),rIs (mT 1) (aB 0),rIs (mT 7) (aB 0)])))
 (aT (fL 1 (aR .Add (aB 1) (gZ [rIs (mT 6) (aB 0),rIs (mT 4) (aB 0)])))
 (aT (sIf (rOr (bR .NotEq (oA vK (aC 1) (rK (.bl qt))) (rK (.int 1))) (kG (rIs (mT 100) (aB 0))))
 (aT (dM (rK (.str "wrong")))
  (bC))
 (bC))
 (aT (fL 2 (gZ [rK (.str "no back"),rK (.str "no label"),rK (.str "no move"),rK (.str "no name"),rK (.str "no sums"),rK (.str "no switch"),rK (.str "no term"),rK (.str "no text"),rK (.str "unlike")]))
 (aT (dM (rIx (aC 2) (oA vL (aC 1) (rK (.bl qt)))))
 (bC))))))) ds)
def iB:Fn:=fnOf 1 (dM (lI (rIs (KJ) (aB 0)) (kG (rIs (Gw) (aB 0)))))
def bM:Fn:=fnOf 2 (dM (lI (aF iB [aB 0]) (fN .LtE .Lt (rK (.int 0)) (aB 0) (aB 1))))
def cE:Fn:=fnOf 2 (dM (aF JD [aY 0 [1] (aC 0) qr (aF bM [aB 0,aB 1])]))
def fQ:Fn:=fnOf 1 (dM (aF bM [aB 0,aR .Add (rK (.int 4)) (rK (.int 1))]))
def jI:Fn:=fnOf 3 (dM (lI (rIs (oE) (aB 0)) (lI (bR .Eq (aF pN [aC 0]) (aB 1)) (aF cE [aB 0,aB 2]))))
def bS:Fn:=fnOf 1 (dM (aR .LShift (rK (.int 1)) (aB 0)))
def cW:Fn:=fnOf 1 (aT (sIf (rOr (kG (rIs (oE) (aB 0))) (rOr (bR .NotEq (aF pN [aC 0]) (rK (.int 2))) (kG (aF fQ [rIx (aC 0) (rK (.int 0))]))))
 (dM (rK (.bl qu)))
 (bC))
 (dM (aF jI [rIx (aC 0) (rK (.int 1)),aF bS [rIx (aC 0) (rK (.int 0))],rK (.int 2)])))
def aZ:Fn:=fnOf 1 (sIf (kG (aF cW [aB 0]))
 (gI 1)
 (bC))
def bP:Fn:=fnOf 2 (aT (iF (aF aZ [aB 0]))
 (aT (iF (aF aZ [aB 1]))
 (sIf (bR .NotEq (rIx (aC 0) (rK (.int 0))) (rIx (aC 1) (rK (.int 0))))
 (gI 4)
 (bC))))
def jJ:Fn:=fnOf 1 (aT (iF (aF aZ [aB 0]))
 (dM (fD [rIx (aC 0) (rK (.int 0)),aF fO [aY 0 [] (rIx (aC 0) (rK (.int 1))) qr (aR .Sub (rK (.int 1)) (aB 0))]])))
def nW:Fn:=fnOf 2 (aT (iF (aF bP [aB 0,aB 1]))
 (dM (fD [rIx (aC 0) (rK (.int 0)),aF fO [aY 2 [] (qG (rIx (aC 0) (rK (.int 1))) (rIx (aC 1) (rK (.int 1)))) qr (aR .BitAnd (aB 0) (aB 1))]])))
def iC:Fn:=fnOf 2 (aT (iF (aF bP [aB 0,aB 1]))
 (dM (fD [rIx (aC 0) (rK (.int 0)),aF fO [aY 2 [] (qG (rIx (aC 0) (rK (.int 1))) (rIx (aC 1) (rK (.int 1)))) qr (aR .BitOr (aB 0) (aB 1))]])))
def iD:Fn:=fnOf 2 (aT (iF (aF bP [aB 0,aB 1]))
 (dM (fD [rIx (aC 0) (rK (.int 0)),aF fO [aY 2 [] (qG (rIx (aC 0) (rK (.int 1))) (rIx (aC 1) (rK (.int 1)))) qr (aR .BitXor (aB 0) (aB 1))]])))
def cY:Fn:=fnOf 1 (sIf (kG (rIs (zR) (aB 0)))
 (gI 6)
 (bC))
def cM:Fn:=fnOf 1 (aT (iF (aF aZ [aB 0]))
 (dM (aR .Add (aR .Add (aF zJ [rIx (aC 0) (rK (.int 0))]) (rK (.str ":"))) (lK "" (aY 0 [] (rIx (aC 0) (rK (.int 1))) qr (aF zJ [aC 0]))))))
def cN:Fn:=fnOf 2 (aT (iF (aF cY [aB 0]))
 (aT (fL 1 (fD [Gj [("0",.int 0),("1",.int 1),("2",.int 2),("3",.int 3),("4",.int 4)] (dS (aC 0) qr (pi (rK (.int 1)))),aF fO [aY 0 [] (dS (aC 0) (pi (rK (.int 2))) qr) qr (Gj [("0",.int 0),("1",.int 1),("2",.int 2),("3",.int 3),("4",.int 4)] (aB 0))]]))
 (aT (sIf (rOr (bR .NotEq (dS (aC 0) (pi (rK (.int 1))) (pi (rK (.int 2)))) (rK (.str ":"))) (kG (aF cW [aB 1])))
 (gI 6)
 (bC))
 (dM (aB 1)))))
def d7:Fn:=fnOf 1 (aT (sIf (rOr (kG (rIs (zR) (aB 0))) (kG (fN .LtE .LtE (rK (.int 1)) (aF pN [aC 0]) (rK (.int 4)))))
 (dM (rK (.bl qu)))
 (bC))
 (dM (aF JD [aY 0 [] (aC 0) qr (fN .LtE .LtE (rK (.str "a")) (aB 0) (rK (.str "z")))])))
def bQ:Fn:=fnOf 1 (sIf (kG (aF d7 [aB 0]))
 (gI 8)
 (bC))
def eC:Fn:=fnOf 3 (aT (sIf (bR .Eq (aB 0) (rK (.str "both")))
 (dM (aF nW [aB 1,aB 2]))
 (bC))
 (aT (sIf (bR .Eq (aB 0) (rK (.str "either")))
 (dM (aF iC [aB 1,aB 2]))
 (bC))
 (aT (sIf (bR .Eq (aB 0) (rK (.str "unlike")))
 (dM (aF iD [aB 1,aB 2]))
 (bC))
 (gI 8))))
def d8:Fn:=fnOf 2 (aT (sIf (bR .Lt (aB 1) (aF pN [aC 0]))
 (dM (rIx (aC 0) (aB 1)))
 (bC))
 (aT (sIf (bR .Eq (aB 0) (gZ []))
 (dM (rK (.int 0)))
 (bC))
 (dM (aR .Add (aR .Mult (rIx (aC 0) (aR .Mod (aB 1) (aF pN [aC 0]))) (rK (.int 31))) (aB 1)))))
def aK:Fn:=fnOf 4 (aT (fL 3 (aR .Mod (aR .Mult (aR .Add (aF d8 [aB 0,aB 1]) (aR .Mult (rK (.int 6151)) (aR .Add (aB 1) (rK (.int 1))))) (rK (.int 40692))) (rK (.int 2147483399))))
 (dM (aR .Mod (aR .Mod (aR .Add (aR .Mult (aB 3) (aB 3)) (aR .FloorDiv (aB 3) (rK (.int 31)))) (rK (.int 2147483629))) (aB 2))))
def bA:Fn:=fnOf 2 (dM (aF fO [aY 0 [1] (eW (aB 0)) qr (aR .Mod (aR .FloorDiv (aB 1) (rIx (gZ [rK (.int 1),rK (.int 2),rK (.int 4),rK (.int 8)]) (aB 0))) (rK (.int 2)))]))
def gT:Fn:=fnOf 2 (dM (aR .Mod (aF EF [aY 2 [] (qG (aF bA [rK (.int 4),aB 0]) (aF bA [rK (.int 4),aB 1])) qr (aR .Mult (aB 0) (aB 1))]) (rK (.int 2))))
def cZ:Fn:=fnOf 9 (aT (fL 3 (rIx (gZ [rK (.int 1),rK (.int 2),rK (.int 4),rK (.int 8),rK (.int 16)]) (aB 2)))
 (aT (fL 4 (aF aK [aB 0,aB 1,rK (.int 6)]))
 (aT (yU 5 (aY 0 [1,0] (eW (aB 3)) qr (aF aK [aB 2,aR .Add (aR .Add (aB 1) (rK (.int 1))) (aB 0),rK (.int 2)])))
 (aT (sIf (lI (bR .Eq (aB 4) (rK (.int 0))) (bR .Gt (aB 2) (rK (.int 0))))
 (aT (fL 6 (aF aK [aB 0,aR .Add (aB 1) (rK (.int 20)),aB 3]))
  (yU 5 (aY 0 [6] (eW (aB 3)) qr (aF gT [aB 1,aB 0]))))
 (sIf (bR .Eq (aB 4) (rK (.int 1)))
  (yU 5 (aY 0 [1,2,0] (eW (aB 3)) qr (aF ED [bR .GtE (aF EF [aF bA [aB 2,aB 0]]) (aR .Add (rK (.int 1)) (aF aK [aB 3,aR .Add (aB 1) (rK (.int 21)),rK (.int 3)]))])))
  (sIf (lI (bR .Eq (aB 4) (rK (.int 2))) (bR .Gt (aB 2) (rK (.int 0))))
   (aT (fL 7 (aF aK [aB 0,aR .Add (aB 1) (rK (.int 22)),aB 2]))
    (yU 5 (aY 0 [7,5] (eW (aB 3)) qr (rIx (aC 2) (aR .Sub (aB 0) (aR .Mult (aR .Mod (aR .FloorDiv (aB 0) (rIx (gZ [rK (.int 1),rK (.int 2),rK (.int 4),rK (.int 8)]) (aB 1))) (rK (.int 2))) (rIx (gZ [rK (.int 1),rK (.int 2),rK (.int 4),rK (.int 8)]) (aB 1))))))))
   (bC))))
 (aT (sIf (lI (bR .Lt (aB 4) (rK (.int 3))) (bR .Eq (aF aK [aB 0,aR .Add (aB 1) (rK (.int 23)),rK (.int 3)]) (rK (.int 0))))
 (aT (fL 8 (aF aK [aB 0,aR .Add (aB 1) (rK (.int 24)),aB 3]))
  (Cr 5 (aB 8) (aR .Sub (rK (.int 1)) (rIx (aC 5) (aB 8)))))
 (bC))
 (dM (fD [aB 2,aF fO [aC 5]])))))))
def eV:Fn:=fnOf 8 (aT (fL 3 (gZ [rK (.str "a"),rK (.str "b"),rK (.str "gm"),rK (.str "xjqp")]))
 (aT (iE [4,5] (fD [rIx (aC 3) (aF aK [aB 0,aB 1,rK (.int 4)]),aF aK [aB 0,aR .Add (aB 1) (rK (.int 1)),rK (.int 8)]]))
 (aT (sIf (rOr (bR .Lt (aB 5) (rK (.int 3))) (bR .Eq (aB 2) (m8)))
 (aT (fL 6 (rIx (gZ [rK (.int 2),rK (.int 2),rK (.int 2),rK (.int 1),rK (.int 3),rK (.int 4),rK (.int 0)]) (aF aK [aB 0,aR .Add (aB 1) (rK (.int 2)),rK (.int 7)])))
  (dM (fD [rK (.str "put"),aB 4,aF cZ [aB 0,aR .Add (aB 1) (rK (.int 10)),aB 6]])))
 (bC))
 (aT (sIf (bR .Eq (aB 5) (rK (.int 3)))
 (dM (fD [rK (.str "take"),aB 4]))
 (bC))
 (aT (sIf (bR .Eq (aB 5) (rK (.int 4)))
 (dM (fD [rK (.str "turn"),aB 4]))
 (bC))
 (aT (fL 7 (rIx (gZ [rK (.str "both"),rK (.str "either"),rK (.str "unlike")]) (aF aK [aB 0,aR .Add (aB 1) (rK (.int 3)),rK (.int 3)])))
 (dM (fD [rK (.str "join"),aB 4,aB 7,rIx (aC 3) (aF aK [aB 0,aR .Add (aB 1) (rK (.int 4)),rK (.int 4)]),rIx (aC 3) (aF aK [aB 0,aR .Add (aB 1) (rK (.int 5)),rK (.int 4)])]))))))))
def aX:Fn:=fnOf 7 (aT (mY 2 (aB 0))
 (aT (sIf (bR .Eq (rIx (aC 1) (rK (.int 0))) (rK (.str "put")))
 (aT (Cr 2 (rIx (aC 1) (rK (.int 1))) (rIx (aC 1) (rK (.int 2))))
  (JF [2] (dM (fD [aB 2,bR .In (rIx (aC 1) (rK (.int 1))) (aB 0)]))))
 (bC))
 (aT (sIf (bR .Eq (rIx (aC 1) (rK (.int 0))) (rK (.str "join")))
 (aT (sIf (rOr (bR .NotIn (rIx (aC 1) (rK (.int 3))) (aB 0)) (bR .NotIn (rIx (aC 1) (rK (.int 4))) (aB 0)))
  (dM (fD [aB 0,rK (.str "no label")]))
  (bC))
  (aT (iE [3,4] (fD [rIx (aC 0) (rIx (aC 1) (rK (.int 3))),rIx (aC 0) (rIx (aC 1) (rK (.int 4)))]))
  (aT (sIf (bR .NotEq (rIx (aC 3) (rK (.int 0))) (rIx (aC 4) (rK (.int 0))))
  (dM (fD [aB 0,rK (.str "unlike")]))
  (bC))
  (aT (fL 5 (aF x9 [qG (rIx (aC 3) (rK (.int 1))) (rIx (aC 4) (rK (.int 1)))]))
  (aT (fL 6 (vO "both" "either" (aY 2 [] (aC 5) qr (aR .Mult (aB 0) (aB 1))) (aY 2 [] (aC 5) qr (aF ED [bR .Gt (aR .Add (aB 0) (aB 1)) (rK (.int 0))]))))
  (aT (Cr 2 (rIx (aC 1) (rK (.int 1))) (fD [rIx (aC 3) (rK (.int 0)),aF fO [qH (aB 6) (rIx (aC 1) (rK (.int 2))) (aY 2 [] (aC 5) qr (aF ED [bR .Eq (aR .Add (aB 0) (aB 1)) (rK (.int 1))]))]]))
  (JF [2] (dM (fD [aB 2,rIx (aC 2) (rIx (aC 1) (rK (.int 1)))])))))))))
 (bC))
 (aT (sIf (bR .NotIn (rIx (aC 1) (rK (.int 1))) (aB 0))
 (dM (fD [aB 0,rK (.str "no label")]))
 (bC))
 (aT (sIf (bR .Eq (rIx (aC 1) (rK (.int 0))) (rK (.str "turn")))
 (aT (Cr 2 (rIx (aC 1) (rK (.int 1))) (fD [rIx (rIx (aC 0) (rIx (aC 1) (rK (.int 1)))) (rK (.int 0)),aF fO [aY 0 [] (rIx (rIx (aC 0) (rIx (aC 1) (rK (.int 1)))) (rK (.int 1))) qr (aR .Sub (rK (.int 1)) (aB 0))]]))
  (JF [2] (dM (fD [aB 2,rIx (aC 2) (rIx (aC 1) (rK (.int 1)))]))))
 (bC))
 (dM (fD [zN (aY 0 [1,0] (aC 0) (pi (bR .NotEq (aB 0) (rIx (aC 1) (rK (.int 1))))) (fD [aB 0,rIx (aC 2) (aB 0)])),rIx (aC 0) (rIx (aC 1) (rK (.int 1)))])))))))
def eI:Fn:=fnOf 7 (aT (fL 3 (aR .Mod (aB 1) (aR .Add (aF pN [aC 0]) (rK (.int 1)))))
 (aT (fL 4 (rIx (aC 2) (aR .Mod (aR .FloorDiv (aB 1) (rK (.int 1000))) (aF pN [aC 2]))))
 (aT (fL 5 (aR .Add (aR .Add (aB 3) (rK (.int 1))) (aR .Mod (aR .FloorDiv (aB 1) (rK (.int 7))) (rK (.int 9)))))
 (aT (fL 6 (aR .Mod (aR .FloorDiv (aB 1) (rK (.int 100000))) (rK (.int 8))))
 (aT (sIf (bR .Lt (aB 6) (rK (.int 2)))
 (dM (aR .Add (aR .Add (dS (aC 0) qr (pi (aB 3))) (aB 4)) (dS (aC 0) (pi (aB 3)) qr)))
 (bC))
 (aT (sIf (bR .Eq (aB 6) (rK (.int 2)))
 (dM (aR .Add (dS (aC 0) qr (pi (aB 3))) (dS (aC 0) (pi (aR .Add (aB 3) (rK (.int 1)))) qr)))
 (bC))
 (aT (sIf (bR .Lt (aB 6) (rK (.int 5)))
 (dM (aR .Add (aR .Add (dS (aC 0) qr (pi (aB 3))) (aB 4)) (dS (aC 0) (pi (aR .Add (aB 3) (rK (.int 1)))) qr)))
 (bC))
 (aT (sIf (bR .Eq (aB 6) (rK (.int 5)))
 (dM (aR .Add (dS (aC 0) qr (pi (aB 3))) (dS (aC 0) (pi (aB 5)) qr)))
 (bC))
 (aT (sIf (bR .Eq (aB 6) (rK (.int 6)))
 (dM (aR .Add (dS (aC 0) qr (pi (aB 5))) (dS (aC 0) (pi (aB 3)) qr)))
 (bC))
 (dM (rIx (gZ [aR .Add (aB 0) (rK (.str " ")),aR .Add (rK (.str " ")) (aB 0),aR .Add (dS (aC 0) (pi (aB 3)) qr) (dS (aC 0) qr (pi (aB 3))),rK (.str ""),aR .Add (aB 0) (aB 0)]) (aR .Mod (aB 1) (rK (.int 5))))))))))))))
def bL:FM:=kJ 368 3 (eS (mIf (bR .Is (aB 2) (rK .non))
 (eS (HX 368 (aB 1))
  (gP))
 (eS (HW 368 (aB 1) (aB 2))
  (gP)))
 (gP))
def mQ:FM:=kJ 368 4 (eS (OW 368 qt (fD [aB 1,aB 2,CO 368 0 (aB 2),aB 3]))
 (eS (w4 368)
 (eS (oU 368 bL [aB 2,aB 3])
 (gP))))
def iT:FM:=kJ 368 4 (eS (rN (aF aZ [aB 2]))
 (eS (rN (aF bQ [aB 1]))
 (eS (DF 2 (JG qu 368 0 (aB 1)))
 (eS (oU 368 mQ [rK (.str "put"),aB 1,aB 2])
 (eS (wZ (aB 3))
 (gP))))))
def aG:FM:=kJ 368 2 (eS (rN (aF bQ [aB 1]))
 (eS (mIf (JG qt 368 0 (aB 1))
 (eS (Bf 8)
  (gP))
 (gP))
 (eS (wZ (CN 368 0 (aB 1)))
 (gP))))
def e9:FM:=kJ 368 3 (eS (DF 1 (dQ 368 0 aG [aB 1]))
 (eS (oU 368 mQ [rK (.str "take"),aB 1,rK .non])
 (eS (wZ (aB 2))
 (gP))))
def fA:FM:=kJ 368 6 (eS (rN (aF bQ [aB 1]))
 (eS (DF 4 (aF eC [aB 2,dQ 368 0 aG [aB 3],dQ 368 0 aG [aB 4]]))
 (eS (oU 368 mQ [rK (.str "join"),aB 1,aB 5])
 (eS (wZ (aB 5))
 (gP)))))
def fR:FM:=kJ 368 3 (eS (DF 1 (aF jJ [dQ 368 0 aG [aB 1]]))
 (eS (oU 368 mQ [rK (.str "turn"),aB 1,aB 2])
 (eS (wZ (aB 2))
 (gP))))
def dY:FM:=kJ 368 1 (eS (wZ (Gr 368 0))
 (gP))
def aO:FM:=kJ 368 1 (eS (wZ (lK "" (aY 0 [0] (dQ 368 0 dY []) qr (aR .Add (aR .Add (aR .Add (aB 0) (rK (.str " = "))) (aF cM [dQ 368 1 aG [aB 0]])) (rK (.str "\n"))))))
 (gP))
def bB:FR:=Fy 368 4 (aT (iF (aF cY [aB 0]))
 (aT (NH 1 368)
 (aT (vM [2] qt (dS (gH (aB 0) (rK (.str "\n"))) qr (pi (Gi (rK (.int 1)))))
 (aT (fL 3 (zL (aB 2) (rK (.str " = "))))
  (aT (sIf (kG (aF d7 [rIx (aC 3) (rK (.int 0))]))
  (gI 6)
  (bC))
  (uN 368 1 (rIx (aC 3) (rK (.int 0))) (aF cN [rIx (aC 3) (rK (.int 2))])))))
 (aT (sIf (bR .NotEq (dQ 368 1 aO []) (aB 0))
 (gI 6)
 (bC))
 (bC))))) 1
def mK:FL:=(ifM (bR .Eq (rIx (aC 1) (rK (.int 0))) (rK (.str "put"))) (uL aM [1,0] (JJ 368 1 iT [rIx (aC 0) (rK (.int 1)),rIx (aC 0) (rK (.int 2))])) (ifM (bR .Eq (rIx (aC 1) (rK (.int 0))) (rK (.str "join"))) (uL aM [1,0] (JJ 368 1 fA [rIx (aC 0) (rK (.int 1)),rIx (aC 0) (rK (.int 2)),rIx (aC 0) (rK (.int 3)),rIx (aC 0) (rK (.int 4))])) (uL aM [1,0] (ifM (bR .Eq (rIx (aC 0) (rK (.int 0))) (rK (.str "turn"))) (JJ 368 1 fR [rIx (aC 0) (rK (.int 1))]) (JJ 368 1 e9 [rIx (aC 0) (rK (.int 1))])))))
def bJ:FM:=Iu 368 2 mK
def Pe:FS:=aT (fL 4 (aF eV [aB 0,aR .Add (rK (.int 100)) (aR .Mult (rK (.int 60)) (aB 3)),aB 2]))
  (aT (iE [2,5] (aF aX [aB 2,aB 4]))
  (aT (Il 368 1 bJ [aB 4])
  (bC)))
def IS:FS:=aT (fL 9 (aR .Add (aR .Mult (aF d8 [aB 0,aR .Add (rK (.int 1700)) (aB 3)]) (rK (.int 7919))) (aF aK [aB 0,aR .Add (rK (.int 1720)) (aB 3),rK (.int 999983)])))
  (aT (CM 8 (aF eI [aB 6,aB 9,rK (.str "0123: =ab\n")]))
  (aT (fL 10 (aF aK [aB 0,aR .Add (rK (.int 1740)) (aB 3),aF pN [aC 7]]))
  (aT (fL 11 (dS (aC 7) (pi (aB 10)) (pi (aR .Add (aB 10) (rK (.int 2))))))
  (aT (CM 8 (lK "\n" (aR .Add (dS (aC 7) qr (pi (aB 10))) (dS (aC 7) (pi (aR .Add (aB 10) (rK (.int 1)))) qr))))
  (aT (CM 8 (lK "\n" (aR .Add (dS (aC 7) qr (pi (aR .Add (aB 10) (rK (.int 1))))) (dS (aC 7) (pi (aB 10)) qr))))
  (aT (CM 8 (lK "\n" (aR .Add (aR .Add (dS (aC 7) qr (pi (aB 10))) (KA (aC 11))) (dS (aC 7) (pi (aR .Add (aB 10) (rK (.int 2)))) qr))))
  (bC)))))))
def D5:FS:=aT (fL 12 (mB aM [14] (l9 aO bB [aB 0])))
  (aT (sIf (lI (bR .NotEq (aB 12) (aB 14)) (rOr (bR .NotEq (aB 12) (rK (.str "no text"))) (bR .Eq (aB 14) (aB 6))))
  (dM (rK (.bl qu)))
  (bC))
  (bC))
def MB:FS:=aT (fL 13 (gZ [rK (.str ""),rK (.str "a = 0:1\n"),rK (.str "a = 1:01\nab = 2:0110\nb = 0:0\n"),rK (.str "wxyz = 3:01101001\n")]))
 (aT (O0 (Im (bR .NotEq (aY 0 [] (aC 13) qr (l9 aO bB [aB 0])) (aB 13)))
 (dM (rK (.bl qu)))
 (bC))
 (aT (yU 15 (gZ [rK (.str "\n"),rK (.str "a = 0:1"),rK (.str "b = 0:1\na = 0:1\n"),rK (.str "a = 0:1\na = 0:1\n"),rK (.str "A = 0:1\n"),rK (.str "abcde = 0:1\n")]))
 (aT (Gk 15 (gZ [rK (.str " = 0:1\n"),rK (.str "a = 0:2\n")]))
 (aT (Gk 15 (gZ [rK (.str "a = 1:0\n"),rK (.str "a = 5:0\n"),rK (.str "a=0:1\n"),rK (.str "a  = 0:1\n"),rK (.str "a = 0:1 \n"),rK (.str "a = 0:1\n\n"),rK (.str "a = :1\n")]))
 (aT (Gk 15 (gZ [rK (.str "a = 0:\n"),rK (.str "a\n")]))
 (aT (Gk 15 (gZ [rK .non,rK (.int 5),fD [rK (.str "a = 0:1\n")],rK (.str "a = 00:1\n"),rK (.str "a = 0 1\n"),rK (.str " a = 0:1\n"),rK (.str "a = b = 0:1\n")]))
 (aT (dM (bR .Eq (aY 0 [] (aC 15) qr (mB aM [0] (NI bB [aB 0]))) (aR .Mult (gZ [rK (.str "no text")]) (rK (.int 24)))))
 (bC))))))))
def MC:FS:=aT (rR 1 2 368 (m8))
 (aT (vM [3] qt (eW (rK (.int 7))) Pe)
 (aT (fL 6 (dQ 368 1 aO []))
 (aT (Bw 7 8 (gH (aB 6) (rK (.str "\n"))) (gZ [aB 6]))
 (aT (vM [3] qt (eW (rK (.int 4))) IS)
 (aT (JF [8] (vM [14] qt (aB 8) D5)) MB)))))
open PySem
noncomputable abbrev Sc(ns:L1 Int):D:=.lst (ns.map D.int)
def D6 ns:plain (Sc ns)=qt:=by show cS (ns.map D.int)=qt;rw[iA];intro x m;obtain⟨i,_,rfl⟩:=au.1 m;rfl
noncomputable def yN(ns:L1 Int)(k:Nat):Int:=if k<ns.length then ns.getD k 0 else if ns=[]then 0 else ns.getD (k % ns.length) 0*31+k
def BE ns(k:Nat):d8 [Sc ns,.int k]= .ok (.int (yN ns k)):=by
 have c:pN [Sc ns]= .ok (.int ns.length):=by simp[pN,items]
 by_cases h:k<ns.length;have e:(ns.map D.int)[k]? =pi (D.int (yN ns k)):=by simp[yN,h]
 refine aP (cR ((eG ?_).trans (aS ((cV rfl rfl).trans (f8 e)))));refine(aW rfl ((bF rfl).trans c)).trans ?_;simp[fK,h];refine aP ((aE ((cU ((aW rfl ((bF rfl).trans c)).trans ?_)).trans rfl)).trans ?_);simp[fK];lia;have d:bR .Eq (aB 0) (gZ []) [.sh (Sc ns),.sh (.int k)]= .ok (.bl (decide (ns=[]))):=by
  show fK .Eq (Sc ns) (.lst [])=_;rw[o0 (uQ (D6 ns) rfl (by decide))];cases ns<;>simp[deq,CK]
 by_cases b:ns=[];subst b;exact cR ((eG (d.trans rfl)).trans rfl);refine(aE ((cU (d.trans (by simp[b]))).trans rfl)).trans (aS ?_);have l:0<ns.length:=List.length_pos_iff.2 b;have e:(ns.map D.int)[k % ns.length]? =pi (D.int (ns.getD (k % ns.length) 0)):=by simp[Nat.mod_lt _ l]
 have f:j9 .Mod (.int k) (.int ns.length)= .ok (.int ((k % ns.length:Nat):Int)):=by
  have:(0:Int)<ns.length:=by lia
  simp[j9,fF,this];lia
 refine(aU ((aU ((cV rfl ((aU rfl ((bF rfl).trans c)).trans f)).trans (f8 e)) rfl).trans (BC rfl)) rfl).trans ?_;simp[j9,fF,yN,h,b]
def iM(ns:L1 Int)(k:Nat):Int:=(yN ns k+6151*(k+1))*40692 % 2147483399
def BF(ns:L1 Int)(k:Nat)(m:Int):Int:=(iM ns k*iM ns k+iM ns k/31) % 2147483629 % m
def IT ns(k:Nat)(hm:0<m):aK [Sc ns,.int k,.int m]= .ok (.int (BF ns k m)):=by
 have b:aR .Mod (aR .Mult (aR .Add (aF d8 [aB 0,aB 1]) (aR .Mult (rK (.int 6151)) (aR .Add (aB 1) (rK (.int 1))))) (rK (.int 40692))) (rK (.int 2147483399)) [.sh (Sc ns),.sh (.int k),.sh (.int m),.no]= .ok (.int (iM ns k)):=by
  refine(aU ((aU ((aU ((dD rfl rfl).trans (BE ns k)) (y:=.int (6151*(k+1))) ?_).trans rfl) rfl).trans (?_:_=R.ok (.int ((yN ns k+6151*(k+1))*40692)))) rfl).trans ?_;refine(aU rfl rfl).trans ?_;simp[j9,fF,sml];simp[j9,fF,sml];simp[j9,fF,iM]
 refine aP ((aE (cJ b)).trans (aS ?_));unfold BF;have c:sml (iM ns k)=qt:=by
  have:0<=iM ns k/\iM ns k<2147483399:=by unfold iM;lia
  simp[sml];lia
 generalize iM ns k=x at *;have d:aR .FloorDiv (aB 3) (rK (.int 31)) [.sh (Sc ns),.sh (.int k),.sh (.int m),.sh (.int (x))]= .ok (.int (x/31)):=by
  refine(aU rfl rfl).trans ?_;simp[j9,fF]
 have e:aR .Mult (aB 3) (aB 3) [.sh (Sc ns),.sh (.int k),.sh (.int m),.sh (.int x)]= .ok (.int (x*x)):=by
  refine(aU rfl rfl).trans ?_;simp[j9,fF,c]
 refine(aU ((aU ((aU e d).trans rfl) rfl).trans (?_:_=R.ok (.int ((x*x+x/31) % 2147483629)))) rfl).trans ?_;simp[j9,fF];exact mI hm
def uS ns k(hm:0<m):0<=BF ns k m/\BF ns k m<m:=⟨Int.emod_nonneg _ (by lia),Int.emod_lt_of_pos _ hm⟩
def bit(d:D):Prop:=d= .int 0\/d= .int 1
def BG i:bit (.int (i % 2)):=by unfold bit;rcases(show i % 2=0\/i % 2=1 by lia)with h|h<;>simp[h]
def ix4{j:Nat}(h:a ρ= .ok (.int j))(l:j<4):rIx (gZ [rK (.int 1),rK (.int 2),rK (.int 4),rK (.int 8)]) a ρ= .ok (.int ((2^j:Nat):Int)):=by refine(rX rfl h).trans (f8 ?_);rcases(show j=0\/j=1\/j=2\/j=3 by lia)with rfl|rfl|rfl|rfl<;>rfl
def ix5{j:Nat}(h:a ρ= .ok (.int j))(l:j<=4):rIx (gZ [rK (.int 1),rK (.int 2),rK (.int 4),rK (.int 8),rK (.int 16)]) a ρ= .ok (.int ((2^j:Nat):Int)):=by refine(rX rfl h).trans (f8 ?_);rcases(show j=0\/j=1\/j=2\/j=3\/j=4 by lia)with rfl|rfl|rfl|rfl|rfl<;>rfl
def kC(h:m<=4):1<=2^m/\2^m<=16:=by rcases(show m=0\/m=1\/m=2\/m=3\/m=4 by lia)with rfl|rfl|rfl|rfl|rfl<;>decide
def j5{m:Nat}(hm:m<=4)k: ∃xs,bA [.int m,.int k]= .ok (.tup xs)/\xs.length=m/\∀x∈xs,bit x:=by
 obtain⟨xs,e,l,b⟩:=mF (n:=0) (cs:=[1]) (it:=eW (aB 0)) (e:=aR .Mod (aR .FloorDiv (aB 1) (rIx (gZ [rK (.int 1),rK (.int 2),rK (.int 4),rK (.int 8)]) (aB 0))) (rK (.int 2))) (ρ:=[.sh (.int m),.sh (.int k)]) (ds:=x8 m) (P:=bit)
  (.inl (jH rfl (by lia))) λd h=>by
   obtain⟨j,f,rfl⟩:=xD h;have c:=kC (m:=j) (by lia);refine⟨[.sh (.int j)],_,rfl,(aU ((aU rfl (ix4 (a:=aB 0) (j:=j) rfl (by lia))).trans (uP ?_ ?_)) rfl).trans (mI (by decide)),BG _⟩<;>lia
 exact⟨xs,aP (aS ((dI e).trans rfl)),l.trans mG,b⟩
theorem BH: ∀{xs},(∀x∈xs, ∃i,x=D.int i)->∃is:L1 Int,xs=is.map D.int
 |[],_=>⟨[],rfl⟩
 |x::r,h=>by
  obtain⟨i,rfl⟩:=h x (.head _);obtain⟨is,rfl⟩:=BH (xs:=r) λy m=>h y (.tail _ m);exact⟨i::is,rfl⟩
def IU(h:bit d): ∃i,d= .int i:=by rcases h with rfl|rfl<;>exact⟨_,rfl⟩
def D7(is:L1 Int):EF [.lst (is.map D.int)]= .ok (.int is.sum):=by simp[EF,items,rW]
def IV(is:L1 Int):EF [.tup (is.map D.int)]= .ok (.int is.sum):=by simp[EF,items,rW]
def MD a b: ∃r,gT [.int a,.int b]= .ok r/\bit r:=by
 obtain⟨c,t,I,w⟩:=j5 (m:=4) (by decide) a;obtain⟨f,s,G,E⟩:=j5 (m:=4) (by decide) b;have g:qG (aF bA [rK (.int 4),aB 0]) (aF bA [rK (.int 4),aB 1]) [.sh (.int a),.sh (.int b)]= .ok (.lst ((c.zip f).map λp=>D.tup [p.1,p.2])):=by
  have A:aF bA [rK (.int 4),aB 0] [.sh (.int a),.sh (.int b)]= .ok (.tup c):=(dD rfl rfl).trans t;have v:aF bA [rK (.int 4),aB 1] [.sh (.int a),.sh (.int b)]= .ok (.tup f):=(dD rfl rfl).trans s;simp[qG,A,v,R.bind]
 obtain⟨H,e,l,q⟩:=mF (n:=2) (cs:=[]) (e:=aR .Mult (aB 0) (aB 1)) (P:=λx=>∃i,x=D.int i) (.inl g) λd h=>by
  obtain⟨⟨x,y⟩,B,rfl⟩:=au.1 h;obtain⟨z,C⟩:=lf B;have o:=w x z;have u:=E y C;refine⟨[.sh x,.sh y],?_⟩;rcases o with rfl|rfl<;>rcases u with rfl|rfl<;>exact⟨_,rfl,rfl,_,rfl⟩
 obtain⟨j,rfl⟩:=BH q;exact⟨_,aP (aS ((aU ((dI e).trans (D7 j)) rfl).trans (mI (by decide)))),BG _⟩
def cO ns(k:Nat){m:Nat}(hm:0<m): ∃p:Nat,aK [Sc ns,.int k,.int m]= .ok (.int p)/\p<m:=by
 have h:(0:Int)<m:=by lia
 have r:=uS ns k h;refine⟨(BF ns k m).toNat,(IT ns k h).trans ?_,by lia⟩;rw[iq r.1]
def FE{p:Nat}(h:p<2):bit (.int p):=by rcases(show p=0\/p=1 by lia)with rfl|rfl;exact .inl rfl;exact .inr rfl
def FF{ws}(h: ∀w∈ws,bit w){p:Nat}(hp:p<ws.length): ∃w,dIx (.lst ws) (.int p)= .ok w/\bit w:=
 ⟨ws[p],f8 (bd hp),h _ (kr hp)⟩
section
variable{P:Out->Prop}{c d e:F}{s:FS}{ρ:Rho}{m:Nat}{cs:L1 Nat}
def Cv(h:t ρ= .nx ρ')(k:P (s ρ')):P (aT t s ρ):=by rwa [aE h]
def NN(hc: ∃q,c ρ= .ok (.bl q))(ha:c ρ= .ok (.bl qt)->P (s ρ))(hb:P (t ρ)):P (sIf c s t ρ):=by obtain⟨q,e⟩:=hc;rcases q with _|_;rwa [cU e];rw[eG e];exact ha e
def IW:(∃q,c ρ= .ok (.bl q))->(∃q,d ρ= .ok (.bl q))->∃q,lI c d ρ= .ok (.bl q)
 |⟨qt,h⟩,⟨q,k⟩=>⟨q,(rY h).trans k⟩
 |⟨qu,h⟩,_=>⟨_,xC h⟩
def Pf(h:lI c d ρ= .ok (.bl qt)):d ρ= .ok (.bl qt):=by
 unfold lI at h;cases e:c ρ<;>rw[e]at h<;>try (cases h;done)
 rename_i x;cases x<;>try (cases h;done)
 rename_i q;cases q<;>first|(cases h;done)|exact h
abbrev WyO{α:Type}(f:α->Rho)(G:α->Prop)(o:Out):Prop:= ∃x,o= .nx (f x)/\G x
def IX{f:α->Rho}{G}(h:WyO f G (t ρ))(k: ∀x,G x->P (s (f x))):P (aT t s ρ):=by obtain⟨x,e,g⟩:=h;exact Cv e (k x g)
def NO(m:Nat)(ws:L1 D):Prop:=ws.length=2^m/\∀w∈ws,bit w
def D8(hm:m<=4)(h3:aB 3 ρ= .ok (.int (2^m:Nat)))(h: ∀j:Nat,j<2^m->∃d,e (.sh (.int j)::jP cs ρ)= .ok d/\bit d)(k: ∀ws,NO m ws->P (.nx (ρ.set 5 (.ow ws)))):P (yU 5 (aY 0 cs (eW (aB 3)) qr e) ρ):=by
 have:=kC hm;obtain⟨ws,g,l,b⟩:=mF (n:=0) (cs:=cs) (e:=e) (P:=bit) (.inl (jH h3 (by lia))) λd c=>by
  obtain⟨j,i,rfl⟩:=xD c;obtain⟨d,f,b⟩:=h j i;exact⟨[.sh (.int j)],d,rfl,f,b⟩
 rw[IR g];exact k ws ⟨l.trans mG,b⟩
abbrev SwO(m:Nat)(o:Out):Prop:= ∃ws,o= .rt (.ok (.tup [.int m,.tup ws]))/\ws.length=2^m/\∀w∈ws,bit w
def SwO.fn{n:Nat}{ds:L1 D}:SwO m (s (ds.map Slot.sh++ao (n-ds.length) .no))->∃ws,fnOf n s ds= .ok (.tup [.int m,.tup ws])/\ws.length=2^m/\∀w∈ws,bit w|⟨ws,x,r⟩=>⟨ws,aP x,r⟩
end
def BI ns(at':Nat){m:Nat}(hm:m<=4): ∃ws,cZ [Sc ns,.int at',.int m]= .ok (.tup [.int m,.tup ws])/\ws.length=2^m/\∀w∈ws,bit w:=by
 have s:=kC hm;obtain⟨y,d,_⟩:=cO ns at' (m:=6) (by decide);refine SwO.fn (Cv (cJ (ix5 (a:=aB 2) (j:=m) rfl hm)) (Cv (cJ ((dP rfl rfl rfl).trans d)) (IX (f:=λws=>[.sh (Sc ns),.sh (.int at'),.sh (.int m),.sh (.int (2^m:Nat)),.sh (.int y),.ow ws,.no,.no,.no]) (G:=NO m) (D8 hm rfl (λj B=>?_) λws b=>⟨ws,rfl,b⟩) λc n=>?_)));obtain⟨p,s,lp⟩:=cO ns (at'+1+j) (m:=2) (by decide);exact⟨_,(dP (x:=Sc ns) (y:=.int ((at'+1+j:Nat):Int)) (z:=.int 2) rfl rfl rfl).trans s,FE lp⟩;refine IX (f:=λx:L1 D×Slot×Slot=>[.sh (Sc ns),.sh (.int at'),.sh (.int m),.sh (.int (2^m:Nat)),.sh (.int y),.ow x.1,x.2.1,x.2.2,.no]) (G:=λx=>NO m x.1) (NN (IW ⟨_,rfl⟩ ⟨_,rfl⟩) (λ_=>?_) (NN ⟨_,rfl⟩ (λ_=>?_) (NN (IW ⟨_,rfl⟩ ⟨_,rfl⟩) (λh=>?_) ⟨(c,.no,.no),rfl,n⟩))) λx g=>?_;obtain⟨k,hk,_⟩:=cO ns (at'+20) (m:=2^m) (by lia);exact Cv (cJ ((dP rfl rfl rfl).trans hk)) (D8 hm rfl (λj _=>let ⟨r,hr,br⟩:=MD k j;⟨r,(dD rfl rfl).trans hr,br⟩) λws b=>⟨(ws,_,_),rfl,b⟩);obtain⟨q,o,_⟩:=cO ns (at'+21) (m:=3) (by lia);refine D8 hm rfl (λj _=>?_) λws b=>⟨(ws,_,_),rfl,b⟩;obtain⟨O,J,L,bs⟩:=j5 hm j;obtain⟨A,rfl⟩:=BH λx m=>IU (bs x m);refine⟨_,(bF ((aW ((bF ((dD rfl rfl).trans J)).trans (IV A)) ((aU rfl ((dP rfl rfl rfl).trans o)).trans rfl)).trans rfl)).trans rfl,?_⟩;unfold b2i;split;exact .inr rfl;exact .inl rfl;have N:0<m:=by simpa using show R.ok (.bl (decide ((0:Int)<m)))= .ok (.bl qt) from Pf h
 obtain⟨k,hk,lk⟩:=cO ns (at'+22) (m:=m) (by lia);refine Cv (cJ ((dP rfl rfl rfl).trans hk)) (D8 hm rfl (λj B=>?_) λws b=>⟨(ws,_,_),rfl,b⟩);have t:=kC (m:=k) (by lia);have i:j/2^k % 2*2^k<=j:=ny (Nat.mul_le_mul_right _ (Nat.mod_le _ _)) (Nat.div_mul_le_self ..);obtain⟨w,d,l⟩:=FF n.2 (p:=j-j/2^k % 2*2^k) (by have:=n.1;lia);refine⟨w,(cV (x:=.lst c) (y:=.int (j-j/2^k % 2*2^k:Nat)) rfl ?_).trans d,l⟩;refine(aU rfl ((aU ((aU ((aU rfl (ix4 (a:=aB 1) (j:=k) rfl (by lia))).trans (uP (by lia) (by lia))) rfl).trans (mI (by decide))) (ix4 (a:=aB 1) (j:=k) rfl (by lia))).trans (BC (Mz (by lia) (by lia))))).trans ?_;show R.ok (D.int ((j:Int)-(j:Int)/((2^k:Nat):Int) % 2*((2^k:Nat):Int)))=_;rw[Int.ofNat_sub i,Int.natCast_mul,Int.natCast_emod,Int.natCast_ediv];rfl;refine IX (f:=λz:L1 D×Slot=>[.sh (Sc ns),.sh (.int at'),.sh (.int m),.sh (.int (2^m:Nat)),.sh (.int y),.ow z.1,x.2.1,x.2.2,z.2]) (G:=λz=>NO m z.1) ?_ λz E=>⟨z.1,rfl,E⟩;obtain⟨q,o,_⟩:=cO ns (at'+23) (m:=3) (by lia);refine NN (IW ⟨_,rfl⟩ ⟨_,(aW ((dP rfl rfl rfl).trans o) rfl).trans (o0 rfl)⟩) (λ_=>?_) ⟨(x.1,.no),rfl,g⟩;obtain⟨p,H,M⟩:=cO ns (at'+24) (m:=2^m) (by lia);have K:=g.1;obtain⟨w,d,l⟩:=FF g.2 (p:=p) (by lia);obtain⟨v,C,u⟩: ∃v,j9 .Sub (.int 1) w= .ok v/\bit v:=by
  rcases l with rfl|rfl;exact⟨_,rfl,.inr rfl⟩;exact⟨_,rfl,.inl rfl⟩
 have hi:ixD x.1.length (p:Int)=pi p:=by simp[ixD];lia
 refine Cv (cJ ((dP rfl rfl rfl).trans H)) ⟨(x.1.set p v,.sh (.int p)),?_,by simp[K],λz I=>(List.mem_or_eq_of_mem_set I).elim (g.2 z) λe=>e▸u⟩;unfold Cr;rw[(aU rfl ((cV rfl rfl).trans d)).trans C];simp[fC,aB,hi]
noncomputable def wb(b:Int):D->Bool
 |.int i=>decide (0<=i)&&decide (i<b)
 |_=>qu
def mL b(h:plain x=qt):bM [x,.int b]= .ok (.bl (wb b x)):=by
 cases x with
 |int i=>
  exact aP (aS ((rY rfl).trans (BB (i:=0) (j:=i) (k:=b) rfl rfl rfl)))
 |exc c=>exact absurd h (by simp[plain])
 |fn c=>exact absurd h (by simp[plain])
 |dct e d=>exact absurd h (by simp[plain])
 |_=>rfl
def BJ b(hx:x= .tup ds\/x= .lst ds)(h:cS ds=qt):cE [x,.int b]= .ok (.bl (ds.all (wb b))):=by
 have e:aY 0 [1] (aC 0) qr (aF bM [aB 0,aB 1]) [.sh x,.sh (.int b)]= .ow (ds.map λd=>.bl (wb b d)):=
  mE (by rcases hx with rfl|rfl;exact .inr (.inl rfl);exact .inl rfl) λd m=>(dD rfl rfl).trans (mL b (iA.1 h d m))
 exact aP (aS ((dI e).trans Mx))
def MF(n b:Int):D->Bool
 |.tup ws=>decide ((ws.length:Int)=n)&&ws.all (wb b)
 |_=>qu
def IY i j:fK .Eq (.int i) (.int j)= .ok (.bl (decide (i=j))):=by rw[o0 (x:=.int i) (y:=.int j) rfl];show R.ok (.bl (i==j))=_;congr 2
def BK i j:fK .NotEq (.int i) (.int j)= .ok (.bl (!decide (i=j))):=by rw[uR (x:=.int i) (y:=.int j) rfl];show R.ok (.bl (!(i==j)))=_;congr 2
def nX n b(h:plain x=qt):jI [x,.int n,.int b]= .ok (.bl (MF n b x)):=by
 cases x with
 |tup f=>
  refine aP (aS ((rY rfl).trans ?_));have e:bR .Eq (aF pN [aC 0]) (aB 1) [.sh (.tup f),.sh (.int n),.sh (.int b)]= .ok (.bl (decide ((f.length:Int)=n))):=(aW rfl rfl).trans (IY _ _);by_cases d:(f.length:Int)=n;exact(rY (e.trans (by simp[d]))).trans ((dD rfl rfl).trans ((BJ b (.inl rfl) h).trans (by simp[MF,d])));exact(xC (e.trans (by simp[d]))).trans (by simp[MF,d])
 |exc c=>exact absurd h (by simp[plain])
 |fn c=>exact absurd h (by simp[plain])
 |dct i g=>exact absurd h (by simp[plain])
 |_=>rfl
def D9{m:Nat}(h:m<=4):bS [.int m]= .ok (.int (2^m:Nat)):=by rcases(show m=0\/m=1\/m=2\/m=3\/m=4 by lia)with rfl|rfl|rfl|rfl|rfl<;>rfl
def BL:D->Bool
 |.tup [a,b]=>wb 5 a&&(match a with|.int m=>MF (2^m.toNat:Nat) 2 b|_=>qu)
 |_=>qu
def BM(h:wb b x=qt): ∃m:Nat,x= .int m/\(m:Int)<b:=by
 cases x with
 |int i=>
  simp[wb]at h;exact⟨i.toNat,by rw[iq h.1],by lia⟩
 |_=>simp[wb]at h
def fB(h:plain d=qt):cW [d]= .ok (.bl (BL d)):=by
 cases d with
 |tup e=>
  have i:bR .NotEq (aF pN [aC 0]) (rK (.int 2)) [.sh (.tup e)]= .ok (.bl (!decide ((e.length:Int)=2))):=(aW rfl rfl).trans (BK _ _);by_cases g:e.length=2;obtain⟨a,b,rfl⟩: ∃a b,e=[a,b]:=by
   match e,g with
   |[a,b],_=>exact⟨a,b,rfl⟩
  have j:plain a=qt/\plain b=qt:=by simpa[plain,cS]using h
  have n:aF fQ [rIx (aC 0) (rK (.int 0))] [.sh (.tup [a,b])]= .ok (.bl (wb 5 a)):=(bF rfl).trans (aP (aS ((dD rfl rfl).trans (mL 5 j.1))));have l:rOr (kG (rIs (oE) (aB 0))) (rOr (bR .NotEq (aF pN [aC 0]) (rK (.int 2))) (kG (aF fQ [rIx (aC 0) (rK (.int 0))]))) [.sh (.tup [a,b])]= .ok (.bl (!wb 5 a)):=
   (oZ rfl).trans ((oZ (i.trans rfl)).trans (gR n))
  cases f:wb 5 a with
  |false=>exact aP (cR ((eG (l.trans (by rw[f];rfl))).trans (aS (by simp[BL,f,rK])))) 
  |true=>
   obtain⟨m,rfl,q⟩:=BM f;refine aP ((aE ((cU (l.trans (by rw[f];rfl))).trans rfl)).trans (aS ((dP rfl ((bF rfl).trans (D9 (by lia))) rfl).trans ((nX _ _ j.2).trans ?_))));simp[BL,f]
  refine aP (cR ((eG ((oZ rfl).trans (D4 (i.trans ?_)))).trans (aS ?_)));have: ¬(e.length:Int)=2:=by lia
  simp[this];match e,g with
  |[],_=>rfl
  |[_],_=>rfl
  |_::_::_::_,_=>rfl
  |[_,_],h=>exact absurd rfl h
 |exc c=>exact absurd h (by simp[plain])
 |fn c=>exact absurd h (by simp[plain])
 |dct p o=>exact absurd h (by simp[plain])
 |_=>rfl
def iU(h:plain d=qt)(s:BL d=qt):aZ [d]= .ok .non:=
 oY (ρ:=[.sh d]) ((cU ((gR ((bF rfl).trans (fB h))).trans (by rw[s];rfl))).trans rfl)
noncomputable def tn:D->D
 |.int i=>.int (1-i)
 |d=>d
def Ea(s:BL d=qt): ∃(m:Nat) (ws:L1 D),d= .tup [.int m,.tup ws]/\m<=4/\ws.length=2^m/\∀w∈ws,bit w:=by
 match d,s with
 |.tup [a,b],s=>
  simp only[BL,aw]at s;obtain⟨m,rfl,f⟩:=BM s.1;match b,s with
  |.tup ws,s=>
   have c:=s.2;simp only[MF,aw,decide_eq_true_eq,jx]at c;refine⟨m,ws,rfl,by lia,?_,λw e=>?_⟩;have:=c.1;simp only[ju]at this;exact Int.ofNat.inj this;obtain⟨k,rfl,lk⟩:=BM (c.2 w e);exact FE (by lia)
def nY(h:bit d):plain d=qt/\dep d=0:=by rcases h with rfl|rfl<;>exact⟨rfl,rfl⟩
def yO(h: ∀w∈ws,bit w):cS ws=qt:=iA.2 λx m=>(nY (h x m)).1
def IZ{m:Nat}(hm:m<=4)(l:ws.length=2^m)(h: ∀w∈ws,bit w):BL (.tup [.int m,.tup ws])=qt:=by
 have c:wb 5 (.int m)=qt:=by simp[wb];lia
 have e:ws.all (wb 2)=qt:=by
  rw[jx];intro w d;rcases h w d with rfl|rfl<;>rfl
 have b:BL (.tup [.int m,.tup ws])=(wb 5 (.int m)&&(decide ((ws.length:Int)=(2^m:Nat))&&ws.all (wb 2))):=rfl;rw[b,c,e,decide_eq_true (by rw[l])];rfl
def Eb{m:Nat}(h: ∀w∈ws,bit w):plain (.tup [.int m,.tup ws])=qt:=by simp[plain,cS,yO h]
end SK.k76
namespace SK
open PySem
def xE(hi:it ρ= .ok (.lst ds)\/it ρ= .ok (.tup ds)\/it ρ= .ow ds)(h:bE (dJ n (jP cs ρ) c e) ds=pi xs):aY n cs it c e ρ= .ow xs:=by rcases hi with hi|hi|hi<;>simp[aY,hi,R.bind,iI,items,h]
def BN(h:a ρ= .ok (.tup xs))(k:b ρ= .ok (.tup ys)):qG a b ρ= .ok (.lst ((xs.zip ys).map λp=>D.tup [p.1,p.2])):=by simp[qG,h,k,R.bind]
def bD(b:Bool):D:=.int (b2i b)
end SK
namespace SK.k76
open SK PySem
def sw(m:Nat)(bs:L1 Bool):D:=.tup [.int m,.tup (bs.map bD)]
def gC(m:Nat)(bs:L1 Bool):Prop:=m<=4/\bs.length=2^m
def MG b:bit (bD b):=by cases b;exact .inl rfl;exact .inr rfl
theorem uT: ∀{ws},(∀w∈ws,bit w)->∃bs:L1 Bool,ws=bs.map bD
 |[],_=>⟨[],rfl⟩
 |w::r,h=>by
  obtain⟨bs,rfl⟩:=uT (ws:=r) λx m=>h x (.tail _ m);rcases h w (.head _)with rfl|rfl;exact⟨qu::bs,rfl⟩;exact⟨qt::bs,rfl⟩
def BO(bs:L1 Bool): ∀w∈bs.map bD,bit w:=λw m=>by obtain⟨b,_,rfl⟩:=au.1 m;exact MG b
def gU(g:gC m bs):BL (sw m bs)=qt:=IZ g.1 (by simpa using g.2) (BO bs)
def rZ m bs:plain (sw m bs)=qt:=Eb (BO bs)
def MH m bs:dep (sw m bs)<=60:=by have:=BD λx b=>(nY (BO bs x b)).2;simp[sw,dep,CL,this]
def Ec ns(at':Nat)(hm:m<=4): ∃bs,gC m bs/\cZ [Sc ns,.int at',.int m]= .ok (sw m bs):=by obtain⟨c,e,l,b⟩:=BI ns at' hm;obtain⟨bs,rfl⟩:=uT b;exact⟨bs,⟨hm,by simpa using l⟩,e⟩
def gC.zip f(g:gC m a)(h:gC m b):gC m (ou f a b):=⟨g.1,by simp[g.2,h.2]⟩
def gC.not(g:gC m a):gC m (a.map (! ·)):=⟨g.1,by simp[g.2]⟩
def o7(g:gC m a)(h:gC m b):bP [sw m a,sw m b]= .ok .non:=by
 refine oY (ρ:=[.sh (sw m a),.sh (sw m b)]) ((aE (dC ((bF rfl).trans (iU (rZ m a) (gU g))))).trans ((aE (dC ((bF rfl).trans (iU (rZ m b) (gU h))))).trans ((cU ((aW (x:=.int m) (y:=.int m) rfl rfl).trans ?_)).trans rfl)));rw[BK];simp
def o8(hop: ∀x y,j9 op (bD x) (bD y)= .ok (bD (f x y))):
  aY 2 [] (qG (rIx (aC 0) (rK (.int 1))) (rIx (aC 1) (rK (.int 1)))) qr (aR op (aB 0) (aB 1)) [.sh (sw m a),.sh (sw m b)]= .ow ((ou f a b).map bD):=by
 refine xE (.inl (BN rfl rfl)) ?_;have: ∀(a b:L1 Bool),bE (dJ 2 (jP [] [.sh (sw m a),.sh (sw m b)]) qr (aR op (aB 0) (aB 1))) (((a.map bD).zip (b.map bD)).map λp=>D.tup [p.1,p.2])=pi ((ou f a b).map bD):=by
  intro a;induction a with
  |nil=>intro b;rfl
  |cons x a d=>
   intro b;rcases b with _|⟨y,b⟩;rfl;have:=d b;simp only[jP,om]at this ⊢;simp only[mr,List.zip_cons_cons,List.zipWith_cons_cons,bE];rw[show dJ 2 [] qr (aR op (aB 0) (aB 1)) (D.tup [bD x,bD y])=pi (pi (bD (f x y))) from by
    have c:aR op (aB 0) (aB 1) [.sh (bD x),.sh (bD y)]= .ok (bD (f x y)):=(aU rfl rfl).trans (hop x y);simp[dJ,tgt,c]]
   simp[this]
 exact this a b
def Ja(g:gC m a)(h:gC m b):nW [sw m a,sw m b]= .ok (sw m (ou (· && ·) a b)):=
 aP ((aE (dC ((dD rfl rfl).trans (o7 g h)))).trans (aS (fZ rfl ((dI (o8 λx y=>by cases x<;>cases y<;>rfl)).trans rfl))))
def BP(g:gC m a)(h:gC m b):iC [sw m a,sw m b]= .ok (sw m (ou (· || ·) a b)):=
 aP ((aE (dC ((dD rfl rfl).trans (o7 g h)))).trans (aS (fZ rfl ((dI (o8 λx y=>by cases x<;>cases y<;>rfl)).trans rfl))))
def BQ(g:gC m a)(h:gC m b):iD [sw m a,sw m b]= .ok (sw m (ou (· ^^ ·) a b)):=
 aP ((aE (dC ((dD rfl rfl).trans (o7 g h)))).trans (aS (fZ rfl ((dI (o8 λx y=>by cases x<;>cases y<;>rfl)).trans rfl))))
def BR(g:gC m a):jJ [sw m a]= .ok (sw m (a.map (! ·))):=by
 have e:aY 0 [] (rIx (aC 0) (rK (.int 1))) qr (aR .Sub (rK (.int 1)) (aB 0)) [.sh (sw m a)]= .ow ((a.map (! ·)).map bD):=by
  have:=mE (cs:=[]) (it:=rIx (aC 0) (rK (.int 1))) (e:=aR .Sub (rK (.int 1)) (aB 0)) (ρ:=[.sh (sw m a)]) (ds:=a.map bD) (g:=tn) (.inr (.inl rfl)) λd c=>by
   obtain⟨b,_,rfl⟩:=au.1 c;cases b<;>rfl
  rw[this,ox,ox];congr 1;refine ik λb _=>?_;cases b<;>rfl
 exact aP ((aE (dC ((bF rfl).trans (iU (rZ m a) (gU g))))).trans (aS ((fZ (x:=.int (m:Nat)) rfl ((dI e).trans rfl)).trans rfl)))
def fM(h:a ρ= .ex c ρ'):aT a b ρ= .ex c ρ':=by simp[aT,h]
def Ed(g:gC m a)(h:gC m2 b)(n:m≠m2):bP [sw m a,sw m2 b]= .ex 4:=by
 refine gQ (ρ:=[.sh (sw m a),.sh (sw m2 b)]) ((aE (dC ((bF rfl).trans (iU (rZ m a) (gU g))))).trans ((aE (dC ((bF rfl).trans (iU (rZ m2 b) (gU h))))).trans ((eG ((aW (x:=.int m) (y:=.int m2) rfl rfl).trans ?_)).trans rfl)));rw[BK,decide_eq_false (by lia)];rfl
noncomputable def CT x y(h:bP [x,y]= .ex c):nW [x,y]= .ex c/\iC [x,y]= .ex c/\iD [x,y]= .ex c:=
 ⟨gQ (ρ:=[.sh x,.sh y]) (fM (oX ((dD rfl rfl).trans h))),gQ (ρ:=[.sh x,.sh y]) (fM (oX ((dD rfl rfl).trans h))),gQ (ρ:=[.sh x,.sh y]) (fM (oX ((dD rfl rfl).trans h)))⟩
section
variable{h:L1 (Str×D)}
def bG:bK (p::h) y=if p.1=y then pi p.2 else bK h y:=by by_cases e:p.1=y<;>simp[bK,e]
def r8(n:y∉h.map (·.1)):bK h y=qr:=by
 induction h with
 |nil=>rfl
 |cons p r b=>
  rw[bG,if_neg (λe=>n (by simp[e])),b λm=>n (by simp[m])]
def kU(nd:(h.map (·.1)).Nodup)(m:p∈h):bK h p.1=pi p.2:=by
 induction h with
 |nil=>cases m
 |cons q r c=>
  rw[mr,la]at nd;rw[bG];rcases av.1 m with rfl|m;simp;have b: ¬q.1=p.1:=λe=>nd.1 (by rw[e];exact au.2 ⟨p,m,rfl⟩);rw[if_neg b,c nd.2 m]
def BS(e:bK h y=pi v):(y,v)∈h:=by
 induction h with
 |nil=>cases e
 |cons q r b=>
  rw[bG]at e;split at e;rename_i z;cases e;subst z;exact .head _;exact .tail _ (b e)
def mM:(bK h y).isSome=(h.map (·.1)).contains y:=by
 induction h with
 |nil=>rfl
 |cons q r b=>
  rw[bG,mr,List.contains_cons];by_cases e:q.1=y;simp[e];rw[if_neg e,b,show(y==q.1)=qu from by simpa using λz=>e z.symm];simp
def BU:(h.any λp=>decide (p.1=x))=(bK h x).isSome:=by
 induction h with
 |nil=>rfl
 |cons q r b=>
  rw[mz,bG,b];by_cases e:q.1=x<;>simp[e]
def gW(n:(bK h x).isSome=qu):fE h x d=h++[(x,d)]:=by unfold fE;rw[BU,n];rfl
def j6(n:(bK h x).isSome=qt):fE h x d=h.map λp=>if p.1=x then(p.1,d)else p:=by unfold fE;rw[BU,n];rfl
def Ee:(h.map λp=>if p.1=x then(p.1,d)else p).map (·.1)=h.map (·.1):=by rw[ox];refine ik λp _=>?_;by_cases e:p.1=x<;>simp[e]
def o9(hn:(h.map (·.1)).Nodup):((fE h x d).map (·.1)).Nodup:=by rcases n:(bK h x).isSome with _|_;rw[gW n,ll];refine jw.2 ⟨hn,by simp,λa c b f=>?_⟩;rw[mM]at n;simp at f;subst f;intro e;subst e;simp at n c;obtain⟨v,g⟩:=c;exact n v g;rw[j6 n,Ee];exact hn
def Jb(m:p∈fE h x d):p=(x,d)\/p∈h:=by rcases n:(bK h x).isSome with _|_;rw[gW n]at m;rcases k6.1 m with m|m;exact .inr m;left;simpa using m;rw[j6 n]at m;obtain⟨q,b,rfl⟩:=au.1 m;by_cases e:q.1=x;left;simp[e];right;simpa[e]using b
def uU(hn:(h.map (·.1)).Nodup):bK (fE h x d) x=pi d:=by refine kU (o9 hn) (p:=(x,d)) ?_;rcases n:(bK h x).isSome with _|_;rw[gW n];simp;rw[j6 n];obtain⟨v,e⟩:=ef.1 n;exact au.2 ⟨(x,v),BS e,by simp⟩
def sA(hn:(h.map (·.1)).Nodup):((gB h x).map (·.1)).Nodup:=hn.sublist (List.Sublist.map _ List.filter_sublist)
def MJ:(h.map (·.1)).zip (h.map (·.2))=h:=by
 induction h with
 |nil=>rfl
 |cons q r b=>simp[b]
theorem MP: ∀(ps acc:L1 (Str×D)),((acc++ps).map (·.1)).Nodup->ps.foldl (λacc p=>fE acc p.1 p.2) acc=acc++ps
 |[],acc,_=>by simp
 |p::r,acc,hn=>by
  have n:(bK acc p.1).isSome=qu:=by
   rw[r8];rfl;rw[ll,jw]at hn;intro m;exact hn.2.2 p.1 m p.1 (by simp) rfl
  rw[List.foldl_cons,gW n,MP r _ (by simpa using hn)];simp
def Jc(hn:(h.map (·.1)).Nodup):tD h=h:=by have:=MP h [] (by simpa using hn);exact this
def yP:kA (h.map λp=>D.tup [.str p.1,p.2])=pi h:=by
 induction h with
 |nil=>rfl
 |cons q r b=>simp[kA,b]
def Jd(hn:(h.map (·.1)).Nodup)(hl:h.length<=1000):m9 (.lst (h.map λp=>D.tup [.str p.1,p.2]))= .ok (.dct (h.map (·.1)) (h.map (·.2))):=by simp[m9,yP,hl,Jc hn]
end
def jK l:(gJ l).Perm l:=fP l
def cD(e:g ρ b= .nx ρ' b'):eS g h ρ b=h ρ' b':=by simp[eS,e]
def uV(e:g ρ b= .rt x ρ' b'):eS g h ρ b= .rt x ρ' b':=by simp[eS,e]
def pA(e:g ρ b= .ex c b'):eS g h ρ b= .ex c b':=by simp[eS,e]
def jL(e:f ρ= .ok d):rN f ρ b= .nx ρ b:=by simp[rN,e,wY]
def pB(e:f ρ= .ok d):DF i f ρ b= .nx (ρ.set (i+1) (.sh d)) b:=by simp[DF,e,wY]
def uW(e:f ρ= .ex c):DF i f ρ b= .ex c b:=by simp[DF,e,wY]
def MQ(e:f ρ= .ok (.bl qt)):mIf f g h ρ b=g ρ b:=by simp[mIf,e]
def MR(e:f ρ= .ok (.bl qu)):mIf f g h ρ b=h ρ b:=by simp[mIf,e]
def BV(e:f ρ= .ok d):wZ f ρ b= .rt (.ok d) ρ b:=by simp[wZ,e]
def Je(e:f ρ= .ow xs):wZ f ρ b= .rt (.ow xs) ρ b:=by simp[wZ,e]
def uX(h:e ρ= .ex c):dM e ρ= .ex c ρ:=by simp[dM,h]
noncomputable def NM:L1 Str:=["a","b","gm","xjqp"]
noncomputable def WD:L1 Str:=["both","either","unlike"]
def Sw(d:D):Prop:= ∃m a,gC m a/\d=sw m a
def eT(hx:x∈NM):bQ [.str x]= .ok .non:=by
 simp only[NM,av,ki,or_false]at hx;rcases hx with rfl|rfl|rfl|rfl<;>kernel_rfl
def MU(h:Sw d):aZ [d]= .ok .non:=by obtain⟨m,a,g,rfl⟩:=h;exact iU (rZ m a) (gU g)
def yV(r:Rk)(x:Str):R:=match bK r.held x with|some d=>.ok d|none=>.ex 8
def uY r(hx:bQ [.str x]= .ok .non):aG r [.str x]= .pure (yV r x):=by unfold aG kJ yV;show iR 368 (eS _ _ [.rk 368 r,.sh (.str x)] qu)=_;rw[cD (jL ((bF (x:=.str x) rfl).trans hx))];rcases e:bK r.held x with _|d;rw[pA (c:=8) (b':=qu)];rfl;rw[MQ];rfl;show R.ok (.bl (qt != (bK r.held x).isSome))=_;rw[e];rfl;rw[cD (ρ':=[.rk 368 r,.sh (.str x)]) (b':=qu)];rw[uV (BV (d:=d) ?_)];rfl;show(match bK r.held x with|some d=>R.ok d|none=>R.bad)=_;rw[e];rw[MR];rfl;show R.ok (.bl (qt != (bK r.held x).isSome))=_;rw[e];rfl
def Jf r(hv:qD v=qu)(hl:r.held.length<LIM):bL r [.str x,v]= .chg .non {r with held:=fE r.held x v}:=by unfold bL kJ;show iR 368 (eS _ _ [.rk 368 r,.sh (.str x),.sh v] qu)=_;rw[cD (ρ':=[.rk 368 {r with held:=fE r.held x v},.sh (.str x),.sh v]) (b':=qt)];rfl;rw[MR];rw[cD (ρ':=[.rk 368 {r with held:=fE r.held x v},.sh (.str x),.sh v]) (b':=qt)];rfl;show(if r.held.length<LIM then DI 368 [.rk 368 r,.sh (.str x),.sh v] {r with held:=fE r.held x v} else OutM.bad)=_;rw[if_pos hl];rfl;show R.ok (.bl (qD v))=_;rw[hv]
def Ef r(hh:(bK r.held x).isSome=qt):bL r [.str x,.non]= .chg .non {r with held:=gB r.held x}:=by unfold bL kJ;show iR 368 (eS _ _ [.rk 368 r,.sh (.str x),.sh .non] qu)=_;rw[cD (ρ':=[.rk 368 {r with held:=gB r.held x},.sh (.str x),.sh .non]) (b':=qt)];rfl;rw[MQ];rw[cD (ρ':=[.rk 368 {r with held:=gB r.held x},.sh (.str x),.sh .non]) (b':=qt)];rfl;show(if(bK r.held x).isSome then DI 368 [.rk 368 r,.sh (.str x),.sh .non] {r with held:=gB r.held x} else OutM.bad)=_;rw[if_pos hh];rfl;rfl
def iV(r:Rk)(w x:Str)(v:D):D:=.tup [.str w,.str x,(bK r.held x).getD .non,v]
def MV r(hl:r.done.length<LIM)(hs:bL ⟨r.held,r.done++[iV r w x v],[]⟩ [.str x,v]= .chg .non ⟨k,r.done++[iV r w x v],[]⟩):
  mQ r [.str w,.str x,v]= .chg .non ⟨k,r.done++[iV r w x v],[]⟩:=by
 unfold mQ kJ;show iR 368 (eS _ _ [.rk 368 r,.sh (.str w),.sh (.str x),.sh v] qu)=_;rw[cD (ρ':=[.rk 368 {r with done:=r.done++[iV r w x v]},.sh (.str w),.sh (.str x),.sh v]) (b':=qt)];rw[cD (g:=w4 368) (ρ':=[.rk 368 ⟨r.held,r.done++[iV r w x v],[]⟩,.sh (.str w),.sh (.str x),.sh v]) (b':=qt) (by rfl)];rw[cD (ρ':=[.rk 368 ⟨k,r.done++[iV r w x v],[]⟩,.sh (.str w),.sh (.str x),.sh v]) (b':=qt)];rfl;show(match bL ⟨r.held,r.done++[iV r w x v],[]⟩ [.str x,v]with
  |.pure c=>wY qt c λ_=>.nx [.rk 368 ⟨r.held,r.done++[iV r w x v],[]⟩,.sh (.str w),.sh (.str x),.sh v] qt
  |.chg _ b=>OutM.nx [.rk 368 b,.sh (.str w),.sh (.str x),.sh v] qt)=_
 rw[hs];show(if r.done.length<LIM then DI 368 [.rk 368 r,.sh (.str w),.sh (.str x),.sh v] {r with done:=r.done++[iV r w x v]} else OutM.bad)=_;rw[if_pos hl];rfl
def BW r(hv:qD v=qu)(hl:r.done.length<LIM)(hk:r.held.length<LIM):mQ r [.str w,.str x,v]= .chg .non ⟨fE r.held x v,r.done++[iV r w x v],[]⟩:=MV r hl (Jf ⟨r.held,_,[]⟩ hv hk)
def Jg r(hl:r.done.length<LIM)(hh:(bK r.held x).isSome=qt):mQ r [.str w,.str x,.non]= .chg .non ⟨gB r.held x,r.done++[iV r w x .non],[]⟩:=MV r hl (Ef ⟨r.held,_,[]⟩ hh)
def Sw.nn(h:Sw d):qD d=qu:=by obtain⟨m,a,_,rfl⟩:=h;rfl
def pC{ρ ρ':Rho}(e0:ρ[0]? =pi (.rk 368 r))(ea:args fs ρ= .ok ds)(ed:mQ r ds= .chg .non r')(eρ:ρ.set 0 (.rk 368 r')=ρ'):oU 368 mQ fs ρ b= .nx ρ' qt:=by simp[oU,mUp,e0,OX,ea,ed,eρ]
section
variable (r:Rk) {x y z w:Str} {v v':D}
def MX(hx:x∈NM)(hv:Sw v)(hl:r.done.length<LIM)(hk:r.held.length<LIM):iT r [.str x,v]= .chg (.bl (bK r.held x).isSome) ⟨fE r.held x v,r.done++[iV r "put" x v],[]⟩:=by unfold iT kJ;show iR 368 (eS _ _ [.rk 368 r,.sh (.str x),.sh v,.no] qu)=_;rw[cD (jL ((bF (x:=v) rfl).trans (MU hv))),cD (jL ((bF (x:=.str x) rfl).trans (eT hx)))];rw[cD (ρ':=[.rk 368 r,.sh (.str x),.sh v,.sh (.bl (bK r.held x).isSome)]) (b':=qu)];rw[cD (pC rfl (ds:=[.str "put",.str x,v]) rfl (BW r hv.nn hl hk) rfl)];rfl;refine(pB (d:=.bl (bK r.held x).isSome) ?_).trans rfl;show R.ok (.bl (qu != (bK r.held x).isSome))=_;simp
def Jh(hx:x∈NM)(hl:r.done.length<LIM)(e:bK r.held x=pi v):e9 r [.str x]= .chg v ⟨gB r.held x,r.done++[iV r "take" x .non],[]⟩:=by unfold e9 kJ;show iR 368 (eS _ _ [.rk 368 r,.sh (.str x),.no] qu)=_;rw[cD (ρ':=[.rk 368 r,.sh (.str x),.sh v]) (b':=qu)];rw[cD (pC rfl (ds:=[.str "take",.str x,.non]) rfl (Jg r hl (by rw[e];rfl)) rfl)];rfl;refine(pB (d:=v) ?_).trans rfl;show(aG r [.str x]).told=_;rw[uY r (eT hx)];unfold yV;rw[e];rfl
def Ji(hx:x∈NM)(e:bK r.held x=qr):e9 r [.str x]= .pure (.ex 8):=by unfold e9 kJ;show iR 368 (eS _ _ [.rk 368 r,.sh (.str x),.no] qu)=_;rw[pA (uW (c:=8) ?_)];rfl;show(aG r [.str x]).told=_;rw[uY r (eT hx)];unfold yV;rw[e];rfl
def Jj{m}{a}(g:gC m a)(hx:x∈NM)(hl:r.done.length<LIM)(hk:r.held.length<LIM)(e:bK r.held x=pi (sw m a)):fR r [.str x]= .chg (sw m (a.map (! ·))) ⟨fE r.held x (sw m (a.map (! ·))),r.done++[iV r "turn" x (sw m (a.map (! ·)))],[]⟩:=by unfold fR kJ;show iR 368 (eS _ _ [.rk 368 r,.sh (.str x),.no] qu)=_;rw[cD (ρ':=[.rk 368 r,.sh (.str x),.sh (sw m (a.map (! ·)))]) (b':=qu)];rw[cD (pC rfl (ds:=[.str "turn",.str x,sw m (a.map (! ·))]) rfl (BW r rfl hl hk) rfl)];rfl;refine(pB (d:=sw m (a.map (! ·))) ((bF (x:=sw m a) ?_).trans (BR g))).trans rfl;show(aG r [.str x]).told=_;rw[uY r (eT hx)];unfold yV;rw[e];rfl
def Jk(hx:x∈NM)(e:bK r.held x=qr):fR r [.str x]= .pure (.ex 8):=by
 unfold fR kJ;show iR 368 (eS _ _ [.rk 368 r,.sh (.str x),.no] qu)=_;have h:dQ 368 0 aG [aB 1] [.rk 368 r,.sh (.str x),.no]= .ex 8:=by
  show(aG r [.str x]).told=_;rw[uY r (eT hx)];unfold yV;rw[e];rfl
 rw[pA (uW (c:=8) ?_)];rfl;simp[aF,lJ,args,h,RA.then]
def Jl(hx:x∈NM)(hl:r.done.length<LIM)(hk:r.held.length<LIM)(hv:qD v=qu)(e:aF eC [aB 2,dQ 368 0 aG [aB 3],dQ 368 0 aG [aB 4]] [.rk 368 r,.sh (.str x),.sh (.str w),.sh (.str y),.sh (.str z),.no]= .ok v):
  fA r [.str x,.str w,.str y,.str z]= .chg v ⟨fE r.held x v,r.done++[iV r "join" x v],[]⟩:=by
 unfold fA kJ;show iR 368 (eS _ _ [.rk 368 r,.sh (.str x),.sh (.str w),.sh (.str y),.sh (.str z),.no] qu)=_;rw[cD (jL ((bF (x:=.str x) rfl).trans (eT hx)))];rw[cD (ρ':=[.rk 368 r,.sh (.str x),.sh (.str w),.sh (.str y),.sh (.str z),.sh v]) (b':=qu) ((pB e).trans rfl)];rw[cD (pC rfl (ds:=[.str "join",.str x,v]) rfl (BW r hv hl hk) rfl)];rfl
def BX{c}(hx:x∈NM)(e:aF eC [aB 2,dQ 368 0 aG [aB 3],dQ 368 0 aG [aB 4]] [.rk 368 r,.sh (.str x),.sh (.str w),.sh (.str y),.sh (.str z),.no]= .ex c):
  fA r [.str x,.str w,.str y,.str z]= .pure (.ex c):=by
 unfold fA kJ;show iR 368 (eS _ _ [.rk 368 r,.sh (.str x),.sh (.str w),.sh (.str y),.sh (.str z),.no] qu)=_;rw[cD (jL ((bF (x:=.str x) rfl).trans (eT hx))),pA (uW e)];rfl
def FG{s}{x' w'}(hy:y∈NM)(hz:z∈NM):(dQ 368 0 aG [aB 3] [.rk 368 r,x',w',.sh (.str y),.sh (.str z),s]=yV r y)/\(dQ 368 0 aG [aB 4] [.rk 368 r,x',w',.sh (.str y),.sh (.str z),s]=yV r z):=by constructor;show(aG r [.str y]).told=_;rw[uY r (eT hy)];rfl;show(aG r [.str z]).told=_;rw[uY r (eT hz)];rfl
def BY(hx:x∈NM)(hy:y∈NM)(hz:z∈NM)(e:bK r.held y=qr\/bK r.held z=qr):fA r [.str x,.str w,.str y,.str z]= .pure (.ex 8):=by refine BX r hx ?_;obtain⟨b,c⟩:=FG r (s:=.no) (x':=.sh (.str x)) (w':=.sh (.str w)) hy hz;simp only[aF,lJ,args,b,c,RA.then,aB,List.getElem?_cons_zero,List.getElem?_cons_succ];unfold yV;rcases e with e|e;simp[e,RA.cons];cases d:bK r.held y<;>simp[e,RA.cons]
noncomputable def opB(w:Str):Bool->Bool->Bool:=if w="both" then(· && ·)else if w="either" then(· || ·)else(· ^^ ·)
def BZ{m}{a b}(g:gC m a)(h:gC m b)(hw:w∈WD):eC [.str w,sw m a,sw m b]= .ok (sw m (ou (opB w) a b)):=by simp only[WD,av,ki,or_false]at hw;rcases hw with rfl|rfl|rfl;exact aP (cR ((eG (by kernel_rfl)).trans (aS ((dD (x:=sw m a) (y:=sw m b) rfl rfl).trans (Ja g h)))));exact aP ((aE ((cU (by kernel_rfl)).trans rfl)).trans (cR ((eG (by kernel_rfl)).trans (aS ((dD (x:=sw m a) (y:=sw m b) rfl rfl).trans (BP g h))))));exact aP ((aE ((cU (by kernel_rfl)).trans rfl)).trans ((aE ((cU (by kernel_rfl)).trans rfl)).trans (cR ((eG (by kernel_rfl)).trans (aS ((dD (x:=sw m a) (y:=sw m b) rfl rfl).trans (BQ g h)))))))
def B0{m m2}{a b}(g:gC m a)(h:gC m2 b)(n:m≠m2)(hw:w∈WD):eC [.str w,sw m a,sw m2 b]= .ex 4:=by obtain⟨d,e,c⟩:=CT _ _ (Ed g h n);simp only[WD,av,ki,or_false]at hw;rcases hw with rfl|rfl|rfl;exact gQ (fM ((eG (by kernel_rfl)).trans (uX ((dD (x:=sw m a) (y:=sw m2 b) rfl rfl).trans d))));exact gQ ((aE ((cU (by kernel_rfl)).trans rfl)).trans (fM ((eG (by kernel_rfl)).trans (uX ((dD (x:=sw m a) (y:=sw m2 b) rfl rfl).trans e)))));exact gQ ((aE ((cU (by kernel_rfl)).trans rfl)).trans ((aE ((cU (by kernel_rfl)).trans rfl)).trans (fM ((eG (by kernel_rfl)).trans (uX ((dD (x:=sw m a) (y:=sw m2 b) rfl rfl).trans c))))))
def sB(hy:y∈NM)(hz:z∈NM){s x'}(e1:bK r.held y=pi v)(e2:bK r.held z=pi v'):aF eC [aB 2,dQ 368 0 aG [aB 3],dQ 368 0 aG [aB 4]] [.rk 368 r,x',.sh (.str w),.sh (.str y),.sh (.str z),s]=eC [.str w,v,v']:=by obtain⟨b,c⟩:=FG r (s:=s) (x':=x') (w':=.sh (.str w)) hy hz;refine dP rfl (b.trans ?_) (c.trans ?_);unfold yV;rw[e1];unfold yV;rw[e2]
end
def Q0:aM [.exc 8]= .ok (.str "no label"):=by kernel_rfl
def Q2:aM [.exc 4]= .ok (.str "unlike"):=by kernel_rfl
def Jm(e:f ρ= .ok (.bl qt)):ifM f g h ρ=g ρ:=by simp[ifM,e]
def yQ(e:f ρ= .ok (.bl qu)):ifM f g h ρ=h ρ:=by simp[ifM,e]
section
variable (r:Rk) {x y z w:Str} {v:D} {ds:L1 D}
def Jn{s}{u u'}{b}(h:fK .Eq (.str u) (.str u')= .ok (.bl b)):bR .Eq (rIx (aC 1) (rK (.int 0))) (rK (.str u')) [s,.sh (.tup (.str u::ds))]= .ok (.bl b):=(aW (x:=.str u) (y:=.str u') ((cV (x:=.tup (.str u::ds)) (y:=.int ((0:Nat):Int)) rfl rfl).trans (mH rfl)) rfl).trans h
def MY{s}{u u'}{b}(h:fK .Eq (.str u) (.str u')= .ok (.bl b)):bR .Eq (rIx (aC 0) (rK (.int 0))) (rK (.str u')) [.sh (.tup (.str u::ds)),s]= .ok (.bl b):=(aW (x:=.str u) (y:=.str u') ((cV (x:=.tup (.str u::ds)) (y:=.int ((0:Nat):Int)) rfl rfl).trans (mH rfl)) rfl).trans h
def Jo:bJ r [.tup [.str "put",.str x,v]]=eZ aM (iT r [.str x,v]):=by unfold bJ Iu mK;exact(Jm (ρ:=[.rk 368 r,.sh (.tup [.str "put",.str x,v])]) (Jn (by kernel_rfl))).trans rfl
def kW:bJ r [.tup [.str "join",.str x,.str w,.str y,.str z]]=eZ aM (fA r [.str x,.str w,.str y,.str z]):=by unfold bJ Iu mK;exact(yQ (ρ:=[.rk 368 r,.sh (.tup [.str "join",.str x,.str w,.str y,.str z])]) (Jn (by kernel_rfl))).trans ((Jm (Jn (by kernel_rfl))).trans rfl)
def xF:bJ r [.tup [.str "turn",.str x]]=eZ aM (fR r [.str x]):=by unfold bJ Iu mK;refine(yQ (ρ:=[.rk 368 r,.sh (.tup [.str "turn",.str x])]) (Jn (by kernel_rfl))).trans ((yQ (Jn (by kernel_rfl))).trans ?_);show eZ aM (ifM _ _ _ [.sh (.tup [.str "turn",.str x]),.rk 368 r])=_;rw[Jm (MY (by kernel_rfl))];rfl
def xG:bJ r [.tup [.str "take",.str x]]=eZ aM (e9 r [.str x]):=by unfold bJ Iu mK;refine(yQ (ρ:=[.rk 368 r,.sh (.tup [.str "take",.str x])]) (Jn (by kernel_rfl))).trans ((yQ (Jn (by kernel_rfl))).trans ?_);show eZ aM (ifM _ _ _ [.sh (.tup [.str "take",.str x]),.rk 368 r])=_;rw[yQ (MY (by kernel_rfl))];rfl
end
def FH:bR .Eq (rIx (aC i) (rK (.int 0))) (rK (.str u)) ρ≠ .ex c:=by
 have f: ∀x y c,dIx x y≠ .ex c:=λx y c=>by
  unfold dIx ixS
  repeat' split
  all_goals exact λz=>nomatch z
 have d: ∀x y c,fK .Eq x y≠ .ex c:=λx y c=>by
  unfold fK qF
  dsimp only
  repeat' split
  all_goals exact λz=>nomatch z
 have g: ∀c,aC i ρ≠ .ex c:=λc=>by
  unfold aC
  repeat' split
  all_goals exact λz=>nomatch z
 intro z;unfold bR rIx at z
 cases e:aC i ρ with
 |ok x=>
  rw[e]at z
  cases b:dIx x (.int 0)with
  |ok y=>simp only[R.bind,rK,b]at z;exact d _ _ _ z
  |ow y=>simp only[R.bind,rK,b]at z;exact d _ _ _ z
  |ex y=>exact f _ _ _ b
  |bad=>simp only[R.bind,rK,b]at z;cases z
 |ow x=>
  rw[e]at z
  cases b:dIx (.lst x) (.int 0)with
  |ok y=>simp only[R.bind,rK,b]at z;exact d _ _ _ z
  |ow y=>simp only[R.bind,rK,b]at z;exact d _ _ _ z
  |ex y=>exact f _ _ _ b
  |bad=>simp only[R.bind,rK,b]at z;cases z
 |ex c=>exact g _ e
 |bad=>rw[e]at z;cases z
def FI(hf: ∀c,f ρ≠ .ex c)(hg: ∀c,g ρ≠ .pure (.ex c))(hh: ∀c,h ρ≠ .pure (.ex c))c:ifM f g h ρ≠ .pure (.ex c):=by intro z;unfold ifM at z;split at z;split at z;exact hg c z;exact hh c z;rename_i e;exact hf _ e;cases z
def pE{F}c:uL F cap g ρ≠ .pure (.ex c):=by intro z;unfold uL at z;split at z;rename_i b _;rcases e:g b with r|⟨x,r⟩;rw[e]at z;exact oW r c (RM.pure.inj z);rw[e]at z;cases z;cases z
def MZ r ds c:bJ r ds≠ .pure (.ex c):=by unfold bJ Iu mK;exact FI (λ_=>FH) pE (FI (λ_=>FH) pE pE) c
def FJ(d:D):Prop:=(∃x∈NM, ∃v,Sw v/\d= .tup [.str "put",.str x,v])\/(∃x∈NM,d= .tup [.str "take",.str x])\/(∃x∈NM,d= .tup [.str "turn",.str x])\/
 (∃x∈NM, ∃w∈WD, ∃y∈NM, ∃z∈NM,d= .tup [.str "join",.str x,.str w,.str y,.str z])
def Jp(h:p<4): ∃x∈NM,dIx (.lst (NM.map D.str)) (.int (p:Nat))= .ok (.str x):=
 ⟨NM[p]'h,kr _,f8 (by rw[jj,bd (show p<NM.length from h)];rfl)⟩
def Pg(h:p<3): ∃x∈WD,dIx (.lst (WD.map D.str)) (.int (p:Nat))= .ok (.str x):=
 ⟨WD[p]'h,kr _,f8 (by rw[jj,bd (show p<WD.length from h)];rfl)⟩
noncomputable def MN:L1 Nat:=[2,2,2,1,3,4,0]
def Ph(h:p<7): ∃m,m<=4/\dIx (.lst (MN.map λ(i:Nat)=>D.int (i:Int))) (.int (p:Nat))= .ok (.int (m:Nat)):=by
 refine⟨MN[p]'h,?_,f8 (by rw[jj,bd (show p<MN.length from h)];rfl)⟩;have: ∀m∈MN,m<=4:=by decide
 exact this _ (kr _)
def Pi(h1:a ρ= .ok x)(h2:b ρ= .ok y)(h3:c ρ= .ok z)(h4:d ρ= .ok u)(h5:e ρ= .ok v):fD [a,b,c,d,e] ρ= .ok (.tup [x,y,z,u,v]):=by simp[fD,lJ,args,h1,h2,h3,h4,h5,RA.cons,RA.then]
def Pj i j:fK .Lt (.int i) (.int j)= .ok (.bl (decide (i<j))):=rfl
def M3 ks vs: ∃b,fK .Eq (.dct ks vs) (.dct [] [])= .ok (.bl b):=by
 have:(vs.all λd=>([]:L1 D).all λe=>kF d e)=qt:=by simp
 refine⟨qu != Kv (ks.zip vs) [],?_⟩;simp only[fK,show kF (.dct ks vs) (.dct [] [])=qu from by simp[kF,plain],az,if_false,qF,this,if_true,List.zip_nil_left]
set_option maxHeartbeats 4000000 in
def Jq ns n ks vs: ∃d,eV [Sc ns,.int (n:Nat),.dct ks vs]= .ok d/\FJ d:=by
 obtain⟨p,hp,lp⟩:=cO ns n (m:=4) (by decide);obtain⟨q,hq,lq⟩:=cO ns (n+1) (m:=8) (by decide);obtain⟨x,o,ex⟩:=Jp lp;obtain⟨b0,E⟩:=M3 ks vs;let j:Rho:=[.sh (Sc ns),.sh (.int (n:Nat)),.sh (.dct ks vs),.sh (.lst (NM.map D.str)),.no,.no,.no,.no];let e:Rho:=[.sh (Sc ns),.sh (.int (n:Nat)),.sh (.dct ks vs),.sh (.lst (NM.map D.str)),.sh (.str x),.sh (.int (q:Nat)),.no,.no];have W:fL 3 (gZ [rK (.str "a"),rK (.str "b"),rK (.str "gm"),rK (.str "xjqp")]) [.sh (Sc ns),.sh (.int (n:Nat)),.sh (.dct ks vs),.no,.no,.no,.no,.no]= .nx j:=uO rfl;have Z:iE [4,5] (fD [rIx (aC 3) (aF aK [aB 0,aB 1,rK (.int 4)]),aF aK [aB 0,aR .Add (aB 1) (rK (.int 1)),rK (.int 8)]]) j= .nx e:=
  mD (fZ ((cV (x:=.lst (NM.map D.str)) rfl ((dP (x:=Sc ns) (y:=.int (n:Nat)) (z:=.int ((4:Nat):Int)) rfl rfl rfl).trans hp)).trans ex) ((dP (x:=Sc ns) (y:=.int ((n+1:Nat):Int)) (z:=.int ((8:Nat):Int)) rfl rfl rfl).trans hq)) rfl
 have O: ∃b,rOr (bR .Lt (aB 5) (rK (.int 3))) (bR .Eq (aB 2) (m8)) e= .ok (.bl b):=by
  have I:bR .Lt (aB 5) (rK (.int 3)) e= .ok (.bl (decide ((q:Int)<3))):=(aW (x:=.int (q:Nat)) (y:=.int 3) rfl rfl).trans (Pj _ _);cases L:decide ((q:Int)<3)with
  |true=>exact⟨qt,D4 (I.trans (by rw[L]))⟩
  |false=>exact⟨b0,(oZ (I.trans (by rw[L]))).trans ((aW (x:=.dct ks vs) (y:=.dct [] []) rfl rfl).trans E)⟩
 obtain⟨b,J⟩:=O;have s: ∀{d:D} {dF:FS},dF e= .rt (.ok d)->aT (fL 3 (gZ [rK (.str "a"),rK (.str "b"),rK (.str "gm"),rK (.str "xjqp")])) (aT (iE [4,5] (fD [rIx (aC 3) (aF aK [aB 0,aB 1,rK (.int 4)]),aF aK [aB 0,aR .Add (aB 1) (rK (.int 1)),rK (.int 8)]])) dF) [.sh (Sc ns),.sh (.int (n:Nat)),.sh (.dct ks vs),.no,.no,.no,.no,.no]= .rt (.ok d):=λh=>(aE W).trans ((aE Z).trans h);rcases b with _|_;have g: ∀{dF:FS} {a:FS} {d:D},dF e= .rt (.ok d)->aT (sIf (rOr (bR .Lt (aB 5) (rK (.int 3))) (bR .Eq (aB 2) (m8))) a bC) dF e= .rt (.ok d):=λh=>(aE ((cU J).trans rfl)).trans h;have K:bR .Eq (aB 5) (rK (.int 3)) e= .ok (.bl (decide ((q:Int)=3))):=(aW (x:=.int (q:Nat)) (y:=.int 3) rfl rfl).trans (IY _ _);have H:bR .Eq (aB 5) (rK (.int 4)) e= .ok (.bl (decide ((q:Int)=4))):=(aW (x:=.int (q:Nat)) (y:=.int 4) rfl rfl).trans (IY _ _);by_cases r:(q:Int)=3;exact⟨.tup [.str "take",.str x],aP (s (g (cR ((eG (K.trans (by simp[r]))).trans (aS (fZ rfl rfl)))))),.inr (.inl ⟨x,o,rfl⟩)⟩;have G:=K.trans (show _=R.ok (.bl qu) from by simp[r]);by_cases l:(q:Int)=4;exact⟨.tup [.str "turn",.str x],aP (s (g ((aE ((cU G).trans rfl)).trans (cR ((eG (H.trans (by simp[l]))).trans (aS (fZ rfl rfl))))))),.inr (.inr (.inl ⟨x,o,rfl⟩))⟩;have k4:=H.trans (show _=R.ok (.bl qu) from by simp[l]);obtain⟨t,A,lt⟩:=cO ns (n+3) (m:=3) (by decide);obtain⟨w,mw,Q⟩:=Pg lt;obtain⟨t1,u,B⟩:=cO ns (n+4) (m:=4) (by decide);obtain⟨y,my,S⟩:=Jp B;obtain⟨t2,C,v⟩:=cO ns (n+5) (m:=4) (by decide);obtain⟨z,T,ez⟩:=Jp v;refine⟨.tup [.str "join",.str x,.str w,.str y,.str z],aP (s (g ((aE ((cU G).trans rfl)).trans ((aE ((cU k4).trans rfl)).trans ((aE (cJ (d:=.str w) ?_)).trans (aS ?_)))))),.inr (.inr (.inr ⟨x,o,w,mw,y,my,z,T,rfl⟩))⟩;exact(rX (x:=WD.map D.str) rfl ((dP (x:=Sc ns) (y:=.int ((n+3:Nat):Int)) (z:=.int ((3:Nat):Int)) rfl rfl rfl).trans A)).trans Q;have N:=(cV (a:=aC 3) (b:=aF aK [aB 0,aR .Add (aB 1) (rK (.int 4)),rK (.int 4)]) (ρ:=e.set 7 (.sh (.str w))) (x:=.lst (NM.map D.str)) rfl ((dP (x:=Sc ns) (y:=.int ((n+4:Nat):Int)) (z:=.int ((4:Nat):Int)) rfl rfl rfl).trans u)).trans S;have Y:=(cV (a:=aC 3) (b:=aF aK [aB 0,aR .Add (aB 1) (rK (.int 5)),rK (.int 4)]) (ρ:=e.set 7 (.sh (.str w))) (x:=.lst (NM.map D.str)) rfl ((dP (x:=Sc ns) (y:=.int ((n+5:Nat):Int)) (z:=.int ((4:Nat):Int)) rfl rfl rfl).trans C)).trans ez;have l:aB 4 (e.set 7 (.sh (.str w)))= .ok (.str x):=rfl;have h7:aB 7 (e.set 7 (.sh (.str w)))= .ok (.str w):=rfl;exact Pi rfl l h7 N Y;obtain⟨t,A,lt⟩:=cO ns (n+2) (m:=7) (by decide);obtain⟨m,lm,em⟩:=Ph lt;obtain⟨bs,M,X⟩:=Ec ns (n+10) lm;refine⟨.tup [.str "put",.str x,sw m bs],aP (s (cR ((eG J).trans ?_))),.inl ⟨x,o,_,⟨m,bs,M,rfl⟩,rfl⟩⟩;have U:fL 6 (rIx (gZ [rK (.int 2),rK (.int 2),rK (.int 2),rK (.int 1),rK (.int 3),rK (.int 4),rK (.int 0)]) (aF aK [aB 0,aR .Add (aB 1) (rK (.int 2)),rK (.int 7)])) e= .nx [.sh (Sc ns),.sh (.int (n:Nat)),.sh (.dct ks vs),.sh (.lst (NM.map D.str)),.sh (.str x),.sh (.int (q:Nat)),.sh (.int (m:Nat)),.no]:=
  cJ ((rX (x:=MN.map λ(i:Nat)=>D.int (i:Int)) rfl ((dP (x:=Sc ns) (y:=.int ((n+2:Nat):Int)) (z:=.int ((7:Nat):Int)) rfl rfl rfl).trans A)).trans em)
 refine(aE U).trans (aS ?_);have r:=(dP (f:=cZ) (a:=aB 0) (b:=aR .Add (aB 1) (rK (.int 10))) (c:=aB 6) (ρ:=[.sh (Sc ns),.sh (.int (n:Nat)),.sh (.dct ks vs),.sh (.lst (NM.map D.str)),.sh (.str x),.sh (.int (q:Nat)),.sh (.int (m:Nat)),.no]) (x:=Sc ns) (y:=.int ((n+10:Nat):Int)) (z:=.int (m:Nat)) rfl rfl rfl).trans X;simp[fD,lJ,args,r,RA.cons,RA.then,rK,aB]
noncomputable abbrev dZ(h:L1 (Str×D)):D:=.dct (h.map (·.1)) (h.map (·.2))
def OkH(h:L1 (Str×D)):Prop:=(h.map (·.1)).Nodup/\∀p∈h,p.1∈NM/\Sw p.2
def xH(h:x∈NM):plain (.str x)=qt:=by simp only[NM,av,ki,or_false]at h;rcases h with rfl|rfl|rfl|rfl<;>kernel_rfl
def Pk(hx:x∈NM)(hy:y∈NM):kF (.str x) (.str y)=qt:=uQ (xH hx) (xH hy) (by simp[dep])
def M4(hx:x∈NM)(hy:y∈NM):fK .NotEq (.str x) (.str y)= .ok (.bl (decide (x≠y))):=by rw[uR (Pk hx hy)];by_cases e:x=y<;>simp[deq,e]
def M5 h x:fK .In (.str x) (dZ h)= .ok (.bl (bK h x).isSome):=by rw[mM];show R.ok (.bl (qu != (h.map (·.1)).contains x))=_;simp
def j7 h x:fK .NotIn (.str x) (dZ h)= .ok (.bl (!(bK h x).isSome)):=by rw[mM];show R.ok (.bl (qt != (h.map (·.1)).contains x))=_;simp
def iH(e:bK h x=pi v):dIx (dZ h) (.str x)= .ok v:=by show(match bK ((h.map (·.1)).zip (h.map (·.2))) x with|some d=>R.ok d|none=>.bad)=_;rw[MJ,e]
theorem xI{f}{c:Str×D->Bool}{e}: ∀{h:L1 (Str×D)},(∀p∈h,f (.str p.1)=pi (if c p then pi (e p)else qr))->bE f (h.map λp=>D.str p.1)=pi ((h.filter c).map e)
 |[],_=>rfl
 |p::r,H=>by
  have b:=xI (h:=r) λq m=>H q (.tail _ m);rw[mr];unfold bE;rw[H p (.head _),kd];cases c p<;>simp[b]
section
variable{h:L1 (Str×D)}{d:D}
abbrev st0(h:L1 (Str×D))(d:D):Rho:=[.sh (dZ h),.sh d,.no,.no,.no,.no,.no]
abbrev st1(h:L1 (Str×D))(d:D)(k:L1 (Str×D)):Rho:=[.sh (dZ h),.sh d,.dc k,.no,.no,.no,.no]
def pF:mY 2 (aB 0) (st0 h d)= .nx (st1 h d h):=by show Out.nx [.sh (dZ h),.sh d,.dc ((h.map (·.1)).zip (h.map (·.2))),.no,.no,.no,.no]=_;rw[MJ]
def isw(h1:aC 1 ρ= .ok (.tup (.str u::ds)))(h:fK .Eq (.str u) (.str u')= .ok (.bl b)):bR .Eq (rIx (aC 1) (rK (.int 0))) (rK (.str u')) ρ= .ok (.bl b):=
 (aW (x:=.str u) (y:=.str u') ((cV (x:=.tup (.str u::ds)) (y:=.int ((0:Nat):Int)) h1 rfl).trans (mH rfl)) rfl).trans h
def B2(he:e ρ= .ok v)(hk:k ρ= .ok (.str x))(h2:ρ[2]? =pi (.dc kvs))(hl:kvs.length<LIM):Cr 2 k e ρ= .nx (ρ.set 2 (.dc (fE kvs x v))):=by simp[Cr,he,hk,h2,fC,hl]
def Pm(hl:h.length<LIM):aX [dZ h,.tup [.str "put",.str x,v]]= .ok (.tup [dZ (fE h x v),.bl (bK h x).isSome]):=
 aP ((aE pF).trans (cR ((eG (isw rfl (by kernel_rfl))).trans ((aE (B2 rfl rfl rfl hl)).trans (aS (ρ:=[.sh (dZ h),.sh (.tup [.str "put",.str x,v]),.sh (dZ (fE h x v)),.no,.no,.no,.no]) (fZ rfl ((aW (x:=.str x) (y:=dZ h) rfl rfl).trans (M5 h x))))))))
def Qp(h1:fK .Eq (.str u) (.str "put")= .ok (.bl qu))(h2:fK .Eq (.str u) (.str "join")= .ok (.bl qu))(e:bK h x=qr):aX [dZ h,.tup [.str u,.str x]]= .ok (.tup [dZ h,.str "no label"]):=
 aP ((aE pF).trans ((aE ((cU (isw rfl h1)).trans rfl)).trans ((aE ((cU (isw rfl h2)).trans rfl)).trans (cR ((eG ((aW (x:=.str x) (y:=dZ h) rfl rfl).trans ((j7 h x).trans (by rw[e];rfl)))).trans (aS (fZ rfl rfl)))))))
def M6(h1:fK .Eq (.str u) (.str "put")= .ok (.bl qu))(h2:fK .Eq (.str u) (.str "join")= .ok (.bl qu))(e:bK h x=pi v)(hr:dF (st1 h (.tup [.str u,.str x]) h)=r):
  aT (mY 2 (aB 0)) (aT (sIf (bR .Eq (rIx (aC 1) (rK (.int 0))) (rK (.str "put"))) a bC) (aT (sIf (bR .Eq (rIx (aC 1) (rK (.int 0))) (rK (.str "join"))) b bC) (aT (sIf (bR .NotIn (rIx (aC 1) (rK (.int 1))) (aB 0)) c bC) dF))) (st0 h (.tup [.str u,.str x]))=r:=
 ((aE pF).trans ((aE ((cU (isw rfl h1)).trans rfl)).trans ((aE ((cU (isw rfl h2)).trans rfl)).trans ((aE ((cU ((aW (x:=.str x) (y:=dZ h) rfl rfl).trans ((j7 h x).trans (by rw[e];rfl)))).trans rfl)).trans hr))))
def M7(hn:(h.map (·.1)).Nodup)(hl:h.length<LIM)(e:bK h x=pi (sw m a)):aX [dZ h,.tup [.str "turn",.str x]]= .ok (.tup [dZ (fE h x (sw m (a.map (! ·)))),sw m (a.map (! ·))]):=by
 refine aP (M6 (by kernel_rfl) (by kernel_rfl) e (cR ((eG (isw rfl (by kernel_rfl))).trans ((aE (B2 (v:=sw m (a.map (! ·))) (fZ (x:=.int (m:Nat)) ?_ ?_) rfl rfl hl)).trans ?_))));exact(cV (x:=sw m a) (y:=.int 0) ((cV (x:=dZ h) (y:=.str x) rfl rfl).trans (iH e)) rfl).trans rfl;refine(dI (x:=(a.map (! ·)).map bD) ?_).trans rfl;have:=mE (cs:=[]) (it:=rIx (rIx (aC 0) (rIx (aC 1) (rK (.int 1)))) (rK (.int 1))) (e:=aR .Sub (rK (.int 1)) (aB 0)) (ρ:=st1 h (.tup [.str "turn",.str x]) h) (ds:=a.map bD) (g:=tn) (.inr (.inl ((cV (x:=sw m a) (y:=.int 1) ((cV (x:=dZ h) (y:=.str x) rfl rfl).trans (iH e)) rfl).trans rfl))) λd c=>by
  obtain⟨b,_,rfl⟩:=au.1 c;cases b<;>rfl
 rw[this,ox,ox];congr 1;refine ik λb _=>?_;cases b<;>rfl;exact aS (ρ:=[.sh (dZ h),.sh (.tup [.str "turn",.str x]),.sh (dZ (fE h x (sw m (a.map (! ·))))),.no,.no,.no,.no]) (fZ rfl ((cV (x:=dZ (fE h x (sw m (a.map (! ·))))) (y:=.str x) rfl rfl).trans (iH (uU hn))))
def M8(hh:OkH h)(hl:h.length<=1000)(hx:x∈NM)(e:bK h x=pi v):aX [dZ h,.tup [.str "take",.str x]]= .ok (.tup [dZ (gB h x),v]):=by
 refine aP (M6 (by kernel_rfl) (by kernel_rfl) e ((aE ((cU (isw rfl (by kernel_rfl))).trans rfl)).trans (aS (fZ ?_ ((cV (x:=dZ h) (y:=.str x) rfl rfl).trans (iH e))))));have d:aY 0 [1,0] (aC 0) (pi (bR .NotEq (aB 0) (rIx (aC 1) (rK (.int 1))))) (fD [aB 0,rIx (aC 2) (aB 0)]) (st1 h (.tup [.str "take",.str x]) h)= .ow ((gB h x).map λp=>D.tup [.str p.1,p.2]):=by
  show(match(if(h.map (·.1)).length<=1000 then pi ((h.map (·.1)).map D.str)else qr)with
   |some l=>(match bE (dJ 0 (jP [1,0] (st1 h (.tup [.str "take",.str x]) h)) (pi (bR .NotEq (aB 0) (rIx (aC 1) (rK (.int 1))))) (fD [aB 0,rIx (aC 2) (aB 0)])) l with|some xs=>R.ow xs|none=>.bad)
   |none=>.bad)=_
  rw[if_pos (by simpa using hl),ox];have:=xI (h:=h) (f:=dJ 0 (jP [1,0] (st1 h (.tup [.str "take",.str x]) h)) (pi (bR .NotEq (aB 0) (rIx (aC 1) (rK (.int 1))))) (fD [aB 0,rIx (aC 2) (aB 0)])) (c:=λp=>decide (p.1≠x)) (e:=λp=>D.tup [.str p.1,p.2]) λp b=>by
   have g:bR .NotEq (aB 0) (rIx (aC 1) (rK (.int 1))) [.sh (.str p.1),.sh (.tup [.str "take",.str x]),.sh (dZ h)]= .ok (.bl (decide (p.1≠x))):=(aW (x:=.str p.1) (y:=.str x) rfl rfl).trans (M4 (hh.2 p b).1 hx);have j:fD [aB 0,rIx (aC 2) (aB 0)] [.sh (.str p.1),.sh (.tup [.str "take",.str x]),.sh (dZ h)]= .ok (.tup [.str p.1,p.2]):=fZ rfl ((cV (x:=dZ h) (y:=.str p.1) rfl rfl).trans (iH (kU hh.1 b)));show(match bR .NotEq (aB 0) (rIx (aC 1) (rK (.int 1))) [.sh (.str p.1),.sh (.tup [.str "take",.str x]),.sh (dZ h)]with
    |.ok (.bl qt)=>(match fD [aB 0,rIx (aC 2) (aB 0)] [.sh (.str p.1),.sh (.tup [.str "take",.str x]),.sh (dZ h)]with|.ok x=>pi (pi x)|.ow xs=>pi (pi (.lst xs))|_=>qr)
    |.ok (.bl qu)=>pi qr
    |_=>qr)=_
   rw[g,j];cases decide (p.1≠x)<;>rfl
  have i:(h.map (D.str ∘ λp=>p.1))=h.map λp=>D.str p.1:=rfl;rw[i];dsimp only;rw[this];rfl
 show(aY 0 [1,0] (aC 0) (pi (bR .NotEq (aB 0) (rIx (aC 1) (rK (.int 1))))) (fD [aB 0,rIx (aC 2) (aB 0)]) (st1 h (.tup [.str "take",.str x]) h)).bind m9=_;rw[d];exact Jd (sA hh.1) (ny (List.length_filter_le _ _) hl)
end
def prs(a b:L1 Bool):L1 D:=((a.map bD).zip (b.map bD)).map λp=>D.tup [p.1,p.2]
def pG(h5:aC 5 ρ= .ok (.lst (prs a b)))(he: ∀x y,e [.sh (bD x),.sh (bD y)]= .ok (bD (f x y))):
  aY 2 [] (aC 5) qr e ρ= .ow ((ou f a b).map bD):=by
 refine xE (.inl h5) ?_;have: ∀(a b:L1 Bool),bE (dJ 2 [] qr e) (prs a b)=pi ((ou f a b).map bD):=by
  intro a;induction a with
  |nil=>intro b;rfl
  |cons x a d=>
   intro b;rcases b with _|⟨y,b⟩;rfl;have:=d b;show bE (dJ 2 [] qr e) (D.tup [bD x,bD y]::prs a b)=pi (bD (f x y)::(ou f a b).map bD);unfold bE;rw[show dJ 2 [] qr e (D.tup [bD x,bD y])=pi (pi (bD (f x y))) from by
    have c:=he x y;simp[dJ,tgt,c]]
   simp[this]
 exact this a b
section
variable{h:L1 (Str×D)}{x y z w:Str}{v v' d:D}
noncomputable abbrev jD(x w y z:Str):D:=.tup [.str "join",.str x,.str w,.str y,.str z]
def B3{r:Out}(hr:dF (st1 h (jD x w y z) h)= .rt (.ok d)):
  aT (mY 2 (aB 0)) (aT (sIf (bR .Eq (rIx (aC 1) (rK (.int 0))) (rK (.str "put"))) a bC) (aT (sIf (bR .Eq (rIx (aC 1) (rK (.int 0))) (rK (.str "join"))) dF bC) b)) (st0 h (jD x w y z))= .rt (.ok d):=
 (aE pF).trans ((aE ((cU (isw rfl (by kernel_rfl))).trans rfl)).trans (cR ((eG (isw rfl (by kernel_rfl))).trans hr)))
def M9(e:bK h y=qr\/bK h z=qr):aX [dZ h,jD x w y z]= .ok (.tup [dZ h,.str "no label"]):=by refine aP (B3 (r:=.rt .bad) (cR ((eG ?_).trans (aS (fZ rfl rfl)))));have c:bR .NotIn (rIx (aC 1) (rK (.int 3))) (aB 0) (st1 h (jD x w y z) h)= .ok (.bl (!(bK h y).isSome)):=(aW (x:=.str y) (y:=dZ h) rfl rfl).trans (j7 h y);have d:bR .NotIn (rIx (aC 1) (rK (.int 4))) (aB 0) (st1 h (jD x w y z) h)= .ok (.bl (!(bK h z).isSome)):=(aW (x:=.str z) (y:=dZ h) rfl rfl).trans (j7 h z);rcases b:bK h y with _|v;exact D4 (c.trans (by rw[b];rfl));rcases e with e|e;rw[b]at e;cases e;exact(oZ (c.trans (by rw[b];rfl))).trans (d.trans (by rw[e];rfl))
abbrev st2(h:L1 (Str×D))(d v v':D):Rho:=[.sh (dZ h),.sh d,.dc h,.sh v,.sh v',.no,.no]
def FK(e1:bK h y=pi v)(e2:bK h z=pi v')(hr:dF (st2 h (jD x w y z) v v')= .rt (.ok d)):
  aT (sIf (rOr (bR .NotIn (rIx (aC 1) (rK (.int 3))) (aB 0)) (bR .NotIn (rIx (aC 1) (rK (.int 4))) (aB 0))) a bC) (aT (iE [3,4] (fD [rIx (aC 0) (rIx (aC 1) (rK (.int 3))),rIx (aC 0) (rIx (aC 1) (rK (.int 4)))])) dF) (st1 h (jD x w y z) h)= .rt (.ok d):=by
 have b:bR .NotIn (rIx (aC 1) (rK (.int 3))) (aB 0) (st1 h (jD x w y z) h)= .ok (.bl qu):=(aW (x:=.str y) (y:=dZ h) rfl rfl).trans ((j7 h y).trans (by rw[e1];rfl));have c:bR .NotIn (rIx (aC 1) (rK (.int 4))) (aB 0) (st1 h (jD x w y z) h)= .ok (.bl qu):=(aW (x:=.str z) (y:=dZ h) rfl rfl).trans ((j7 h z).trans (by rw[e2];rfl));refine(aE ((cU ((oZ b).trans c)).trans rfl)).trans ((aE (mD (ds:=[v,v']) (fZ ?_ ?_) rfl)).trans hr);exact(cV (x:=dZ h) (y:=.str y) rfl rfl).trans (iH e1);exact(cV (x:=dZ h) (y:=.str z) rfl rfl).trans (iH e2)
def Na(e1:bK h y=pi (sw m a))(e2:bK h z=pi (sw m2 b))(n:m≠m2):aX [dZ h,jD x w y z]= .ok (.tup [dZ h,.str "unlike"]):=
 aP (B3 (r:=.rt .bad) (FK e1 e2 (cR ((eG ((aW (x:=.int (m:Nat)) (y:=.int (m2:Nat)) rfl rfl).trans (by rw[BK,decide_eq_false (by lia)];rfl))).trans (aS (fZ rfl rfl))))))
def Pn(hn:(h.map (·.1)).Nodup)(hl:h.length<LIM)(hw:w∈WD)(e1:bK h y=pi (sw m a))(e2:bK h z=pi (sw m b)):
  aX [dZ h,jD x w y z]= .ok (.tup [dZ (fE h x (sw m (ou (opB w) a b))),sw m (ou (opB w) a b)]):=by
 let e:Rho:=[.sh (dZ h),.sh (jD x w y z),.dc h,.sh (sw m a),.sh (sw m b),.sh (.lst (prs a b)),.no];have n:aY 2 [] (aC 5) qr (aR .Mult (aB 0) (aB 1)) e= .ow ((ou (· && ·) a b).map bD):=pG rfl λx y=>by cases x<;>cases y<;>rfl
 have f:aY 2 [] (aC 5) qr (aF ED [bR .Gt (aR .Add (aB 0) (aB 1)) (rK (.int 0))]) e= .ow ((ou (· || ·) a b).map bD):=pG rfl λx y=>by cases x<;>cases y<;>rfl
 let dd:D:=.dct ["both","either"] [.lst ((ou (· && ·) a b).map bD),.lst ((ou (· || ·) a b).map bD)];let c:Rho:=[.sh (dZ h),.sh (jD x w y z),.dc h,.sh (sw m a),.sh (sw m b),.sh (.lst (prs a b)),.sh dd];have o:aY 2 [] (aC 5) qr (aF ED [bR .Eq (aR .Add (aB 0) (aB 1)) (rK (.int 1))]) c= .ow ((ou (· ^^ ·) a b).map bD):=pG rfl λx y=>by cases x<;>cases y<;>rfl
 refine aP (B3 (r:=.rt .bad) (FK e1 e2 ((aE ((cU ((aW (x:=.int (m:Nat)) (y:=.int (m:Nat)) rfl rfl).trans (by rw[BK];simp))).trans rfl)).trans ((aE (ρ':=e) ?_).trans ((aE (ρ':=c) ?_).trans ((aE (B2 (x:=x) (v:=sw m (ou (opB w) a b)) (fZ (x:=.int (m:Nat)) rfl ?_) rfl rfl hl)).trans ?_))))));exact uO ((bF (BN (xs:=a.map bD) (ys:=b.map bD) rfl rfl)).trans rfl);refine cJ (d:=dd) ?_;have i: ¬(("both":Str)="either"):=by decide
 simp only[vO,n,f,R.bind,if_neg i];rfl;have l:qH (aB 6) (rIx (aC 1) (rK (.int 2))) (aY 2 [] (aC 5) qr (aF ED [bR .Eq (aR .Add (aB 0) (aB 1)) (rK (.int 1))])) c= .ok (.lst ((ou (opB w) a b).map bD)):=by
  have j:aB 6 c= .ok dd:=rfl;have g:rIx (aC 1) (rK (.int 2)) c= .ok (.str w):=rfl;simp only[qH,j,g,o,R.bind];show R.ok ((bK [("both",.lst ((ou (· && ·) a b).map bD)),("either",.lst ((ou (· || ·) a b).map bD))] w).getD (.lst ((ou (· ^^ ·) a b).map bD)))=_;simp only[WD,av,ki,or_false]at hw;rcases hw with rfl|rfl|rfl;rw[bG,if_pos rfl];rfl;rw[bG,if_neg (show ¬(("both":Str)="either") by decide),bG,if_pos rfl];rfl;rw[bG,if_neg (show ¬(("both":Str)="unlike") by decide),bG,if_neg (show ¬(("either":Str)="unlike") by decide)];rfl
 exact(bF l).trans rfl;exact aS (ρ:=[.sh (dZ h),.sh (jD x w y z),.sh (dZ (fE h x (sw m (ou (opB w) a b)))),.sh (sw m a),.sh (sw m b),.sh (.lst (prs a b)),.sh dd]) (fZ rfl ((cV (x:=dZ (fE h x (sw m (ou (opB w) a b)))) (y:=.str x) rfl rfl).trans (iH (uU hn))))
end
def OkH.put(o:OkH h)(hx:x∈NM)(hv:Sw v):OkH (fE h x v):=⟨o9 o.1,λp m=>by
 rcases Jb m with rfl|m;exact⟨hx,hv⟩;exact o.2 p m⟩
def OkH.drop(o:OkH h):OkH (gB h x):=⟨sA o.1,λp m=>o.2 p (kz.1 m).1⟩
def OkH.get(o:OkH h)(e:bK h x=pi v): ∃m a,gC m a/\v=sw m a:=(o.2 _ (BS e)).2
def Due(d:D):Prop:=plain d=qt/\dep d<=60
def B4 m a:Due (sw m a):=⟨rZ m a,MH m a⟩
def B5(h:plain (.str x)=qt):Due (.str x):=⟨h,by simp[dep]⟩
def Eg(h:L1 (Str×D)):L1 D:=(gJ (h.map (·.1))).map D.str
def B6(l:r.held.length<64):dY r []= .pure (.ow (Eg r.held)):=by unfold dY kJ;show iR 368 (eS _ _ [.rk 368 r] qu)=_;rw[uV (Je (xs:=Eg r.held) ?_)];rfl;show(if r.held.length<64 then R.ow (Eg r.held)else .bad)=_;rw[if_pos l]
abbrev Row:=L1 (Str×D)
def Eqv(a b:Row):Prop:= ∀x,bK a x=bK b x
theorem sC: ∀{l m:L1 Str},l.Nodup->(∀x∈l,x∈m)->l.length<=m.length
 |[],m,_,_=>bu _
 |x::l,m,nd,h=>by
  obtain⟨d,f⟩:=la.1 nd;have c:=h x (.head _);have:=sC (l:=l) (m:=m.erase x) f λy b=>(List.mem_erase_of_ne (λe=>d (by rw[<-e];exact b))).2 (h y (.tail _ b));rw[List.length_erase_of_mem c]at this;have:=List.length_pos_of_mem c;rw[bq];lia
def pH{h:Row}(o:OkH h):h.length<=4:=by
 have:=sC o.1 (m:=NM) λx b=>by obtain⟨p,c,rfl⟩:=au.1 b;exact(o.2 p c).1
 rw[aq]at this;exact this
def xJ{h:Row}(hn:(h.map (·.1)).Nodup):bK (fE h x v) y=if y=x then pi v else bK h y:=by
 by_cases e:y=x;rw[if_pos e,e];exact uU hn;rw[if_neg e];have c: ¬x=y:=λz=>e z.symm;rcases n:(bK h x).isSome with _|_;rw[gW n];clear n hn;induction h with
 |nil=>rw[lh,bG,if_neg c]
 |cons q r b=>rw[km,bG,bG,b]
 rw[j6 n];clear n hn;induction h with
 |nil=>rfl
 |cons q r b=>
  rw[mr,bG,bG,b];by_cases z:q.1=x;have d: ¬q.1=y:=λf=>c (z.symm.trans f);rw[if_pos z,if_neg d,if_neg d];rw[if_neg z]
def sD{h:Row}:bK (gB h x) y=if y=x then qr else bK h y:=by
 unfold gB;induction h with
 |nil=>simp[bK]
 |cons q r c=>
  rw[kd];by_cases z:q.1=x;rw[if_neg (by simpa using z),c,bG];by_cases e:y=x;rw[if_pos e,if_pos e];rw[if_neg e,if_neg e,if_neg (λb=>e (b.symm.trans z))];rw[if_pos (by simpa using z),bG,bG,c];by_cases e:y=x;rw[if_pos e,if_pos e,if_neg (λb=>z (b.trans e))];rw[if_neg e,if_neg e]
section
variable{a b:Row}
def uZ(oa:OkH a)(ob:OkH b)(q:Eqv a b):Eqv (fE a x v) (fE b x v):=λy=>by rw[xJ oa.1,xJ ob.1,q y]
def Eh(q:Eqv a b):Eqv (gB a x) (gB b x):=λy=>by rw[sD,sD,q y]
end
def Q3(r:Rk)(h:Row)(d due:D)(h':Row):Prop:=(bJ r [d]= .pure (.ok due)/\h'=h)\/∃k s,bJ r [d]= .chg due ⟨k,r.done++[s],[]⟩/\OkH k/\Eqv k h'
def Po r{h:Row}(o:OkH r.held)(oh:OkH h)(q:Eqv r.held h)(ld:r.done.length<1000)(hd:FJ d):
  ∃(h':Row) (due:D),aX [dZ h,d]= .ok (.tup [dZ h',due])/\Q3 r h d due h'/\Due due/\OkH h':=by
 have u:r.done.length<LIM:=by unfold LIM;lia
 have E:r.held.length<LIM:=by have:=pH o;unfold LIM;lia
 have C:h.length<LIM:=by have:=pH oh;unfold LIM;lia
 have p:Due (.str "no label"):=B5 (by kernel_rfl);have H:Due (.str "unlike"):=B5 (by kernel_rfl);have s:eZ aM (.pure (.ex 8))= .pure (.ok (.str "no label")):=by simp[eZ,gN,Q0]
 have G:eZ aM (.pure (.ex 4))= .pure (.ok (.str "unlike")):=by simp[eZ,gN,Q2]
 rcases hd with ⟨x,c,v,B,rfl⟩|⟨x,c,rfl⟩|⟨x,c,rfl⟩|⟨x,c,w,A,y,l,z,j,rfl⟩;exact⟨_,_,Pm C,.inr ⟨_,_,by rw[Jo,MX r c B u E,q x];rfl,o.put c B,uZ o oh q⟩,⟨rfl,by simp[dep]⟩,oh.put c B⟩;rcases e:bK h x with _|v;exact⟨_,_,Qp (by kernel_rfl) (by kernel_rfl) e,.inl ⟨by rw[xG,Ji r c ((q x).trans e),s],rfl⟩,p,oh⟩;obtain⟨m,a,g,rfl⟩:=oh.get e;exact⟨_,_,M8 oh (by have:=pH oh;lia) c e,.inr ⟨_,_,by rw[xG,Jh r c u ((q x).trans e)];rfl,o.drop,Eh q⟩,B4 m a,oh.drop⟩;rcases e:bK h x with _|v;exact⟨_,_,Qp (by kernel_rfl) (by kernel_rfl) e,.inl ⟨by rw[xF,Jk r c ((q x).trans e),s],rfl⟩,p,oh⟩;obtain⟨m,a,g,rfl⟩:=oh.get e;exact⟨_,_,M7 oh.1 C e,.inr ⟨_,_,by rw[xF,Jj r g c u E ((q x).trans e)];rfl,o.put c ⟨m,_,g.not,rfl⟩,uZ o oh q⟩,B4 m _,oh.put c ⟨m,_,g.not,rfl⟩⟩;rcases i:bK h y with _|v;exact⟨_,_,M9 (.inl i),.inl ⟨by rw[kW,BY r c l j (.inl ((q y).trans i)),s],rfl⟩,p,oh⟩;rcases f:bK h z with _|J;exact⟨_,_,M9 (.inr f),.inl ⟨by rw[kW,BY r c l j (.inr ((q z).trans f)),s],rfl⟩,p,oh⟩;obtain⟨m,a,g,rfl⟩:=oh.get i;obtain⟨I,b,t,rfl⟩:=oh.get f;by_cases n:m=I;subst n;exact⟨_,_,Pn oh.1 C A i f,.inr ⟨_,_,by rw[kW,Jl r c u E rfl ((sB r l j ((q y).trans i) ((q z).trans f)).trans (BZ g t A))];rfl,o.put c ⟨m,_,g.zip _ t,rfl⟩,uZ o oh q⟩,B4 m _,oh.put c ⟨m,_,g.zip _ t,rfl⟩⟩;exact⟨_,_,Na i f n,.inl ⟨by rw[kW,BX r c ((sB r l j ((q y).trans i) ((q z).trans f)).trans (B0 g t n A)),G],rfl⟩,H,oh⟩
noncomputable def tx(l:L1 Nat):D:=.str ⟨l.toArray⟩
def Sg(l:L1 Nat):Prop:=l.length<=900/\∀c∈l,c<0x110000
def Nb(l:L1 Nat):(⟨l.toArray⟩:Str).length=l.length:=rfl
def xK(h:Sg l):plain (tx l)=qt:=by show(l.toArray.all (· <0x110000))=qt;simp only[List.all_toArray,jx,decide_eq_true_eq];exact h.2
def FN{a b:L1 Nat}:((⟨a.toArray⟩:Str)==⟨b.toArray⟩)=decide (a=b):=by rw[Bool.eq_iff_iff];simp
def FO a b:deq (tx a) (tx b)=decide (a=b):=FN
def B7(h:Sg a)(k:Sg b):kF (tx a) (tx b)=qt:=uQ (xK h) (xK k) (by simp[tx,dep])
def yR(h:Sg a)(k:Sg b):fK .NotEq (tx a) (tx b)= .ok (.bl (!decide (a=b))):=by rw[uR (B7 h k),FO]
def Pp(h:Sg a)(k:Sg b):fK .Eq (tx a) (tx b)= .ok (.bl (decide (a=b))):=by rw[o0 (B7 h k),FO]
def Nc(h:a.length<=LIM)(k:b.length<=LIM):j9 .Add (tx a) (tx b)= .ok (tx (a++b)):=by have c:(⟨a.toArray⟩:Str).length<=LIM:=h;have d:(⟨b.toArray⟩:Str).length<=LIM:=k;show(if(⟨a.toArray⟩:Str).length<=LIM/\(⟨b.toArray⟩:Str).length<=LIM then R.ok (.str (⟨a.toArray⟩++⟨b.toArray⟩))else .bad)=_;rw[if_pos ⟨c,d⟩];show R.ok (.str ⟨a.toArray++b.toArray⟩)=_;rw[ir];rfl
def sE(h:a.length<=LIM)lo hi:vI (tx a) lo hi= .ok (tx (sZ a lo hi)):=by show(if(⟨a.toArray⟩:Str).length<=LIM then R.ok (.str ⟨(sZ a lo hi).toArray⟩)else .bad)=_;rw[if_pos (show(⟨a.toArray⟩:Str).length<=LIM from h)];rfl
def B8{α:Type}(a:L1 α)n:(a.drop (cH a.length 0 qr)).take (cH a.length a.length (pi (n:Nat))-cH a.length 0 qr)=a.take n:=by simp only[cH];rw[if_neg (by lia)];simp only[ju,List.drop_zero,Nat.sub_zero];rcases Nat.le_total n a.length with h|h;rw[lz h];rw[Nat.min_eq_right h,ke,f7 h]
def B9{α:Type}(a:L1 α)n:(a.drop (cH a.length 0 (pi (n:Nat)))).take (cH a.length a.length qr-cH a.length 0 (pi (n:Nat)))=a.drop n:=by simp only[cH];rw[if_neg (by lia)];simp only[ju];rcases Nat.le_total n a.length with h|h;rw[lz h];exact f7 (by simp);rw[Nat.min_eq_right h];simp;lia
def FP a n:sZ a qr (pi (n:Nat))=a.take n:=B8 a n
def FQ a n:sZ a (pi (n:Nat)) qr=a.drop n:=B9 a n
def Sg.app(h:Sg a)(k:Sg b)(l:a.length+b.length<=900):Sg (a++b):=⟨by simpa using l,λc m=>(k6.1 m).elim (h.2 c) (k.2 c)⟩
theorem Sg.take(h:Sg a)n:Sg (a.take n):=⟨by have:=h.1;simp;lia,λc m=>h.2 c (h8 m)⟩
theorem Sg.drop(h:Sg a)n:Sg (a.drop n):=⟨by have:=h.1;simp;lia,λc m=>h.2 c (ia m)⟩
def chs(l:L1 Nat):L1 D:=l.map λc=>tx [c]
def sF(h:Sg a):iI (tx a)=pi (chs a):=by show(if a.toArray.size<=1000 then pi (sY ⟨a.toArray⟩)else qr)=_;rw[if_pos (by have:=h.1;simp;lia)];rfl
def Ca(ls:L1 (L1 Nat)):oB (ls.map tx)=pi (ls.map λl=>(⟨l.toArray⟩:Str)):=by
 induction ls with
 |nil=>rfl
 |cons l r b=>show(oB (r.map tx)).map (⟨l.toArray⟩:: ·)=_;rw[b];rfl
noncomputable def jn(sep:L1 Nat):L1 (L1 Nat)->L1 Nat
 |[]=>[]
 |[x]=>x
 |x::r=>x++sep++jn sep r
theorem pI sep: ∀ls,Str.join ⟨sep.toArray⟩ (ls.map λl=>(⟨l.toArray⟩:Str))=⟨(jn sep ls).toArray⟩
 |[]=>rfl
 |[x]=>rfl
 |x::y::r=>by
  show(⟨x.toArray⟩:Str)++⟨sep.toArray⟩++Str.join ⟨sep.toArray⟩ ((y::r).map λl=>(⟨l.toArray⟩:Str))=_;rw[pI sep (y::r)];show(⟨x.toArray++sep.toArray++(jn sep (y::r)).toArray⟩:Str)=_;rw[ir,ir];rfl
def u3 sep ls(h:JoinOk ⟨sep.toArray⟩ (ls.map λl=>(⟨l.toArray⟩:Str))=qt):zK ⟨sep.toArray⟩ (.lst (ls.map tx))= .ok (tx (jn sep ls)):=by show(match oB (ls.map tx)with|some ts=>if JoinOk ⟨sep.toArray⟩ ts then R.ok (.str (qj ⟨sep.toArray⟩ ts))else .bad|none=>.bad)=_;rw[Ca];show(if JoinOk ⟨sep.toArray⟩ _ then R.ok (.str (qj ⟨sep.toArray⟩ _))else .bad)=_;rw[if_pos h];rw[show ∀a b,qj a b=Str.join a b from StrLaws.glued_eq_join,pI];rfl
theorem u4: ∀l,jn [] (l.map λc=>[c])=l
 |[]=>rfl
 |[c]=>rfl
 |c::d::r=>by
  show [c]++[]++jn [] ((d::r).map λc=>[c])=_;rw[u4 (d::r)];rfl
theorem sH{α:Type}{f}{h q}: ∀{L:L1 α},(∀x∈L,f (h x)=pi (pi (q x)))->bE f (L.map h)=pi (L.map q)
 |[],_=>rfl
 |x::L,k=>by
  show(match f (h x)with|none=>qr|some qr=>bE f (L.map h)|some (pi y)=>(bE f (L.map h)).map (y:: ·))=_;rw[k x (.head _)];show(bE f (L.map h)).map (q x:: ·)=_;rw[sH λy m=>k y (.tail _ m)];rfl
def pJ{α:Type}{L:L1 α}{h q}(hi:it ρ= .ok d\/∃ds,it ρ= .ow ds/\d= .lst ds)(hd:iI d=pi (L.map h))(k: ∀x∈L,e (.sh (h x)::jP cs ρ)= .ok (q x)):aY 0 cs it qr e ρ= .ow (L.map q):=by
 have g:bE (dJ 0 (jP cs ρ) qr e) (L.map h)=pi (L.map q):=sH λx m=>by
  show(match e (.sh (h x)::jP cs ρ)with|.ok x=>pi (pi x)|.ow xs=>pi (pi (.lst xs))|_=>qr)=_;rw[k x m]
 rcases hi with hi|⟨ds,hi,rfl⟩<;>simp only[aY,hi,R.bind,hd,g]
def Jr(h:m<10):zJ [.int (m:Nat)]= .ok (tx [48+m]):=by show(if 0<=(m:Int)/\(m:Int)<10 then R.ok (.str ⟨#[48+(m:Int).toNat]⟩)else .bad)=_;rw[if_pos (by lia)];rfl
noncomputable def fb(b:Bool):Nat:=if b then 49 else 48
def Nd b:zJ [bD b]= .ok (tx [fb b]):=by cases b<;>rfl
noncomputable def kvs:L1 (Str×D):=[("0",.int 0),("1",.int 1),("2",.int 2),("3",.int 3),("4",.int 4)]
noncomputable def fg(l:L1 Nat):D:=if l=[48]then .int 0 else if l=[49]then .int 1 else if l=[50]then .int 2 else if l=[51]then .int 3 else if l=[52]then .int 4 else .non
def Nf:kvs=[(⟨[48].toArray⟩,.int 0),(⟨[49].toArray⟩,.int 1),(⟨[50].toArray⟩,.int 2),(⟨[51].toArray⟩,.int 3),(⟨[52].toArray⟩,.int 4)]:=by kernel_rfl
def FT l:Ob kvs (tx l)= .ok (fg l):=by show R.ok ((oz ⟨l.toArray⟩ kvs).getD .non)=_;rw[Nf];simp only[oz,FN];unfold fg;by_cases f:l=[48];simp[f];by_cases c:l=[49];simp[c];by_cases e:l=[50];simp[e];by_cases b:l=[51];simp[b];by_cases d:l=[52];simp[d];simp[f,c,e,b,d]
def Ng c:fg [c]=if 48<=c/\c<53 then .int ((c-48:Nat):Int)else .non:=by
 unfold fg;by_cases h:48<=c/\c<53
 .rw[if_pos h];obtain rfl|rfl|rfl|rfl|rfl:c=48\/c=49\/c=50\/c=51\/c=52:=by lia
  all_goals rfl
 .rw[if_neg h];simp only[List.cons.injEq,and_true];rw[if_neg (by lia),if_neg (by lia),if_neg (by lia),if_neg (by lia),if_neg (by lia)]
def Pq b:fg [fb b]=bD b:=by cases b<;>rfl
def sco:(D.str ":")=tx [58]:=by kernel_rfl
def Sg.lim(h:Sg x):x.length<=LIM:=by have:=h.1;unfold LIM;lia
def Js n(h:Sg x)(e:a ρ= .ok (tx x)):dS a (pi (rK (.int (n:Nat)))) qr ρ= .ok (tx (x.drop n)):=by
 have:dS a (pi (rK (.int (n:Nat)))) qr ρ=vI (tx x) (pi (n:Nat)) qr:=by simp[dS,e,R.bind,rK,vJ]
 rw[this,sE h.lim,FQ]
def Jt n(h:Sg x)(e:a ρ= .ok (tx x)):dS a qr (pi (rK (.int (n:Nat)))) ρ= .ok (tx (x.take n)):=by
 have:dS a qr (pi (rK (.int (n:Nat)))) ρ=vI (tx x) qr (pi (n:Nat)):=by simp[dS,e,R.bind,rK,vJ]
 rw[this,sE h.lim,FP]
def Nh(h:Sg x)(e:a ρ= .ok (tx x)):dS a (pi (rK (.int 1))) (pi (rK (.int 2))) ρ= .ok (tx ((x.drop 1).take 1)):=by
 have:dS a (pi (rK (.int 1))) (pi (rK (.int 2))) ρ=vI (tx x) (pi 1) (pi 2):=by simp[dS,e,R.bind,rK,vJ]
 rw[this,sE h.lim];have:sZ x (pi 1) (pi 2)=(x.drop 1).take 1:=by
  rcases x with _|⟨a,_|⟨b,r⟩⟩;rfl;rfl;simp only[sZ,cH,bq];rw[if_neg (by lia),if_neg (by lia)];rw[show min (Int.toNat 1) (r.length+1+1)=1 from lz (by simp),show min (Int.toNat 2) (r.length+1+1)=2 from lz (by show 2<=_;lia)]
 rw[this]
def Pr:Sg [58]:=⟨by decide,λc m=>by rw[ja.1 m];decide⟩
def Pt(h:a ρ= .ok (.bl p))(k:b ρ= .ok (.bl q)):rOr a b ρ= .ok (.bl (p||q)):=by cases p;exact(oZ h).trans k;exact D4 h
def pK x:cY [tx x]= .ok .non:=by
 refine oY (ρ:=[.sh (tx x)]) ((cU ((gR (b:=qt) ((FD (x:=tx x) rfl) rfl)))).trans rfl)
def Ju(h:Sg y)(e:a ρ= .ok (tx y)):aF fO [aY 0 [] a qr (Gj kvs (aB 0))] ρ= .ok (.tup (y.map λc=>fg [c])):=
 (dI (pJ (L:=y) (h:=λc=>tx [c]) (q:=λc=>fg [c]) (.inl e) (sF h) λc _=>FT [c])).trans rfl
def stx(m:Nat)(bs:L1 Bool):L1 Nat:=(48+m)::58::bs.map fb
def sem:(oq "")=⟨([]:L1 Nat).toArray⟩:=by kernel_rfl
def Pu b:fb b<0x110000:=by cases b<;>decide
def xL(g:gC m bs):Sg (stx m bs):=by have:=kC g.1;refine⟨by simp[stx,g.2];lia,λc k=>?_⟩;simp only[stx,av,au]at k;rcases k with rfl|rfl|⟨b,_,rfl⟩;have:=g.1;lia;decide;exact Pu b
def JM(h:a ρ= .ok (tx x))(k:b ρ= .ok (tx y))(hx:Sg x)(hy:Sg y):aR .Add a b ρ= .ok (tx (x++y)):=(aU h k).trans (Nc hx.lim hy.lim)
theorem Cb: ∀ls,jn [] ls=ls.flatten
 |[]=>rfl
 |[x]=>by simp[jn]
 |x::y::r=>by
  show x++[]++jn [] (y::r)=_;rw[Cb (y::r)];simp
def Cc{sep:L1 Nat}{ls:L1 (L1 Nat)}(h:ls.flatten.length+ls.length*sep.length<=900):JoinOk ⟨sep.toArray⟩ (ls.map λl=>(⟨l.toArray⟩:Str))=qt:=by
 have e: ∀(l:L1 (L1 Nat)) (z:Nat),(l.map λl=>(⟨l.toArray⟩:Str)).foldl (λ(a:Nat) b=>a+b.length+(⟨sep.toArray⟩:Str).length) z=z+(l.flatten.length+l.length*sep.length):=by
  intro l;induction l with
  |nil=>intro z;simp
  |cons c r d=>intro z;show pp _ (z+c.length+sep.length) _=_;rw[d];simp[Nat.succ_mul];lia
 unfold JoinOk;rw[List.foldl_toArray',e];simp only[Builtin.Str.tooLong,sizeLine];simp;simp at h;lia;rfl
def sI{ls:L1 (L1 Nat)}(h:ls.flatten.length<=900):JoinOk ⟨([]:L1 Nat).toArray⟩ (ls.map λl=>(⟨l.toArray⟩:Str))=qt:=Cc (by simpa using h)
def Cd(g:gC m bs)(e:it ρ= .ok (.tup (bs.map bD))):lK "" (aY 0 [] it qr (aF zJ [aC 0])) ρ= .ok (tx (bs.map fb)):=by
 have d:aY 0 [] it qr (aF zJ [aC 0]) ρ= .ow (((bs.map fb).map λc=>[c]).map tx):=by
  rw[ox,ox];exact pJ (L:=bs) (h:=bD) (.inl e) rfl λb _=>(bF (x:=bD b) rfl).trans (Nd b)
 show(aY 0 [] it qr (aF zJ [aC 0]) ρ).bind (zK "")=_;rw[d,sem];have:=kC g.1;exact(u3 [] _ (sI (by rw[<-Cb,u4,aq,g.2];lia))).trans (by rw[u4])
def Ni(g:gC m bs):Sg (bs.map fb):=(xL g).drop 2
def Pv(g:gC m bs)(hf:f ρ= .ok (.int (m:Nat)))(e:it ρ= .ok (.tup (bs.map bD))):
  aR .Add (aR .Add (aF zJ [f]) (rK (.str ":"))) (lK "" (aY 0 [] it qr (aF zJ [aC 0]))) ρ= .ok (tx (stx m bs)):=by
 have h:=g.1;have b:Sg [48+m]:=⟨by simp,λc k=>by rw[ja.1 k];lia⟩;have d:=JM (ρ:=ρ) ((bF hf).trans (Jr (m:=m) (by lia))) (show rK (.str ":") ρ= .ok (tx [58]) from congrArg R.ok sco) b Pr;exact JM d (Cd g e) (b.app Pr (by simp)) (Ni g)
def d9(g:gC m bs):cM [sw m bs]= .ok (tx (stx m bs)):=
 aP ((aE (dC ((bF (x:=sw m bs) rfl).trans (iU (rZ m bs) (gU g))))).trans (aS (Pv g rfl rfl)))
def xM l:plain (fg l)=qt:=by
 unfold fg
 repeat' split
 all_goals rfl
def th(x:L1 Nat):D:=.tup [fg (x.take 1),.tup ((x.drop 2).map λc=>fg [c])]
def Ei x:plain (th x)=qt:=by show(plain (fg _)&&(cS _&&qt))=qt;rw[xM,Bool.and_true,Bool.true_and];exact iA.2 λd m=>by obtain⟨c,_,rfl⟩:=au.1 m;exact xM _
def okS(x:L1 Nat):Bool:=decide ((x.drop 1).take 1=[58])&&BL (th x)
def eA(h:Sg x):cN [tx x]=if okS x then .ok (th x)else .ex 6:=by
 have b:fD [Gj kvs (dS (aC 0) qr (pi (rK (.int 1)))),aF fO [aY 0 [] (dS (aC 0) (pi (rK (.int 2))) qr) qr (Gj kvs (aB 0))]] [.sh (tx x),.no]= .ok (th x):=by
  refine fZ (x:=fg (x.take 1)) ?_ (Ju (h.drop 2) (Js 2 h rfl));show(dS _ _ _ _).bind (Ob kvs)=_;rw[show dS (aC 0) qr (pi (rK (.int 1))) [Slot.sh (tx x),Slot.no]=_ from Jt 1 h rfl];exact FT _
 have e:bR .NotEq (dS (aC 0) (pi (rK (.int 1))) (pi (rK (.int 2)))) (rK (.str ":")) [.sh (tx x),.sh (th x)]= .ok (.bl (!decide ((x.drop 1).take 1=[58]))):=
  (aW (Nh h rfl) (show rK (.str ":") _= .ok (tx [58]) from congrArg R.ok sco)).trans (yR ((h.drop 1).take 1) Pr)
 have d:kG (aF cW [aB 1]) [.sh (tx x),.sh (th x)]= .ok (.bl (!BL (th x))):=gR ((bF (x:=th x) rfl).trans (fB (Ei x)));have c:rOr (bR .NotEq (dS (aC 0) (pi (rK (.int 1))) (pi (rK (.int 2)))) (rK (.str ":"))) (kG (aF cW [aB 1])) [.sh (tx x),.sh (th x)]= .ok (.bl (!okS x)):=(Pt e d).trans (by unfold okS;rw[Bool.not_and]);cases hk:okS x
 .refine gQ (ρ:=[.sh (tx x),.sh (th x)]) ((aE (dC ((bF (x:=tx x) rfl).trans (pK x)))).trans ((aE (cJ b)).trans (fM ((eG ?_).trans rfl))));exact c.trans (by rw[hk];rfl)
 .refine aP ((aE (dC ((bF (x:=tx x) rfl).trans (pK x)))).trans ((aE (cJ b)).trans ((aE (ρ':=[.sh (tx x),.sh (th x)]) ((cU ?_).trans rfl)).trans rfl)));exact c.trans (by rw[hk];rfl)
def FU(g:gC m bs):th (stx m bs)=sw m bs:=by have b:=g.1;show D.tup [fg [48+m],.tup ((bs.map fb).map λc=>fg [c])]=_;rw[Ng,if_pos (by lia),ox,show((λc=>fg [c]) ∘ fb)=bD from funext Pq,Nat.add_sub_cancel_left];rfl
def Nj(g:gC m bs):okS (stx m bs)=qt:=by unfold okS;rw[FU g,gU g,decide_eq_true (by rfl)];rfl
def Pw(h:okS x=qt):(∃m bs,gC m bs/\th x=sw m bs)/\3<=x.length:=by
 obtain⟨m,j,e,d,b,f⟩:=Ea (aw _ _▸h).2;obtain⟨bs,rfl⟩:=uT f;have i:(x.drop 2).map (λc=>fg [c])=bs.map bD:=by simpa[th]using (show _/\_ from by simpa[th]using e).2
 have g:=congrArg o6 i;have:=(kC d).1;rw[aq]at b;simp at g;exact⟨⟨m,bs,⟨d,b⟩,e⟩,by lia⟩
def Sg.one(h:Sg x)(m:c∈x):Sg [c]:=⟨by simp,λd k=>by rw[ja.1 k];exact h.2 c m⟩
def Px(h:a.length<=LIM)(e:a[n]? =pi c):dIx (tx a) (.int (n:Nat))= .ok (tx [c]):=by
 obtain⟨l,_⟩:=ay.1 e;show(if(⟨a.toArray⟩:Str).length<=LIM then(match(ixD a.length (n:Nat)).bind λj=>a[j]? with|some c=>R.ok (.str ⟨#[c]⟩)|none=>.bad)else .bad)=_;rw[if_pos (show(⟨a.toArray⟩:Str).length<=LIM from h)];have:ixD a.length (n:Nat)=pi n:=by
  unfold ixD;rw[if_pos (by lia),if_pos (by lia)];simp
 rw[this];show(match a[n]? with|some c=>R.ok (.str ⟨#[c]⟩)|none=>.bad)=_;rw[e];rfl
def u6(h:Sg a):pN [tx a]= .ok (.int (a.length:Nat)):=by show(if(⟨a.toArray⟩:Str).length<=100000 then R.ok (.int ((⟨a.toArray⟩:Str).length:Nat))else .bad)=_;rw[if_pos (show(⟨a.toArray⟩:Str).length<=100000 from by have:=h.1;rw[Nb];lia)];rfl
theorem Nk{c:Nat}: ∀{p q r s},c∉p->c∉q->p++c::r=q++c::s->p=q/\r=s
 |[],[],r,s,_,_,e=>by simp at e;exact⟨rfl,e⟩
 |[],y::q,r,s,_,hq,e=>by simp at e;exact absurd e.1 (λz=>hq (by simp[z]))
 |x::p,[],r,s,hp,_,e=>by simp at e;exact absurd e.1 (λz=>hp (by simp[z]))
 |x::p,y::q,r,s,hp,hq,e=>by
  simp only[km,List.cons.injEq]at e;obtain⟨b,d⟩:=Nk (λm=>hp (.tail _ m)) (λm=>hq (.tail _ m)) e.2;exact⟨by rw[e.1,b],d⟩
def j8:jn [c] (x::y::r)=x++c::jn [c] (y::r):=by simp[jn]
theorem FV{c}: ∀{ls ks},ls≠[]->ks≠[]->(∀p∈ls,c∉p)->(∀p∈ks,c∉p)->jn [c] ls=jn [c] ks->ls=ks
 |[],_,h,_,_,_,_=>absurd rfl h
 |_,[],_,h,_,_,_=>absurd rfl h
 |[x],[y],_,_,_,_,e=>by simp only[jn]at e;rw[e]
 |[x],y::z::r,_,_,h,_,e=>by
  rw[j8]at e;have e:x=y++c::jn [c] (z::r):=e;exact absurd (by rw[e];simp) (h x (.head _))
 |x::z::r,[y],_,_,_,h,e=>by
  rw[j8]at e;have e:x++c::jn [c] (z::r)=y:=e;exact absurd (by rw[<-e];simp) (h y (.head _))
 |x::x'::r,y::y'::s,_,_,h,k,e=>by
  rw[j8,j8]at e;obtain⟨b,d⟩:=Nk (h x (.head _)) (k y (.head _)) e;rw[b,FV (by simp) (by simp) (λp m=>h p (.tail _ m)) (λp m=>k p (.tail _ m)) d]
def xN x y:qg x y≠[]:=by unfold qg;split;simp;split;simp;simp[eh]
def Ej(hn:ls≠[])(hf: ∀p∈ls,c∉p)(e:jn [c] ls=x):qg ⟨x.toArray⟩ ⟨#[c]⟩=ls.map λl=>(⟨l.toArray⟩:Str):=by
 have f:=StrLaws.split_free ⟨x.toArray⟩ c;have b:=StrLaws.join_split ⟨x.toArray⟩ ⟨#[c]⟩;have d:=xN ⟨x.toArray⟩ ⟨#[c]⟩;generalize qg ⟨x.toArray⟩ ⟨#[c]⟩=S at f b d;have g:S=(S.map λs=>s.cps.toList).map λl=>(⟨l.toArray⟩:Str):=by
  rw[ox];exact(List.map_id' S).symm.trans (ik λs _=>rfl)
 have i:jn [c] (S.map λs=>s.cps.toList)=x:=by
  rw[g]at b;have:=(pI [c] (S.map λs=>s.cps.toList)).symm.trans b;simpa using congrArg (λs:Str=>s.cps.toList) this
 rw[g,FV (ls:=S.map λs=>s.cps.toList) (ks:=ls) (by simpa using d) hn (λp m=>by obtain⟨s,h,rfl⟩:=au.1 m;exact f s h) hf (i.trans e.symm)]
theorem pL{c}{z}: ∀ls,jn [c] (ls++[z])=(ls.flatMap λl=>l++[c])++z
 |[]=>rfl
 |[x]=>by simp[jn]
 |x::y::r=>by
  have:=pL (c:=c) (z:=z) (y::r);show jn [c] (x::(y::r++[z]))=_;rw[show(y::r++[z])=y::(r++[z]) from rfl,j8,show y::(r++[z])=y::r++[z] from rfl,this];simp
def Ce c x: ∃ls,ls≠[]/\qg ⟨x.toArray⟩ ⟨#[c]⟩=(ls.map λl=>(⟨l.toArray⟩:Str))/\jn [c] ls=x:=by
 have b:=StrLaws.join_split ⟨x.toArray⟩ ⟨#[c]⟩;have d:=xN ⟨x.toArray⟩ ⟨#[c]⟩;generalize qg ⟨x.toArray⟩ ⟨#[c]⟩=S at b d;have e:S=(S.map λs=>s.cps.toList).map λl=>(⟨l.toArray⟩:Str):=by
  rw[ox];exact(List.map_id' S).symm.trans (ik λs _=>rfl)
 refine⟨S.map λs=>s.cps.toList,by simpa using d,e,?_⟩;rw[e]at b;have:=(pI [c] (S.map λs=>s.cps.toList)).symm.trans b;simpa using congrArg (λs:Str=>s.cps.toList) this
def Qq:(oq " = ")=⟨[32,61,32].toArray⟩:=by kernel_rfl
def Cf(l:L1 Nat): ∃a b m,jQ ⟨l.toArray⟩ " = "=[tx a,m,tx b]/\(∀c∈a,c∈l)/\(∀c∈b,c∈l)/\(a.length+b.length+3<=l.length\/b=[])/\a.length<=l.length:=by
 unfold jQ;rw[Qq];rcases StrLaws.occ_head ⟨l.toArray⟩ ⟨[32,61,32].toArray⟩ 1 (aj _)with ⟨e,_⟩|⟨i,r,e,d,_⟩;rw[e];exact⟨l,[],.str qf,rfl,λc m=>m,(λc m=>nomatch m),.inr rfl,aj _⟩;have hi:i+3<=l.length:=d.1;have g:iz ⟨l.toArray⟩ 0 i=⟨(l.take i).toArray⟩:=by simp[iz]
 have f:iz ⟨l.toArray⟩ (i+3) (⟨l.toArray⟩:Str).length=⟨(l.drop (i+3)).toArray⟩:=by
  simp only[iz,List.extract_toArray,List.extract_eq_drop_take];rw[f7 (by simp[ph])]
 rw[e];refine⟨l.take i,l.drop (i+3),.str ⟨[32,61,32].toArray⟩,?_,λc m=>h8 m,λc m=>ia m,.inl (by simp;lia),by simp;lia⟩;show [D.str (iz _ 0 i),.str _,.str (iz _ (i+3) _)]=_;rw[g,f];rfl
def Ek xs d:x6 (xs++[d]) qr (pi (-1))=xs:=by
 have h:cH (xs++[d]).length (xs++[d]).length (pi (-1))=xs.length:=by
  simp[cH];lia
 unfold x6;rw[h];simp[cH]
def Jv(h:32∉lab):jQ ⟨(lab++32::61::32::dF).toArray⟩ " = "=[tx lab,.str " = ",tx dF]:=by
 have b: ∀i,StrLaws.At ⟨(lab++32::61::32::dF).toArray⟩ ⟨[32,61,32].toArray⟩ (⟨(lab++32::61::32::dF).toArray⟩:Str).length i↔i+3<=lab.length+(dF.length+3)/\((lab++32::61::32::dF).drop i).take 3=[32,61,32]:=λi=>by
  unfold StrLaws.At;rw[StrLaws.subAt_eq];simp[ph]
 have d:=(b lab.length).2 ⟨by lia,by simp⟩;unfold jQ;rw[Qq];rcases StrLaws.occ_head ⟨(lab++32::61::32::dF).toArray⟩ ⟨[32,61,32].toArray⟩ 1 (aj _)with ⟨_,c⟩|⟨i,r,e,l,c⟩;exact absurd d (c _);have hi:i=lab.length:=by
  rcases Nat.lt_trichotomy i lab.length with z|z|z;have:=((b i).1 l).2;rw[List.drop_append_of_le_length (by lia)]at this;have m:lab.drop i=lab[i]::lab.drop (i+1):=dz z;rw[m]at this;have j:lab[i]=32:=(m3 this).1;exact absurd (by rw[<-j];exact kr z) h;exact z;exact absurd d (c _ z)
 rw[e,hi];show [D.str (iz _ 0 lab.length),.str _,.str (iz _ (lab.length+3) _)]=_;have g:iz ⟨(lab++32::61::32::dF).toArray⟩ 0 lab.length=⟨lab.toArray⟩:=by
  simp[iz]
 have f:iz ⟨(lab++32::61::32::dF).toArray⟩ (lab.length+3) (⟨(lab++32::61::32::dF).toArray⟩:Str).length=⟨dF.toArray⟩:=by
  simp only[iz,List.extract_toArray,List.extract_eq_drop_take];congr 2;rw[<-List.drop_drop];simp[ph];exact f7 (by lia)
 rw[g,f];rfl
abbrev En:=L1 Nat×Nat×L1 Bool
noncomputable def lbl(e:En):Str:=⟨e.1.toArray⟩
def val(e:En):D:=sw e.2.1 e.2.2
def ln(e:En):L1 Nat:=e.1++32::61::32::stx e.2.1 e.2.2
noncomputable def lb(l:L1 Nat):Bool:=decide (1<=l.length)&&decide (l.length<=4)&&l.all λc=>decide (97<=c)&&decide (c<=122)
def yS(e:En):Prop:=lb e.1=qt/\gC e.2.1 e.2.2
def txt(es:L1 En):L1 Nat:=es.flatMap λe=>ln e++[10]
def Cg(h:lb l=qt):1<=l.length/\l.length<=4/\∀c∈l,97<=c/\c<=122:=by simp only[lb,aw,decide_eq_true_eq,jx]at h;exact⟨h.1.1,h.1.2,h.2⟩
def u7(h:yS e):32∉e.1/\10∉e.1/\e.1.length<=4/\∀c∈e.1,c<128:=by obtain⟨f,d,b⟩:=Cg h.1;exact⟨λm=>by have:=b _ m;lia,λm=>by have:=b _ m;lia,d,λc m=>by have:=b c m;lia⟩
def Pz(h:x∈NM):lb x.cps.toList=qt:=zAd (show(NM.all λs=>lb s.cps.toList)=qt by kernel_rfl) _ h
def Nl(h:lb l=qt):Sg l:=by obtain⟨_,d,b⟩:=Cg h;exact⟨by lia,λc m=>by have:=b c m;lia⟩
def FW c d:fK .LtE (tx [c]) (tx [d])= .ok (.bl (decide (c<=d))):=by show R.ok (.bl (!decide ([d]<[c])))=_;rw[show decide ([d]<[c])=decide (d<c) from by rw[decide_eq_decide,List.cons_lt_cons_iff];simp];congr 2;rw[Bool.eq_iff_iff];simp
def sa:(D.str "a")=tx [97]:=by kernel_rfl
def sz:(D.str "z")=tx [122]:=by kernel_rfl
def xO(ha:a ρ= .ok x)(hb:b ρ= .ok y)(hc:c ρ= .ok z)(h1:fK op x y= .ok (.bl p))(h2:fK op' y z= .ok (.bl q)):fN op op' a b c ρ= .ok (.bl (p&&q)):=by cases p<;>simp[fN,ha,hb,hc,R.bind,h1,h2]
theorem hX{α:Type}f: ∀l:L1 α,eP (l.map λx=>D.bl (f x))=pi (l.map f)
 |[]=>rfl
 |x::l=>by
  show(eP (l.map λx=>D.bl (f x))).map (f x:: ·)=_;rw[hX f l];rfl
def f9(s:Sg l):d7 [tx l]= .ok (.bl (lb l)):=by
 have f:fN .LtE .LtE (rK (.int 1)) (aF pN [aC 0]) (rK (.int 4)) [.sh (tx l)]= .ok (.bl (decide (1<=l.length)&&decide (l.length<=4))):=
  (xO (x:=.int 1) (z:=.int 4) rfl ((bF (x:=tx l) rfl).trans (u6 s)) rfl rfl rfl).trans (by congr 3<;>(rw[decide_eq_decide];lia))
 have e:rOr (kG (rIs (zR) (aB 0))) (kG (fN .LtE .LtE (rK (.int 1)) (aF pN [aC 0]) (rK (.int 4)))) [.sh (tx l)]= .ok (.bl (!(decide (1<=l.length)&&decide (l.length<=4)))):=
  (oZ ((gR (b:=qt) ((FD (x:=tx l) rfl) rfl)).trans rfl)).trans (gR f)
 cases h:(decide (1<=l.length)&&decide (l.length<=4))
 .refine aP ((cR ((eG (e.trans (by rw[h];rfl))).trans (aS (d:=.bl qu) rfl))).trans ?_);unfold lb;rw[h];rfl
 .refine aP ((aE (ρ':=[.sh (tx l)]) ((cU (e.trans (by rw[h];rfl))).trans rfl)).trans (aS ?_));have g:aY 0 [] (aC 0) qr (fN .LtE .LtE (rK (.str "a")) (aB 0) (rK (.str "z"))) [.sh (tx l)]= .ow (l.map λc=>D.bl (decide (97<=c)&&decide (c<=122))):=
   pJ (L:=l) (h:=λc=>tx [c]) (.inl rfl) (sF s) λc _=>xO (y:=tx [c]) (show rK (.str "a") _= .ok (tx [97]) from congrArg R.ok sa) rfl (show rK (.str "z") _= .ok (tx [122]) from congrArg R.ok sz) (FW _ _) (FW _ _)
  refine(dI g).trans ?_;show(match eP (l.map _)with|some xs=>R.ok (.bl (xs.all id))|none=>.bad)=_;rw[hX];show R.ok (.bl ((l.map _).all id))=_;unfold lb;rw[h,List.all_map];rfl
def Nm(h:lb l=qt):bQ [tx l]= .ok .non:=
 oY (ρ:=[.sh (tx l)]) ((cU ((gR ((bF (x:=tx l) rfl).trans (f9 (Nl h)))).trans (by rw[h];rfl))).trans rfl)
def Nn:10∉stx m a:=by intro h;simp only[stx,av,au]at h;rcases h with h|h|⟨b,_,h⟩;lia;lia;unfold fb at h;split at h<;>lia
def Jw(g:gC m a):(stx m a).length<=18:=by have:=kC g.1;have b:=g.2;simp only[stx,bq,aq];lia
def PB(h:yS e):10∉ln e:=by intro k;simp only[ln,k6,av]at k;rcases k with k|k|k|k|k;exact(u7 h).2.1 k;lia;lia;lia;exact Nn k
def yT(h:yS e):Sg (ln e)/\(ln e).length<=25:=by
 have d:=(u7 h).2.2.1;have f:=Jw h.2;have b:(ln e).length<=25:=by simp only[ln,bo,bq];lia
 refine⟨⟨by lia,λc m=>?_⟩,b⟩;simp only[ln,k6,av]at m;rcases m with k|k|k|k|k;have:=(u7 h).2.2.2 c k;lia;lia;lia;lia;exact(xL h.2).2 c k
theorem u8: ∀{es},(∀e∈es,yS e)->(txt es).length<=es.length*26
 |[],_=>by simp[txt]
 |e::r,h=>by
  have c:=(yT (h e (.head _))).2;have b:=u8 (es:=r) λe m=>h e (.tail _ m);simp only[txt,List.flatMap_cons,bo,bq,lj]at b ⊢;lia
def xP(h: ∀e∈es,yS e)(hl:es.length<=30):Sg (txt es):=by refine⟨by have:=u8 h;lia,λc m=>?_⟩;obtain⟨e,b,k⟩:=List.mem_flatMap.1 m;rcases k6.1 k with k|k;exact(yT (h e b)).1.2 c k;rw[ja.1 k];decide
def Q4:(D.str "\n")=tx [10]:=by kernel_rfl
def Q5:(D.str " = ")=tx [32,61,32]:=by kernel_rfl
def PD:Sg [10]:=⟨by decide,λc m=>by rw[ja.1 m];decide⟩
def No:Sg [32,61,32]:=⟨by decide,λc m=>by simp at m;rcases m with rfl|rfl|rfl<;>decide⟩
def El(h:ρ[i]? =pi (.rk A r))(k:M r []= .pure x):dQ A i M [] ρ=x:=by show zM A i (λr=>(M r []).told) ρ=x;unfold zM;rw[h];show(if A=A then(M r []).told else .bad)=x;rw[if_pos rfl,k];rfl
def PF(h:ρ[i]? =pi (.rk A r))(hf:f ρ= .ok d)(k:M r [d]= .pure x):dQ A i M [f] ρ=x:=by show zM A i (λr=>lJ [f] ρ λb=>(M r b).told) ρ=x;unfold zM;rw[h];show(if A=A then lJ [f] ρ (λb=>(M r b).told)else .bad)=x;rw[if_pos rfl];simp[lJ,args,hf,RA.cons,RA.then,k,RM.told]
def gX(hs:gJ (r.held.map (·.1))=es.map lbl)(hl:r.held.length<64)(he: ∀e∈es,yS e/\bK r.held (lbl e)=pi (val e))(hn:es.length<=30):aO r []= .pure (.ok (tx (txt es))):=by
 have p:aY 0 [0] (dQ 368 0 dY []) qr (aR .Add (aR .Add (aR .Add (aB 0) (rK (.str " = "))) (aF cM [dQ 368 1 aG [aB 0]])) (rK (.str "\n"))) [.rk 368 r]= .ow (es.map λe=>tx (ln e++[10])):=by
  refine pJ (d:=.lst (es.map λe=>D.str (lbl e))) (L:=es) (h:=λe=>D.str (lbl e)) (.inr ⟨_,(El rfl (B6 hl)).trans (by unfold Eg;rw[hs,ox];rfl),rfl⟩) rfl λe l=>?_;obtain⟨ok,n⟩:=he e l;have b:dQ 368 1 aG [aB 0] (.sh (.str (lbl e))::jP [0] [.rk 368 r])= .ok (val e):=by
   refine PF (r:=r) rfl rfl ((uY r (Nm ok.1)).trans ?_);unfold yV;rw[show bK r.held ⟨e.1.toArray⟩=pi (val e) from n]
  have g:Sg e.1:=⟨by have:=(u7 ok).2.2.1;lia,λc m=>by have:=(u7 ok).2.2.2 c m;lia⟩;have s:=(u7 ok).2.2.1;have q:=JM (ρ:=.sh (.str (lbl e))::jP [0] [.rk 368 r]) (a:=aB 0) (x:=e.1) rfl (show rK (.str " = ") _= .ok (tx [32,61,32]) from congrArg R.ok Q5) g No;have j:=JM q ((bF b).trans (d9 ok.2)) (g.app No (by simp;lia)) (xL ok.2);have f:e.1++[32,61,32]++stx e.2.1 e.2.2=ln e:=by simp[ln]
  rw[f]at j;exact JM j (show rK (.str "\n") _= .ok (tx [10]) from congrArg R.ok Q4) (yT ok).1 PD
 have o:lK "" (aY 0 [0] (dQ 368 0 dY []) qr (aR .Add (aR .Add (aR .Add (aB 0) (rK (.str " = "))) (aF cM [dQ 368 1 aG [aB 0]])) (rK (.str "\n")))) [.rk 368 r]= .ok (tx (txt es)):=by
  show(aY _ _ _ _ _ _).bind (zK "")=_;rw[p,sem];have i:(es.map λe=>ln e++[10]).flatten=txt es:=by simp[txt,List.flatMap]
  have:=u3 [] (es.map λe=>ln e++[10]) (sI (by rw[i];exact(xP (λe m=>(he e m).1) hn).1));rw[Cb,i,ox]at this;exact this
 unfold aO kJ;show iR 368 (eS _ _ [.rk 368 r] qu)=_;rw[uV (BV o)];rfl
def Ch(h:g (ds.map Slot.sh++ao (N-ds.length) .no)= .nx ρ)(hr:ρ[i]? =pi (.rk A r)):Fy A N g i ds= .rk r:=by simp[Fy,h,hr,NL]
def Em(h:ρ[i]? =pi (.rk A r))(hg:g ρ= .ok y)(hf:f ρ= .ok (.str q))(hl:r.held.length<LIM):uN A i f g ρ= .nx (ρ.set i (.rk A {r with held:=fE r.held q y})):=by simp[uN,hg,hf,fC,h,hl]
def rdB:FS:=(aT (fL 3 (zL (aB 2) (rK (.str " = "))))
  (aT (sIf (kG (aF d7 [rIx (aC 3) (rK (.int 0))]))
  (gI 6)
  (bC))
  (uN 368 1 (rIx (aC 3) (rK (.int 0))) (aF cN [rIx (aC 3) (rK (.int 2))]))))
noncomputable def pr(e:En):Str×D:=(lbl e,val e)
def Eo(s:Sg l):zL (aB 2) (rK (.str " = ")) [.sh T,r,.sh (tx l),s3]= .ok (.tup (jQ ⟨l.toArray⟩ " = ")):=by show(if((oq " = ").length==0)=qu/\(⟨l.toArray⟩:Str).length<=LIM then R.ok (.tup (jQ ⟨l.toArray⟩ " = "))else .bad)=_;rw[if_pos ⟨by kernel_rfl,s.lim⟩]
def Ci(s:Sg l)(ep:jQ ⟨l.toArray⟩ " = "=[tx a,m,tx b])(sa:Sg a)(sb:Sg b)(hl:acc.length<LIM):
  rdB [.sh T,.rk 368 ⟨acc,[],[]⟩,.sh (tx l),s3]=if lb a&&okS b then .nx [.sh T,.rk 368 ⟨fE acc ⟨a.toArray⟩ (th b),[],[]⟩,.sh (tx l),.sh (.tup [tx a,m,tx b])]else .ex 6 [.sh T,.rk 368 ⟨acc,[],[]⟩,.sh (tx l),.sh (.tup [tx a,m,tx b])]:=by
 refine(aE (cJ ((Eo s).trans (by rw[ep])))).trans ?_;have d:rIx (aC 3) (rK (.int 0)) [.sh T,.rk 368 ⟨acc,[],[]⟩,.sh (tx l),.sh (.tup [tx a,m,tx b])]= .ok (tx a):=(cV (x:=.tup [tx a,m,tx b]) (y:=.int ((0:Nat):Int)) rfl rfl).trans (mH rfl);have f:rIx (aC 3) (rK (.int 2)) [.sh T,.rk 368 ⟨acc,[],[]⟩,.sh (tx l),.sh (.tup [tx a,m,tx b])]= .ok (tx b):=(cV (x:=.tup [tx a,m,tx b]) (y:=.int ((2:Nat):Int)) rfl rfl).trans (mH rfl);have c:=(bF f).trans (eA sb);have e:=gR ((bF d).trans (f9 sa));cases h:lb a;exact fM ((eG (e.trans (by rw[h];rfl))).trans rfl);refine(aE ((cU (e.trans (by rw[h];rfl))).trans rfl)).trans ?_;cases k:okS b;rw[k]at c;simp[uN,show aF cN [rIx (aC 3) (rK (.int 2))] [.sh T,.rk 368 ⟨acc,[],[]⟩,.sh (tx l),.sh (.tup [tx a,m,tx b])]= .ex 6 from c,fC];rw[k]at c;exact Em (r:=⟨acc,[],[]⟩) rfl c d hl
def Np(ok:yS e)(hh:(bK acc (lbl e)).isSome=qu)(hl:acc.length<LIM):
  rdB [.sh T,.rk 368 ⟨acc,[],[]⟩,.sh (tx (ln e)),s3]= .nx [.sh T,.rk 368 ⟨acc++[pr e],[],[]⟩,.sh (tx (ln e)),.sh (.tup [tx e.1,.str " = ",tx (stx e.2.1 e.2.2)])]:=by
 refine(Ci (yT ok).1 (by rw[show ln e=e.1++32::61::32::stx e.2.1 e.2.2 from rfl,Jv (u7 ok).1]) (Nl ok.1) (xL ok.2) hl).trans ?_;rw[ok.1,Nj ok.2,FU ok.2];show Out.nx [.sh T,.rk 368 ⟨fE acc (lbl e) (val e),[],[]⟩,_,_]=_;rw[gW hh];rfl
def jM(h:t d ρ=pi ρ1)(k:b ρ1= .nx ρ2):eK t b (d::ds) ρ=eK t b ds ρ2:=by simp only[eK,h,k]
theorem FX{T}: ∀(es:L1 En) acc s2 s3,(∀e∈es,yS e)->((acc++es.map pr).map (·.1)).Nodup->acc.length+es.length<=1000->
  ∃s2' s3',eK (m7 [2] qt) rdB (es.map λe=>tx (ln e)) [.sh T,.rk 368 ⟨acc,[],[]⟩,s2,s3]= .nx [.sh T,.rk 368 ⟨acc++es.map pr,[],[]⟩,s2',s3']
 |[],acc,s2,s3,_,_,_=>⟨s2,s3,by simp[eK]⟩
 |e::es,acc,s2,s3,h,nd,hl=>by
  have b:(bK acc (lbl e)).isSome=qu:=by
   rw[r8];rfl;intro m;rw[ll,jw]at nd;exact nd.2.2 _ m _ (by simp[pr]) rfl
  obtain⟨s2',s3',k⟩:=FX (T:=T) es (acc++[pr e]) (.sh (tx (ln e))) (.sh (.tup [tx e.1,.str " = ",tx (stx e.2.1 e.2.2)])) (λx m=>h x (.tail _ m)) (by simpa using nd) (by simp at hl ⊢;lia);refine⟨s2',s3',(jM (ρ1:=[.sh T,.rk 368 ⟨acc,[],[]⟩,.sh (tx (ln e)),s3]) rfl (Np (h e (.head _)) b (by unfold LIM;simp at hl;lia))).trans ?_⟩;rw[k];simp
def Cj{ρ:Rho}{i:Nat}{a:L1 Nat}{L:L1 (L1 Nat)}(s:Sg a)(hs:qg ⟨a.toArray⟩ ⟨#[10]⟩=L.map λ(l:L1 Nat)=>(⟨l.toArray⟩:Str))(e:aB i ρ= .ok (tx a):=by rfl):gH (aB i) (rK (.str "\n")) ρ= .ow (L.map tx):=by
 have:gH (aB i) (rK (.str "\n")) ρ=EE (tx a) (.str "\n"):=by simp[gH,e,R.bind,rK,tx]
 rw[this];show(if(oq "\n").length=1/\(⟨a.toArray⟩:Str).length<=LIM then R.ow ((qg ⟨a.toArray⟩ "\n").map D.str)else .bad)=_;have b:(oq "\n")=⟨#[10]⟩:=by kernel_rfl
 rw[if_pos ⟨by kernel_rfl,s.lim⟩,b,hs,ox];rfl
def xQ(s:Sg a)(hs:qg ⟨a.toArray⟩ ⟨#[10]⟩=(L++[z]).map λl=>(⟨l.toArray⟩:Str)):dS (gH (aB 0) (rK (.str "\n"))) qr (pi (Gi (rK (.int 1)))) [.sh (tx a),r,s2,s3]= .ow (L.map tx):=by have b:gH (aB 0) (rK (.str "\n")) [.sh (tx a),r,s2,s3]= .ow (L.map tx++[tx z]):=(Cj s hs).trans (by rw[ll];rfl);unfold dS;rw[b];show R.ow (x6 (L.map tx++[tx z]) qr (pi (-1)))=_;rw[Ek]
def sJ(he: ∀e∈es,yS e):qg ⟨(txt es).toArray⟩ ⟨#[10]⟩=(es.map ln++[[]]).map λ(l:L1 Nat)=>(⟨l.toArray⟩:Str):=by refine Ej (by simp) (λp m=>?_) (by rw[pL];simp[txt,List.flatMap_map]);rcases k6.1 m with m|m;obtain⟨e,b,rfl⟩:=au.1 m;exact PB (he e b);rw[ja.1 m];simp
def sK(he: ∀e∈es,yS e)(nd:(es.map lbl).Nodup)(hs:gJ (es.map lbl)=es.map lbl)(hn:es.length<=30):bB [tx (txt es)]= .rk ⟨es.map pr,[],[]⟩:=by
 have sg:=xP he hn
 have keys:(es.map pr).map (·.1)=es.map lbl:=by rw[ox];rfl
 have i:dS (gH (aB 0) (rK (.str "\n"))) qr (pi (Gi (rK (.int 1)))) [.sh (tx (txt es)),.rk 368 ⟨[],[],[]⟩,.no,.no]= .ow (es.map λe=>tx (ln e)):=(xQ sg (sJ he)).trans (by rw[ox];rfl)
 obtain⟨d,b,g⟩:=FX (T:=tx (txt es)) es [] .no .no he (by rw[lh,keys];exact nd) (by simp;lia)
 have f:aO ⟨es.map pr,[],[]⟩ []= .pure (.ok (tx (txt es))):=gX (by rw[show((⟨es.map pr,[],[]⟩:Rk).held.map (·.1))=es.map lbl from keys];exact hs) (by simp;lia) (λe c=>⟨he e c,kU (h:=es.map pr) (by rw[keys];exact nd) (List.mem_map_of_mem c)⟩) hn
 have j:bR .NotEq (dQ 368 1 aO []) (aB 0) [.sh (tx (txt es)),.rk 368 ⟨es.map pr,[],[]⟩,d,b]= .ok (.bl qu):=by
  refine(aW (El (r:=⟨es.map pr,[],[]⟩) rfl f) (show aB 0 _= .ok (tx (txt es)) from rfl)).trans ((yR sg sg).trans ?_)
  simp
 exact Ch (ρ:=[.sh (tx (txt es)),.rk 368 ⟨es.map pr,[],[]⟩,d,b]) ((aE (dC ((bF (x:=tx (txt es)) rfl).trans (pK _)))).trans ((aE (ρ':=[.sh (tx (txt es)),.rk 368 ⟨[],[],[]⟩,.no,.no]) rfl).trans ((aE ((mJ (.inr i)).trans g)).trans ((aE ((cU j).trans rfl)).trans rfl)))) rfl
def OkA(h:Row):Prop:=(h.map (·.1)).Nodup/\∀p∈h,lb p.1.cps.toList=qt/\Sw p.2
def OkH.a{h:Row}(o:OkH h):OkA h:=⟨o.1,λp m=>⟨Pz (o.2 p m).1,(o.2 p m).2⟩⟩
def Nq(o:OkA h): ∃es:L1 En,es.map lbl=gJ (h.map (·.1))/\∀e∈es,yS e/\bK h (lbl e)=pi (val e):=by
 have c: ∀l:L1 Str,(∀x∈l,x∈h.map (·.1))->∃es:L1 En,es.map lbl=l/\∀e∈es,yS e/\bK h (lbl e)=pi (val e):=by
  intro l;induction l with
  |nil=>exact λ_=>⟨[],rfl,λe m=>by cases m⟩
  |cons x l q=>
   intro d;obtain⟨es,n,j⟩:=q λy m=>d y (.tail _ m);obtain⟨p,f,rfl⟩:=au.1 (d x (.head _));obtain⟨i,m,a,g,ev⟩:=o.2 p f;refine⟨(p.1.cps.toList,m,a)::es,by rw[mr,n];rfl,λe b=>?_⟩;rcases av.1 b with rfl|b;exact⟨⟨i,g⟩,(kU o.1 f).trans (congrArg pi ev)⟩;exact j e b
 exact c _ λx m=>(jK _).mem_iff.1 m
def Sm(a:L1 Nat):Prop:=a.length<=240/\∀c∈a,c<0x110000
def Sm.sg(h:Sm a):Sg a:=⟨by have:=h.1;lia,h.2⟩
def OkA.put(o:OkA h)(hx:lb x.cps.toList=qt)(hv:Sw v):OkA (fE h x v)/\(fE h x v).length<=h.length+1:=by refine⟨⟨o9 o.1,λp m=>?_⟩,?_⟩<;>cases n:(bK h x).isSome;rw[gW n]at m;rcases k6.1 m with m|m;exact o.2 p m;rw[ja.1 m];exact⟨hx,hv⟩;rw[j6 n]at m;obtain⟨q,b,rfl⟩:=au.1 m;by_cases z:q.1=x;rw[if_pos z];exact⟨(o.2 q b).1,hv⟩;rw[if_neg z];exact o.2 q b;rw[gW n];simp;rw[j6 n];simp
noncomputable def JN(L:L1 (L1 Nat)):Nat:=(L.map λl=>l.length+1).sum
def Ep(h:t d ρ=pi ρ1)(k:b ρ1= .ex c ρ2):eK t b (d::ds) ρ= .ex c ρ2:=by simp only[eK,h,k]
theorem Nr{T}: ∀L acc s2 s3,OkA acc->(∀l∈L, ∀c∈l,c<0x110000)->8*acc.length+JN L<=240->
  (∃ρ,eK (m7 [2] qt) rdB (L.map tx) [.sh T,.rk 368 ⟨acc,[],[]⟩,s2,s3]= .ex 6 ρ)\/∃acc' s2' s3',eK (m7 [2] qt) rdB (L.map tx) [.sh T,.rk 368 ⟨acc,[],[]⟩,s2,s3]= .nx [.sh T,.rk 368 ⟨acc',[],[]⟩,s2',s3']/\OkA acc'/\acc'.length<=30
 |[],acc,s2,s3,o,_,hl=>.inr ⟨acc,s2,s3,rfl,o,by lia⟩
 |l::L,acc,s2,s3,o,h,hl=>by
  have t:JN (l::L)=l.length+1+JN L:=by simp[JN]
  obtain⟨a,b,m,r,i,n,len,v⟩:=Cf l;have u:b.length<=l.length:=by
   rcases len with z|z;lia;rw[z];exact bu _
  have s:Sg l:=⟨by lia,h l (.head _)⟩;have d:=Ci (T:=T) (acc:=acc) (s3:=s3) s r ⟨by lia,λc k=>s.2 c (i c k)⟩ ⟨by lia,λc k=>s.2 c (n c k)⟩ (by unfold LIM;lia);cases e:(lb a&&okS b);rw[e]at d;exact .inl ⟨_,Ep rfl d⟩;rw[e]at d;obtain⟨g,p⟩:=aw _ _▸e;obtain⟨sw,f⟩:=Pw p;have y:=(Cg g).1;have w:a.length+b.length+3<=l.length:=by
   rcases len with z|z;exact z;rw[z]at f;simp at f
  obtain⟨j,lo⟩:=o.put (x:=⟨a.toArray⟩) g sw;have:=Nr (T:=T) L _ (.sh (tx l)) (.sh (.tup [tx a,m,tx b])) j (λx q=>h x (.tail _ q)) (by lia);rw[show eK (m7 [2] qt) rdB ((l::L).map tx) [.sh T,.rk 368 ⟨acc,[],[]⟩,s2,s3]=_ from jM (ds:=L.map tx) rfl d];exact this
def Ck(h:g (ds.map Slot.sh++ao (N-ds.length) .no)= .ex c ρ):Fy A N g i ds= .ex c:=by simp[Fy,h]
def Er(s:Sm a):bB [tx a]= .ex 6\/∃r,bB [tx a]= .rk r/\aO r []= .pure (.ok (tx a)):=by
 obtain⟨v,w,B,i⟩:=Ce 10 a;obtain⟨L,z,rfl⟩: ∃L z,v=L++[z]:=⟨_,_,(List.dropLast_concat_getLast w).symm⟩;rw[pL]at i;have u:=xQ (r:=.rk 368 ⟨[],[],[]⟩) (s2:=.no) (s3:=.no) s.sg B;have n:JN L+z.length=a.length:=by rw[<-i];simp[JN,List.length_flatMap]
 have A:OkA []:=⟨List.nodup_nil,λp m=>by cases m⟩;have f: ∀{b:FS},aT (iF (aF cY [aB 0])) (aT (NH 1 368) (aT (vM [2] qt (dS (gH (aB 0) (rK (.str "\n"))) qr (pi (Gi (rK (.int 1))))) rdB) b)) [.sh (tx a),.no,.no,.no]=aT (eK (m7 [2] qt) rdB (L.map tx)) b [.sh (tx a),.rk 368 ⟨[],[],[]⟩,.no,.no]:=λ{b}=>
  (aE (dC ((bF (x:=tx a) rfl).trans (pK _)))).trans ((aE (ρ':=[.sh (tx a),.rk 368 ⟨[],[],[]⟩,.no,.no]) rfl).trans (by unfold aT;rw[mJ (.inr u)]))
 rcases Nr (T:=tx a) L [] .no .no A (λl ml c y=>s.2 c (by rw[<-i];exact gy _ (List.mem_flatMap.2 ⟨l,ml,gy _ y⟩))) (by have:=s.1;simp;lia)with ⟨C,e⟩|⟨d,s2,s3,e,o,l⟩
 .exact .inl (Ck (f.trans (fM e)))
 .obtain⟨h,j,t⟩:=Nq o;have E:h.length=d.length:=by have:=congrArg o6 j;simpa[(jK _).length_eq]using this
  have q:aO ⟨d,[],[]⟩ []= .pure (.ok (tx (txt h))):=gX j.symm (by simp;lia) t (by lia);have sg:=xP (λe m=>(t e m).1) (by lia);have g:bR .NotEq (dQ 368 1 aO []) (aB 0) [.sh (tx a),.rk 368 ⟨d,[],[]⟩,s2,s3]= .ok (.bl (!decide (txt h=a))):=
   (aW (El (r:=⟨d,[],[]⟩) rfl q) (show aB 0 _= .ok (tx a) from rfl)).trans (yR sg s.sg)
  by_cases z:txt h=a
  .rw[decide_eq_true z]at g;exact .inr ⟨_,Ch (f.trans ((aE e).trans ((aE ((cU g).trans rfl)).trans rfl))) rfl,by rw[<-z];exact q⟩
  .rw[decide_eq_false z]at g;exact .inl (Ck (f.trans ((aE e).trans (fM ((eG g).trans rfl)))))
def Tx(n:Nat)(r:R):Prop:= ∃y,r= .ok (tx y)/\Sg y/\y.length<=n
def To(n:Nat)(o:Out):Prop:= ∃y,o= .rt (.ok (tx y))/\Sg y/\y.length<=n
section
variable{n k i:Nat}{a b f:F}{s:FS}{ρ:Rho}{d:D}
def Tx.add:Tx n (a ρ)->Tx k (b ρ)->n+k<=900->Tx (n+k) (aR .Add a b ρ)
 |⟨x,e,s,l⟩,⟨y,e',s',l'⟩,h=>⟨x++y,JM e e' s s',s.app s' (by lia),by simp;lia⟩
def Tx.lo(hf:f ρ= .ok (.int (i:Nat))):Tx n (a ρ)->Tx n (dS a (pi f) qr ρ)
 |⟨x,e,s,l⟩=>⟨x.drop i,by
  have:dS a (pi f) qr ρ=vI (tx x) (pi (i:Nat)) qr:=by simp[dS,e,R.bind,hf,vJ]
  rw[this,sE s.lim,FQ],s.drop i,by simp;lia⟩
def Tx.hi(hf:f ρ= .ok (.int (i:Nat))):Tx n (a ρ)->Tx n (dS a qr (pi f) ρ)
 |⟨x,e,s,l⟩=>⟨x.take i,by
  have:dS a qr (pi f) ρ=vI (tx x) qr (pi (i:Nat)):=by simp[dS,e,R.bind,hf,vJ]
  rw[this,sE s.lim,FP],s.take i,by simp;lia⟩
def Tx.to(h:k<=n):Tx k (a ρ)->To n (dM a ρ)|⟨y,e,s,l⟩=>⟨y,aS e,s,by lia⟩
def To.if(hc: ∃q,c ρ= .ok (.bl q))(h:k<=n)(ha:Tx k (a ρ))(hb:To n (s ρ)):To n (aT (sIf c (dM a) bC) s ρ):=by obtain⟨q,e⟩:=hc;rcases q with _|_;obtain⟨y,x,r⟩:=hb;exact⟨y,(aE ((cU e).trans rfl)).trans x,r⟩;obtain⟨y,x,r⟩:=ha.to h;exact⟨y,cR ((eG e).trans x),r⟩
theorem To.set(h:a ρ= .ok d):To n (s (ρ.set i (.sh d)))->To n (aT (fL i a) s ρ)|⟨y,x,r⟩=>⟨y,(aE (cJ h)).trans x,r⟩
def To.fn{ds:L1 D}:To n (s (ds.map Slot.sh++ao (k-ds.length) .no))->Tx n (fnOf k s ds)|⟨y,x,r⟩=>⟨y,aP x,r⟩
def Tx.pick(h: ∀f∈fs, ∃k,k<=n/\Tx k (f ρ))(hg:g ρ= .ok (.int (j:Nat)))(hj:j<fs.length):Tx n (rIx (gZ fs) g ρ):=by
 obtain⟨b,e,l,m⟩: ∃b:L1 (L1 Nat),args fs ρ= .ok (b.map tx)/\b.length=fs.length/\∀y∈b,Sg y/\y.length<=n:=by
  clear hj;induction fs with
  |nil=>exact⟨[],rfl,rfl,λy m=>by cases m⟩
  |cons f fs d=>
   obtain⟨b,e,l,m⟩:=d λg m=>h g (.tail _ m);obtain⟨k,hk,y,x,s,t⟩:=h f (.head _);exact⟨y::b,by simp[args,e,x,RA.cons],by simp[l],ib.2 ⟨⟨s,by lia⟩,m⟩⟩
 obtain⟨y,c⟩: ∃y,b[j]? =pi y:=⟨_,bd (l▸hj)⟩;exact⟨y,(rX (show gZ fs ρ= .ow (b.map tx) by simp[gZ,lJ,e,RA.then]) hg).trans (f8 (by rw[jj,c];rfl)),m y (List.mem_of_getElem? c)⟩
def sL(h:f ρ= .ok (.int (i:Nat))):aR .Add f (rK (.int 1)) ρ= .ok (.int ((i+1:Nat):Int)):=(aU h rfl).trans rfl
def sM(ha:a ρ= .ok (.int x))(hb:b ρ= .ok (.int (j:Nat)))(h:0<j): ∃n,aR .Mod a b ρ= .ok (.int (n:Nat))/\n<j:=by have c:=Int.emod_nonneg x (b:=(j:Int)) (by lia);have d:=Int.emod_lt_of_pos x (b:=(j:Int)) (by lia);exact⟨(x % j).toNat,(aU ha hb).trans ((mI (by lia)).trans (by rw[iq c])),by lia⟩
def Cl(ha:a ρ= .ok (.int x))(h:0<m)(l:m<1073741824):aR .FloorDiv a (rK (.int m)) ρ= .ok (.int (x/m)):=(aU ha rfl).trans (uP h l)
end
def ssp:(D.str " ")=tx [32]:=by kernel_rfl
def Q6:(D.str "")=tx []:=by kernel_rfl
def Nt(h:Sg x)(hx:x.length<=104)(hz:Sg z)(z0:0<z.length)c:Tx 240 (eI [tx x,.int c,tx z]):=by refine To.fn ?_;obtain⟨i,e,_⟩:=sM (a:=aB 1) (x:=c) (ρ:=[.sh (tx x),.sh (.int c),.sh (tx z),.no,.no,.no,.no]) rfl (sL ((bF (a:=aC 0) (x:=tx x) rfl).trans (u6 h))) (by lia);refine To.set e ?_;obtain⟨q,e,t⟩:=sM (ρ:=[.sh (tx x),.sh (.int c),.sh (tx z),.sh (.int (i:Nat)),.no,.no,.no]) (Cl (a:=aB 1) (x:=c) (m:=1000) rfl (by decide) (by decide)) ((bF (a:=aC 2) (x:=tx z) rfl).trans (u6 hz)) z0;obtain⟨g,l⟩: ∃g,z[q]? =pi g:=⟨_,bd t⟩;refine To.set ((cV (x:=tx z) rfl e).trans (Px hz.lim l)) ?_;obtain⟨w,e,_⟩:=sM (ρ:=[.sh (tx x),.sh (.int c),.sh (tx z),.sh (.int (i:Nat)),.sh (tx [g]),.no,.no]) (Cl (a:=aB 1) (x:=c) (m:=7) rfl (by decide) (by decide)) (b:=rK (.int 9)) (j:=9) rfl (by decide);refine To.set (d:=.int ((i+1+w:Nat):Int)) ((aU (sL (i:=i) rfl) e).trans rfl) ?_;obtain⟨y,e,_⟩:=sM (ρ:=[.sh (tx x),.sh (.int c),.sh (tx z),.sh (.int (i:Nat)),.sh (tx [g]),.sh (.int ((i+1+w:Nat):Int)),.no]) (Cl (a:=aB 1) (x:=c) (m:=100000) rfl (by decide) (by decide)) (b:=rK (.int 8)) (j:=8) rfl (by decide);refine To.set e ?_;obtain⟨j,e,s⟩:=sM (ρ:=[.sh (tx x),.sh (.int c),.sh (tx z),.sh (.int (i:Nat)),.sh (tx [g]),.sh (.int ((i+1+w:Nat):Int)),.sh (.int (y:Nat))]) (a:=aB 1) (x:=c) rfl (b:=rK (.int 5)) (j:=5) rfl (by decide);generalize i+1+w=o at e ⊢;have X: ∀{ρ:Rho} {f:F},f ρ= .ok (tx x)->Tx 104 (f ρ):=λe=>⟨x,e,h,hx⟩;have C: ∀{ρ:Rho} {f:F},f ρ= .ok (tx [g])->Tx 1 (f ρ):=λe=>⟨_,e,hz.one (List.mem_of_getElem? l),aj _⟩;have S: ∀{ρ:Rho},Tx 1 (rK (.str " ") ρ):=⟨_,congrArg R.ok ssp,⟨by decide,by decide⟩,aj _⟩;have A:=((X rfl).hi (a:=aC 0) (f:=aB 3) (ρ:=[.sh (tx x),.sh (.int c),.sh (tx z),.sh (.int (i:Nat)),.sh (tx [g]),.sh (.int (o:Nat)),.sh (.int (y:Nat))]) (i:=i) rfl);have B:=((X rfl).lo (a:=aC 0) (f:=aB 3) (ρ:=[.sh (tx x),.sh (.int c),.sh (tx z),.sh (.int (i:Nat)),.sh (tx [g]),.sh (.int (o:Nat)),.sh (.int (y:Nat))]) (i:=i) rfl);have r:=((X rfl).lo (a:=aC 0) (ρ:=[.sh (tx x),.sh (.int c),.sh (tx z),.sh (.int (i:Nat)),.sh (tx [g]),.sh (.int (o:Nat)),.sh (.int (y:Nat))]) (sL (f:=aB 3) (i:=i) rfl));have p:=A.add (C (f:=aB 4) rfl) (by decide);have n:=X (f:=aB 0) (ρ:=[.sh (tx x),.sh (.int c),.sh (tx z),.sh (.int (i:Nat)),.sh (tx [g]),.sh (.int (o:Nat)),.sh (.int (y:Nat))]) rfl;refine To.if ⟨_,rfl⟩ (by decide) (p.add B (by decide)) (To.if ⟨_,rfl⟩ (by decide) (A.add r (by decide)) (To.if ⟨_,rfl⟩ (by decide) (p.add r (by decide)) (To.if ⟨_,rfl⟩ (by decide) (A.add ((X rfl).lo (i:=o) rfl) (by decide)) (To.if ⟨_,rfl⟩ (by decide) (((X rfl).hi (i:=o) rfl).add B (by decide)) (Tx.to (k:=208) (by decide) (Tx.pick ?_ e s))))));simp only[ib];exact⟨⟨_,by decide,n.add S (by decide)⟩,⟨_,by decide,S.add n (by decide)⟩,⟨_,by decide,B.add A (by decide)⟩,⟨0,by decide,[],congrArg R.ok Q6,⟨by decide,by decide⟩,by decide⟩,⟨_,by decide,n.add n (by decide)⟩,λf m=>by cases m⟩
def Tx.eq(h:r=r'):Tx n r'->Tx n r:=h▸id
def Rw(l:L1 Nat):Prop:=l.length<=25/\∀c∈l,c<0x110000
theorem Cm: ∀{L},(∀x∈L,Rw x)->(jn [10] L).length<=26*L.length/\L.flatten.length<=25*L.length/\∀c∈jn [10] L,c<0x110000
 |[],_=>⟨by simp[jn],by simp,λc m=>by cases m⟩
 |[x],h=>⟨by have:=(h x (.head _)).1;simp[jn];lia,by have:=(h x (.head _)).1;simp;lia,(h x (.head _)).2⟩
 |x::y::r,h=>by
  obtain⟨e,f,d⟩:=Cm (L:=y::r) λz m=>h z (.tail _ m);have b:=h x (.head _);have g:=b.1;rw[j8];refine⟨by simp at e ⊢;lia,by simp at f ⊢;lia,gc.2 ⟨b.2,ib.2 ⟨by decide,d⟩⟩⟩
def PH:(oq "\n")=⟨[10].toArray⟩:=by kernel_rfl
section
variable{a b f g:F}{ρ:Rho}{L M:L1 (L1 Nat)}{i j:Nat}{P:Out->Prop}{s:FS}
def mO(h: ∀x∈L,Rw x)(n:L.length<=8)(e:f ρ= .ow (L.map tx)):Tx 240 (lK "\n" f ρ):=by obtain⟨c,d,b⟩:=Cm h;refine⟨jn [10] L,?_,⟨by lia,b⟩,by lia⟩;show(f ρ).bind (zK (oq "\n"))=_;rw[e,PH];exact u3 [10] L (Cc (by simp only[bq,lj];lia))
def NP(h:a ρ= .ow (L.map tx))(k:b ρ= .ow (M.map tx))(l:L.length+M.length<=100):aR .Add a b ρ= .ow ((L++M).map tx):=by
 have:aR .Add a b ρ=if(L.map tx).length+(M.map tx).length<=LIM then R.ow (L.map tx++M.map tx)else .bad:=by simp[aR,h,k,R.bind,j9]
 rw[this,if_pos (by unfold LIM;simp;lia),ll]
def u9(e:a ρ= .ok (.lst (L.map tx)))(hf:f ρ= .ok (.int (i:Nat))):dS a qr (pi f) ρ= .ow ((L.take i).map tx):=by
 have:dS a qr (pi f) ρ= .ow (x6 (L.map tx) qr (pi (i:Nat))):=by simp[dS,e,R.bind,hf,vJ,vI]
 rw[this,show x6 (L.map tx) qr (pi (i:Nat))=(L.map tx).take i from B8 _ i,List.map_take]
def vA(e:a ρ= .ok (.lst (L.map tx)))(hf:f ρ= .ok (.int (i:Nat))):dS a (pi f) qr ρ= .ow ((L.drop i).map tx):=by
 have:dS a (pi f) qr ρ= .ow (x6 (L.map tx) (pi (i:Nat)) qr):=by simp[dS,e,R.bind,hf,vJ,vI]
 rw[this,show x6 (L.map tx) (pi (i:Nat)) qr=(L.map tx).drop i from B9 _ i,List.map_drop]
def Nu(e:a ρ= .ok (.lst (L.map tx)))(hf:f ρ= .ok (.int (i:Nat)))(hg:g ρ= .ok (.int ((i+2:Nat):Int)))(k: ∀M:L1 (L1 Nat),M.length<=2->(∀x∈M,x∈L)->P (s (ρ.set j (.sh (.lst (M.map tx)))))):P (aT (fL j (dS a (pi f) (pi g))) s ρ):=by refine Cv (uO (d:=x6 (L.map tx) (pi (i:Nat)) (pi ((i+2:Nat):Int))) (by simp[dS,e,R.bind,hf,hg,vJ,vI])) ?_;unfold x6;rw[<-List.map_drop, <-List.map_take];refine k _ ?_ λx m=>ia (h8 m);simp only[cH];rw[if_neg (by lia),if_neg (by lia),kc];lia
def Es(he:Tx n (f ρ))(h:ρ[i]? =pi (.ow xs))(hl:xs.length<LIM)(k: ∀y,Sg y->y.length<=n->P (s (ρ.set i (.ow (xs++[tx y]))))):P (aT (CM i f) s ρ):=by obtain⟨y,e,g,l⟩:=he;exact Cv (by simp[CM,h,e,fC,hl]) (k y g l)
def Q7(e:a ρ= .ok (.lst (L.map tx))):KA a ρ= .ow (L.reverse.map tx):=by simp[KA,e,R.bind,JE]
end
set_option maxHeartbeats 0 in
def Jx s0 s1 s2 s3 s4 s5 s6 s7 s8 s9 s10 s11 s12 s13 s14 s15:MB [s0,s1,s2,s3,s4,s5,s6,s7,s8,s9,s10,s11,s12,s13,s14,s15]= .rt (.ok (.bl qt)):=by kernel_rfl
abbrev stA(ns:L1 Int)(r:Rk)(h:Row)(s3 s4 s5:Slot):Rho:=[.sh (Sc ns),.rk 368 r,.sh (dZ h),s3,s4,s5,.no,.no,.no,.no,.no,.no,.no,.no,.no,.no]
abbrev stB(ns:L1 Int)(r:Rk)(d:D)(s3 s4 s5:Slot)(t:L1 Nat)(L:L1 (L1 Nat))(xs:L1 D)(s9 s10 s11:Slot):Rho:=[.sh (Sc ns),.rk 368 r,.sh d,s3,s4,s5,.sh (tx t),.sh (.lst (L.map tx)),.ow xs,s9,s10,s11,.no,.no,.no,.no]
abbrev stC(s0 s1 s2 s3 s4 s5:Slot)(t:L1 Nat)(s7 s8 s9 s10 s11 s12 s14:Slot):Rho:=[s0,s1,s2,s3,s4,s5,.sh (tx t),s7,s8,s9,s10,s11,s12,.no,s14,.no]
def Et(e0:ρ[i]? =pi (.rk A r))(ea:args fs ρ= .ok ds)(em:M r ds= .chg d r'):Il A i M fs ρ= .nx (ρ.set i (.rk A r')):=by simp[Il,rP,e0,ea,em]
def Cn(e0:ρ[i]? =pi (.rk A r))(ea:args fs ρ= .ok ds)(em:M r ds= .pure (.ok d)):Il A i M fs ρ= .nx ρ:=by simp[Il,rP,e0,ea,em,fC]
def Eu(he:e ρ= .ok d):rR i j A e ρ= .nx ((ρ.set i (.rk A rk0)).set j (.sh d)):=by simp[rR,fC,he]
def PJ c k(h:aB 3 ρ= .ok (.int (k:Nat))):aR .Add (rK (.int (c:Nat))) (aR .Mult (rK (.int 60)) (aB 3)) ρ= .ok (.int ((c+60*k:Nat):Int)):=by refine(aU (x:=.int (c:Nat)) (y:=.int (60*(k:Nat))) rfl ((aU (x:=.int 60) (y:=.int (k:Nat)) rfl h).trans (My rfl))).trans ?_;simp[j9,fF]
section
variable{ns:L1 Int}{r:Rk}{h:Row}{d:D}{s0 s1 s2 s3 s4 s5 s7 s8 s9 s10 s11 s12 s14:Slot}{t:L1 Nat}{L:L1 (L1 Nat)}
def Ev k(o:OkH r.held)(oh:OkH h)(q:Eqv r.held h)(ld:r.done.length<100): ∃r' h' s4' s5',Pe (stA ns r h (.sh (.int (k:Nat))) s4 s5)= .nx (stA ns r' h' (.sh (.int (k:Nat))) s4' s5')/\OkH r'.held/\OkH h'/\Eqv r'.held h'/\r'.done.length<=r.done.length+1:=by obtain⟨d,m,u⟩:=Jq ns (100+60*k) (h.map (·.1)) (h.map (·.2));obtain⟨h',b,p,t,A,v⟩:=Po r o oh q (by lia) u;have j:=cJ (i:=4) ((dP (f:=eV) (a:=aB 0) (c:=aB 2) (ρ:=stA ns r h (.sh (.int (k:Nat))) s4 s5) (x:=Sc ns) (z:=dZ h) rfl (PJ 100 k rfl) rfl).trans m);have l:iE [2,5] (aF aX [aB 2,aB 4]) (stA ns r h (.sh (.int (k:Nat))) (.sh d) s5)= .nx (stA ns r h' (.sh (.int (k:Nat))) (.sh d) (.sh b)):=mD (ds:=[dZ h',b]) ((dD (x:=dZ h) (y:=d) rfl rfl).trans p) rfl;rcases t with ⟨e,rfl⟩|⟨n,s,e,g,w⟩;exact⟨r,h',_,_,(aE j).trans ((aE l).trans ((aE (Cn (r:=r) (ds:=[d]) rfl rfl e)).trans rfl)),o,oh,q,o3 _⟩;exact⟨⟨n,r.done++[s],[]⟩,h',_,_,(aE j).trans ((aE l).trans ((aE (Et (r:=r) (ds:=[d]) rfl rfl e)).trans rfl)),g,v,w,by simp⟩
theorem xR: ∀(l:L1 Nat) r (h:Row) s3 s4 s5,OkH r.held->OkH h->Eqv r.held h->r.done.length+l.length<100->
  ∃r' h' s3' s4' s5',eK (m7 [3] qt) Pe (l.map λ(i:Nat)=>D.int (i:Int)) (stA ns r h s3 s4 s5)= .nx (stA ns r' h' s3' s4' s5')/\OkH r'.held/\OkH h'/\Eqv r'.held h'
 |[],r,h,s3,s4,s5,o,oh,q,_=>⟨r,h,s3,s4,s5,rfl,o,oh,q⟩
 |k::l,r,h,s3,s4,s5,o,oh,q,hl=>by
  simp only[bq]at hl;obtain⟨m,f,s,d,e,n,b,q1,t⟩:=Ev (ns:=ns) (s4:=s4) (s5:=s5) k o oh q (by lia);obtain⟨r',h',g,c,j,p,z⟩:=xR l m f (.sh (.int (k:Nat))) s d n b q1 (by lia);exact⟨r',h',g,c,j,(jM (ρ1:=stA ns r h (.sh (.int (k:Nat))) s4 s5) rfl e).trans p,z⟩
def Okd(d:D):Prop:= ∃a,d=tx a/\Sm a
noncomputable def SG:L1 Nat:=[48,49,50,51,58,32,61,97,98,10]
def Q8:(D.str "0123: =ab\n")=tx SG:=by kernel_rfl
def PK:Sg SG:=⟨by decide,by decide⟩
def Jy c k(h:aB 3 ρ= .ok (.int (k:Nat))):aR .Add (rK (.int (c:Nat))) (aB 3) ρ= .ok (.int ((c+k:Nat):Int)):=(aU (x:=.int (c:Nat)) rfl h).trans rfl
abbrev SmO(ns:L1 Int)(r:Rk)(d:D)(s3 s4 s5:Slot)(t:L1 Nat)(L:L1 (L1 Nat))(n:Nat)(o:Out):Prop:= ∃xs' s9' s10' s11',o= .nx (stB ns r d s3 s4 s5 t L xs' s9' s10' s11')/\xs'.length=n/\∀d∈xs',Okd d
def Co k(st:Sg t)(lt:t.length<=104)(L0:0<L.length)(L5:L.length<=5)(hr: ∀x∈L,Rw x)(hx:xs.length<=1000)(hd: ∀d∈xs,Okd d):
  SmO ns r d (.sh (.int (k:Nat))) s4 s5 t L (xs.length+4) (IS (stB ns r d (.sh (.int (k:Nat))) s4 s5 t L xs s9 s10 s11)):=by
 obtain⟨p,g,_⟩:=cO ns (1720+k) (m:=999983) (by decide);obtain⟨q,v,G⟩:=cO ns (1740+k) L0;have b: ∀n, ∀x∈L.take n,Rw x:=λn x m=>hr x (h8 m);have dr: ∀n, ∀x∈L.drop n,Rw x:=λn x m=>hr x (ia m);have ok: ∀{y:L1 Nat},Sg y->y.length<=240->Okd (tx y):=λs l=>⟨_,rfl,l,s.2⟩;refine Cv (cJ ((aU ((aU ((dD (x:=Sc ns) rfl (Jy 1700 k rfl)).trans (BE ns _)) rfl).trans (BC (show sml 7919=qt from rfl))) ((dP (x:=Sc ns) (z:=.int ((999983:Nat):Int)) rfl (Jy 1720 k rfl) rfl).trans g)).trans rfl)) ?_;refine Es (xs:=xs) (Tx.eq (dP (x:=tx t) rfl rfl (congrArg R.ok Q8)) (Nt st lt PK (by decide) _)) rfl (by unfold LIM;lia) λH e w=>?_;refine Cv (cJ ((dP (x:=Sc ns) (z:=.int (L.length:Nat)) rfl (Jy 1740 k rfl) ((bF (x:=.lst (L.map tx)) rfl).trans (show R.ok (.int ((L.map tx).length:Nat))=_ by rw[aq]))).trans v)) ?_;refine Nu (L:=L) (i:=q) rfl rfl rfl λM C f=>?_;refine Es (mO (L:=L.take q++L.drop (q+1)) (gc.2 ⟨b _,dr _⟩) (by simp;lia) (NP (u9 rfl rfl) (vA rfl (sL rfl)) (by simp;lia))) rfl (by unfold LIM;simp;lia) λB o c=>?_;refine Es (mO (L:=L.take (q+1)++L.drop q) (gc.2 ⟨b _,dr _⟩) (by simp;lia) (NP (u9 rfl (sL rfl)) (vA rfl rfl) (by simp;lia))) rfl (by unfold LIM;simp;lia) λE u A=>?_;refine Es (mO (L:=L.take q++M.reverse++L.drop (q+2)) (gc.2 ⟨gc.2 ⟨b _,λx m=>hr x (f x (List.mem_reverse.1 m))⟩,dr _⟩) (by simp;lia) (NP (NP (u9 rfl rfl) (Q7 rfl) (by simp;lia)) (vA rfl ((aU (x:=.int (q:Nat)) rfl rfl).trans rfl)) (by simp;lia))) rfl (by unfold LIM;simp;lia) λI j h=>?_;refine⟨_,_,_,_,rfl,by simp,?_⟩;simp only[gc,List.forall_mem_singleton];exact⟨⟨⟨⟨hd,ok e w⟩,ok o c⟩,ok u A⟩,ok j h⟩
theorem sN(st:Sg t)(lt:t.length<=104)(L0:0<L.length)(L5:L.length<=5)(hr: ∀x∈L,Rw x): ∀(l:L1 Nat) xs s3 s9 s10 s11,xs.length+4*l.length<=1000->(∀d∈xs,Okd d)->
  ∃xs' s3' s9' s10' s11',eK (m7 [3] qt) IS (l.map λ(i:Nat)=>D.int (i:Int)) (stB ns r d s3 s4 s5 t L xs s9 s10 s11)= .nx (stB ns r d s3' s4 s5 t L xs' s9' s10' s11')/\∀d∈xs',Okd d
 |[],xs,s3,s9,s10,s11,_,hd=>⟨xs,s3,s9,s10,s11,rfl,hd⟩
 |k::l,xs,s3,s9,s10,s11,hl,hd=>by
  simp only[bq]at hl;obtain⟨j,n,f,b,e,s,g⟩:=Co (ns:=ns) (r:=r) (d:=d) (s4:=s4) (s5:=s5) (s9:=s9) (s10:=s10) (s11:=s11) k st lt L0 L5 hr (by lia) hd;obtain⟨m,o,p,h,c,q,z⟩:=sN st lt L0 L5 hr l j (.sh (.int (k:Nat))) n f b (by lia) g;exact⟨m,o,p,h,c,(jM (ρ1:=stB ns r d (.sh (.int (k:Nat))) s4 s5 t L xs s9 s10 s11) rfl e).trans q,z⟩
noncomputable def NT:L1 Nat:=[110,111,32,116,101,120,116]
def Qr:(D.str "no text")=tx NT:=by kernel_rfl
def Jz:Sg NT:=⟨by decide,by decide⟩
def Q9:aM [.exc 6]= .ok (.str "no text"):=by kernel_rfl
def Cp(st:Sg t)(ht:bB [tx t]≠ .ex 6)(sa:Sm a): ∃s12',D5 (stC s0 s1 s2 s3 s4 s5 t s7 s8 s9 s10 s11 s12 (.sh (tx a)))= .nx (stC s0 s1 s2 s3 s4 s5 t s7 s8 s9 s10 s11 s12' (.sh (tx a))):=by
 have d:mB aM [14] (l9 aO bB [aB 0]) (stC s0 s1 s2 s3 s4 s5 t s7 s8 s9 s10 s11 s12 (.sh (tx a)))=gN aM (l9 aO bB [aB 0] [.sh (tx a)]):=rfl;rcases Er sa with h|⟨r,h,h2⟩
 .have b:gN aM (l9 aO bB [aB 0] [.sh (tx a)])= .ok (tx NT):=by
   simp[l9,args,aB,RA.cons,h,gN,Q9,Qr]
  have e:a≠t:=λz=>ht (z▸h);refine⟨.sh (tx NT),(aE (cJ (d.trans b))).trans ((aE ((cU ?_).trans rfl)).trans rfl)⟩;have c:=(aW (op:=.NotEq) (show aB 12 (stC s0 s1 s2 s3 s4 s5 t s7 s8 s9 s10 s11 (.sh (tx NT)) (.sh (tx a)))= .ok (tx NT) from rfl) (show aB 14 _= .ok (tx a) from rfl)).trans (yR Jz sa.sg);by_cases z:NT=a
  .exact xC (c.trans (by rw[decide_eq_true z];rfl))
  .refine(rY (c.trans (by rw[decide_eq_false z];rfl))).trans ((oZ ?_).trans ?_)
   .exact(aW (x:=tx NT) (y:=tx NT) rfl (congrArg R.ok Qr)).trans ((yR Jz Jz).trans (by simp))
   .exact(aW (x:=tx a) (y:=tx t) rfl rfl).trans ((Pp sa.sg st).trans (by rw[decide_eq_false e]))
 .have b:gN aM (l9 aO bB [aB 0] [.sh (tx a)])= .ok (tx a):=by
   simp[l9,args,aB,RA.cons,h,h2,RM.told,gN]
  refine⟨.sh (tx a),(aE (cJ (d.trans b))).trans ((aE ((cU (xC ?_)).trans rfl)).trans rfl)⟩;exact(aW (x:=tx a) (y:=tx a) rfl rfl).trans ((yR sa.sg sa.sg).trans (by simp))
theorem sO(st:Sg t)(ht:bB [tx t]≠ .ex 6): ∀ds s12 s14,(∀d∈ds,Okd d)->∃s12' s14',eK (m7 [14] qt) D5 ds (stC s0 s1 s2 s3 s4 s5 t s7 s8 s9 s10 s11 s12 s14)= .nx (stC s0 s1 s2 s3 s4 s5 t s7 s8 s9 s10 s11 s12' s14')
 |[],s12,s14,_=>⟨s12,s14,rfl⟩
 |d::ds,s12,s14,h=>by
  obtain⟨a,rfl,sa⟩:=h d (.head _);obtain⟨x,e⟩:=Cp (s0:=s0) (s1:=s1) (s2:=s2) (s3:=s3) (s4:=s4) (s5:=s5) (s7:=s7) (s8:=s8) (s9:=s9) (s10:=s10) (s11:=s11) (s12:=s12) st ht sa;obtain⟨y,z,b⟩:=sO st ht ds x (.sh (tx a)) λd m=>h d (.tail _ m);exact⟨y,z,(jM (ρ1:=stC s0 s1 s2 s3 s4 s5 t s7 s8 s9 s10 s11 s12 (.sh (tx a))) rfl e).trans b⟩
def Ew(hf:f ρ= .ow xs)(hg:g ρ= .ow ys):Bw i j f g ρ= .nx ((ρ.set i (.sh (.lst xs))).set j (.ow ys)):=by simp[Bw,hf,hg,fC]
end
def PM(ns:L1 Int):MC ([D.lst (ns.map D.int)].map SK.Slot.sh++ao 15 .no)= .rt (.ok (.bl qt)):=by
 show aT _ _ [.sh (Sc ns),.no,.no,.no,.no,.no,.no,.no,.no,.no,.no,.no,.no,.no,.no,.no]=_;refine(aE (ρ':=stA ns ⟨[],[],[]⟩ [] .no .no .no) (Eu rfl)).trans ?_;have K:OkH []:=⟨List.nodup_nil,λp m=>by cases m⟩;obtain⟨r,h,M,t,u,e,o,X,q⟩:=xR (ns:=ns) (pb 7) ⟨[],[],[]⟩ [] .no .no .no K K (λ_=>rfl) (by simp);refine(aE ((mJ (ds:=x8 7) (.inl (jH (n:=7) rfl (by decide)))).trans e)).trans ?_;obtain⟨f,w,J⟩:=Nq o.a;have U:=pH o;have W:f.length=r.held.length:=by have:=congrArg o6 w;simpa[(jK _).length_eq]using this
 have g: ∀e∈f,yS e:=λe m=>(J e m).1;have v:=xP g (by lia);have lt:(txt f).length<=104:=by have:=u8 g;lia
 have O:aO r []= .pure (.ok (tx (txt f))):=gX w.symm (by lia) J (by lia);have S:qg ⟨(txt f).toArray⟩ ⟨#[10]⟩=(f.map ln++[[]]).map λ(l:L1 Nat)=>(⟨l.toArray⟩:Str):=sJ g;have G:gJ (f.map lbl)=f.map lbl:=by
  rw[w];exact qi.eq_of_pairwise (λa b _ _ x y=>rF y x) (fX _) (fX _) (fP _)
 have hk:=sK g (by rw[w];exact(jK _).nodup_iff.2 o.1) G (by lia);refine(aE (cJ (i:=6) (d:=tx (txt f)) (El (r:=r) rfl O))).trans ?_;refine(aE (ρ':=stB ns r (dZ h) M t u (txt f) (f.map ln++[[]]) [tx (txt f)] .no .no .no) ((Ew (Cj v S) rfl).trans rfl)).trans ?_;obtain⟨A,E,B,j,s,N,T⟩:=sN (ns:=ns) (r:=r) (d:=dZ h) (s4:=t) (s5:=u) (L:=f.map ln++[[]]) v lt (by simp) (by simp;lia) (λx m=>by
  rcases k6.1 m with m|m;obtain⟨e,I,rfl⟩:=au.1 m;exact⟨(yT (g e I)).2,(yT (g e I)).1.2⟩;rw[ja.1 m];exact⟨by simp,λc m=>by cases m⟩) (pb 4) [tx (txt f)] M .no .no .no (by simp) λd m=>by
  rw[ja.1 m];exact⟨_,rfl,by lia,v.2⟩
 refine(aE ((mJ (ds:=x8 4) (.inl (jH (n:=4) rfl (by decide)))).trans N)).trans ?_;obtain⟨H,C,Q⟩:=sO (s0:=.sh (Sc ns)) (s1:=.rk 368 r) (s2:=.sh (dZ h)) (s3:=E) (s4:=t) (s5:=u) (s7:=.sh (.lst ((f.map ln++[[]]).map tx))) (s8:=.sh (.lst A)) (s9:=B) (s10:=j) (s11:=s) v (by rw[hk];exact λz=>nomatch z) A .no .no T;refine(aE (a:=JF [8] _) (ρ':=stC (.sh (Sc ns)) (.rk 368 r) (.sh (dZ h)) E t u (txt f) (.sh (.lst ((f.map ln++[[]]).map tx))) (.sh (.lst A)) B j s H C) ?_).trans (Jx _ _ _ _ _ _ _ _ _ _ _ _ _ _ _ _);show vM [14] qt (aB 8) D5 (stC (.sh (Sc ns)) (.rk 368 r) (.sh (dZ h)) E t u (txt f) (.sh (.lst ((f.map ln++[[]]).map tx))) (.sh (.lst A)) B j s .no .no)=_;exact(mJ (.inl rfl)).trans Q
open PySem.Spec PyProof.Rows L2 PySem.W
abbrev KK(w:World):nq:=kK w.params
set_option maxHeartbeats 0 in
def sP{l:PySem.W.OpenLaw}{ad}w:AO l.prog w (KK w) ad 224 [("0",.int 0),("1",.int 1),("2",.int 2),("3",.int 3),("4",.int 4)]:=by
 refine⟨by decide,[("0",.int 0 457),("1",.int 1 459),("2",.int 2 461),("3",.int 3 463),("4",.int 4 465)],⟨_,_,_,rfl,⟨rfl,rfl,rfl⟩,rfl,λe b=>?_,?_,by decide+kernel⟩,?_⟩;simp only[List.mem_toArray,av,ki,or_false]at b;rcases b with rfl|rfl|rfl|rfl|rfl<;>exact⟨_,rfl,rfl⟩;repeat (first|exact .nil|refine .cons rfl rfl ?_)
 refine .cons ⟨rfl,.int 0,⟨_,rfl⟩,λG=>by unfold Rep;rfl⟩ ?_;refine .cons ⟨rfl,.int 1,⟨_,rfl⟩,λG=>by unfold Rep;rfl⟩ ?_;refine .cons ⟨rfl,.int 2,⟨_,rfl⟩,λG=>by unfold Rep;rfl⟩ ?_;refine .cons ⟨rfl,.int 3,⟨_,rfl⟩,λG=>by unfold Rep;rfl⟩ ?_;refine .cons ⟨rfl,.int 4,⟨_,rfl⟩,λG=>by unfold Rep;rfl⟩ ?_;exact .nil
noncomputable abbrev ge(x:Str)(g:SK.Gl):Str×SK.Gl:=(x,g)
abbrev xqT:=List (Str×Nat×FM)
abbrev xq1:xqT:=[("set_to",2,bL)]
abbrev xq2:xqT:=("do",3,mQ)::xq1
abbrev xq3:xqT:=("put",2,iT)::xq2
abbrev xq4:xqT:=("switch_of",1,aG)::xq3
abbrev xq5:xqT:=("take",1,e9)::xq4
abbrev xq6:xqT:=("join",4,fA)::xq5
abbrev xq7:xqT:=("turn",1,fR)::xq6
abbrev xq8:xqT:=("labels",0,dY)::xq7
def tbL:L1 (Str×SK.Gl):=[ge "read_rack" (.rmk 368 1 bB),ge "rack_text" (.rfn 368 aO),ge "Rack" (.cls 368 xq8),ge "Rack" (.cls 368 xq7),ge "Rack" (.cls 368 xq6),ge "Rack" (.cls 368 xq5),ge "Rack" (.cls 368 xq4),ge "Rack" (.cls 368 xq3),ge "Rack" (.cls 368 xq2),ge "Rack" (.cls 368 xq1),ge "Rack" (.cls 368 []),ge "_law_spoilt" (.fn 26 3 eI),ge "_law_behind" (.fn 25 2 aX),ge "_law_deed" (.fn 24 3 eV),ge "_law_switch" (.fn 23 3 cZ),ge "_law_odd" (.fn 22 2 gT),ge "_law_setting" (.fn 21 2 bA),ge "_law_pick" (.fn 20 3 aK),ge "_law_cell" (.fn 19 2 d8),ge "joined" (.fn 18 3 eC),ge "check_label" (.fn 17 1 bQ),ge "is_label" (.fn 16 1 d7),ge "read_switch" (.fn 15 1 cN),ge "switch_text" (.fn 14 1 cM),ge "check_text" (.fn 13 1 cY),ge "unlike" (.fn 12 2 iD),ge "either" (.fn 11 2 iC),ge "both" (.fn 10 2 nW),ge "turned" (.fn 9 1 jJ),ge "check_alike" (.fn 8 2 bP),ge "check_switch" (.fn 7 1 aZ),ge "is_switch" (.fn 6 1 cW),ge "how_many_settings" (.fn 5 1 bS),ge "is_row" (.fn 4 3 jI),ge "is_many" (.fn 3 1 fQ),ge "are_whole_below" (.fn 2 2 cE),ge "is_whole_below" (.fn 1 2 bM),ge "is_whole" (.fn 0 1 iB),ge (d6 .dict) (.py .dict),ge (d6 .sorted) (.py .sorted),ge (d6 .all) (.py .all),ge (d6 .sum) (.py .sum),ge (d6 .list) (.py .list),ge (d6 .tuple) (.py .tuple),ge (d6 .str) (.py .str),ge (d6 .bool) (.py .bool),ge (d6 .int) (.py .int),ge (d6 .isin) (.py .isin),ge (d6 .zip) (.py .zip),ge (d6 .range) (.py .range),ge (d6 .len) (.py .len),ge "ValueError" .verr,ge "NoBack" (.exc 9),ge "NoLabel" (.exc 8),ge "NoTerm" (.exc 7),ge "NoText" (.exc 6),ge "NoSums" (.exc 5),ge "Unlike" (.exc 4),ge "NoMove" (.exc 3),ge "NoName" (.exc 2),ge "NoSwitch" (.exc 1),ge "SwitchError" (.exc 0),ge "FIGURES" (.tbl [("0",.int 0),("1",.int 1),("2",.int 2),("3",.int 3),("4",.int 4)]),ge "BETWEEN" (.val (.str " = ")),ge "LONGEST_LABEL" (.val (.int 4)),ge "MOST_NAMES" (.val (.int 4))]
def flL:L1 (Nat×Fn):=[(1,iB),(2,bM),(2,cE),(1,fQ),(3,jI),(1,bS),(1,cW),(1,aZ),(2,bP),(1,jJ),(2,nW),(2,iC),(2,iD),(1,cY),(1,cM),(1,cN),(1,d7),(1,bQ),(3,eC),(2,d8),(3,aK),(2,bA),(2,gT),(3,cZ),(3,eV),(2,aX),(3,eI)]
set_option maxHeartbeats 0 in
def all_mk{l:PySem.W.OpenLaw}(X:(KK w).In h)(G:h.Ns mainGlobals mg)(hfa:mg "law"=pi (.ref fa)):
  ∃ad C Δ rd g k n m cL P1 c P0 params body scope,LawGT l.prog w (KK w) mg fa "law" "_law_did" ad C Δ rd g k n m cL P1 c P0 params body scope:=by
 cases hfa.symm.trans (nj X G (n:="law") (v:=.ref 463) (by kernel_rfl))
 refine⟨(Fh [31,44,56,68,80,92,104,116,128,140] 31 [149,156,161,168,175,182,189,196,203,208,213,218,223,231,236,241,246,253,260,391,398,408,413,403,434,439,458]),⟨tbL,flL,defScope (top 55),aA (defScope (top 55)),zP 50 (defBody (top 55))⟩,Two (TbL 460 ((envOfC "law" (defScope (top 55)) 0 463 (.ref 462)).qual++"<lambda>")) (TbL 441 ((envOfC "_law_did" (defScope (top 52)) 0 446 (.ref 445)).qual++"<lambda>")),⟨rdG [("_law_did",1,bJ)] 368 ⟨tbL,flL,defScope (top 55),aA (defScope (top 55)),zP 50 (defBody (top 55))⟩,"_law_told",aM⟩,MC,38,100,15,462,460,445,441,defArgs (top 55),defBody (top 55),defScope (top 55),?_⟩;refine⟨⟨_,_,_,_,_,_,_,_,_,rfl,λs u=>.of_eq rfl⟩,by kernel_rfl,by kernel_rfl,⟨rfl,by decide,by decide⟩,by kernel_rfl,by kernel_rfl,⟨by kernel_rfl,by kernel_rfl⟩,Mw (by decide),FA,λq b H i j M=>?_,by kernel_rfl,by kernel_rfl,PM⟩
 obtain⟨y,z,N⟩:=M _ (.head _);obtain⟨U,Y,L⟩:=M _ (.tail _ (.head _));have t:PQ l.prog w (KK w) mg b b (Fh [31,44,56,68,80,92,104,116,128,140] 31 [149,156,161,168,175,182,189,196,203,208,213,218,223,231,236,241,246,253,260,391,398,408,413,403,434,439,458]) 0 [] []:=.nil i j (HM (by kernel_rfl) (by kernel_rfl))
 have t:=t.int "MOST_NAMES" 4 360;have t:=t.int "LONGEST_LABEL" 4 493;have t:=t.val "BETWEEN" (d:=.str " = ") (u:=.str " = " 495) (v:=.str " = ") ⟨_,rfl⟩ (λG=>by unfold Rep;rfl)
 have t:=t.tbl "FIGURES" 224 (sP w);have t:=t.exc "SwitchError" 0;have t:=t.exc "NoSwitch" 1;have t:=t.exc "NoName" 2;have t:=t.exc "NoMove" 3;have t:=t.exc "Unlike" 4;have t:=t.exc "NoSums" 5;have t:=t.exc "NoText" 6;have t:=t.exc "NoTerm" 7;have t:=t.exc "NoLabel" 8;have t:=t.exc "NoBack" 9;have t:=t.verr;have t:=t.py .len;have t:=t.py .range;have t:=t.py .zip;have t:=t.py .isin;have t:=t.py .int;have t:=t.py .bool;have t:=t.py .str;have t:=t.py .tuple;have t:=t.py .list;have t:=t.py .sum;have t:=t.py .all;have t:=t.py .sorted;have t:=t.py .dict;have t:=t.add "is_whole" (top 14) 149 ["thing"] 1 iB rfl;have t:=t.add "is_whole_below" (top 15) 156 ["thing","bound"] 2 bM rfl;have t:=t.add "are_whole_below" (top 16) 161 ["things","bound"] 2 cE rfl;have t:=t.add "is_many" (top 17) 168 ["thing"] 1 fQ rfl;have t:=t.add "is_row" (top 18) 175 ["thing","length","bound"] 3 jI rfl;have t:=t.add "how_many_settings" (top 19) 182 ["many"] 1 bS rfl;have t:=t.add "is_switch" (top 21) 189 ["thing"] 1 cW rfl;have t:=t.add "check_switch" (top 22) 196 ["thing"] 1 aZ rfl;have t:=t.add "check_alike" (top 23) 203 ["one","other"] 2 bP rfl;have t:=t.add "turned" (top 24) 208 ["switch"] 1 jJ rfl;have t:=t.add "both" (top 25) 213 ["one","other"] 2 nW rfl;have t:=t.add "either" (top 26) 218 ["one","other"] 2 iC rfl;have t:=t.add "unlike" (top 27) 223 ["one","other"] 2 iD rfl;have t:=t.add "check_text" (top 30) 231 ["thing"] 1 cY rfl;have t:=t.add "switch_text" (top 31) 236 ["switch"] 1 cM rfl;have t:=t.add "read_switch" (top 32) 241 ["text"] 1 cN rfl;have t:=t.add "is_label" (top 36) 246 ["thing"] 1 d7 rfl;have t:=t.add "check_label" (top 37) 253 ["thing"] 1 bQ rfl;have t:=t.add "joined" (top 38) 260 ["word","one","other"] 3 eC rfl;have t:=t.add "_law_cell" (top 43) 391 ["_law_script","_law_k"] 2 d8 rfl;have t:=t.add "_law_pick" (top 44) 398 ["_law_script","_law_k","_law_many"] 3 aK rfl;have t:=t.add "_law_setting" (top 46) 408 ["_law_many","_law_number"] 2 bA rfl;have t:=t.add "_law_odd" (top 47) 413 ["_law_one","_law_other"] 2 gT rfl;have t:=t.add "_law_switch" (top 45) 403 ["_law_script","_law_at","_law_many"] 3 cZ rfl;have t:=t.add "_law_deed" (top 50) 434 ["_law_script","_law_at","_law_known"] 3 eV rfl;have t:=t.add "_law_behind" (top 51) 439 ["_law_known","_law_deed_here"] 2 aX rfl;have t:=t.add "_law_spoilt" (top 54) 458 ["_law_text","_law_cell_here","_law_signs"] 3 eI rfl;have t:=t.rack 368 (Bk (by kernel_rfl) (by kernel_rfl) (by kernel_rfl) (by kernel_rfl) (by kernel_rfl) (by kernel_rfl) (by kernel_rfl))
 have t:=t.met "set_to" "Rack.set_to" (met 39 1) 281 "self" ["label","switch"] 2 bL rfl rfl;have t:=t.met "do" "Rack.do" (met 39 2) 288 "self" ["word","label","switch"] 3 mQ rfl rfl;have t:=t.met "put" "Rack.put" (met 39 3) 295 "self" ["label","switch"] 2 iT rfl rfl;have t:=t.met "switch_of" "Rack.switch_of" (met 39 4) 302 "self" ["label"] 1 aG rfl rfl;have t:=t.met "take" "Rack.take" (met 39 5) 309 "self" ["label"] 1 e9 rfl rfl;have t:=t.met "join" "Rack.join" (met 39 6) 316 "self" ["label","word","one","other"] 4 fA rfl rfl;have t:=t.met "turn" "Rack.turn" (met 39 7) 323 "self" ["label"] 1 fR rfl rfl;have t:=t.met "labels" "Rack.labels" (met 39 8) 330 "self" [] 0 dY rfl rfl;have J:=lH (K:=KK w) (x:="__init__") (qual:="Rack.__init__") (st:=met 39 0) (f:=274) rfl (by kernel_rfl) (by kernel_rfl)
 have o:=J.binds (ps:=["self"]) (λ_ _ _ _ _ _ r p=>hW rfl (by decide) p)
 have t:=t.rfn "rack_text" (top 40) 377 "rack" aO rfl rfl;have t:=t.rmk (λA ms e=>by cases (show(pi (SK.Gl.cls 368 xq8):L7 SK.Gl)=pi (SK.Gl.cls A ms) from e);exact⟨274,1,_,_,by decide,⟨by kernel_rfl,by kernel_rfl,by kernel_rfl,by kernel_rfl⟩,Fr (k:=0) (self:="self") (Bk (by kernel_rfl) (by kernel_rfl) (by kernel_rfl) (by kernel_rfl) (by kernel_rfl) (by kernel_rfl) (by kernel_rfl)) J (by kernel_rfl) ⟨_,_,_,_,_,_,_,_,_,_,_,_,rfl⟩,o⟩) "read_rack" (top 41) 384 ["text"] 1 368 bB rfl
 have S:=lH (K:=KK w) (x:="_law_class") (qual:="_law_class") (st:=top 48) (f:=420) rfl (by kernel_rfl) (by kernel_rfl)
 have Z:=lH (K:=KK w) (x:="_law_told") (qual:="_law_told") (st:=top 49) (f:=427) rfl (by kernel_rfl) (by kernel_rfl)
 have hq:=HN (ps:=["_law_kept"]) (n:=1) (F:=aM) t.B t.t S rfl (by kernel_rfl)
 have I:=S.binds (ps:=["_law_kept"]) (λ_ _ _ _ _ _ r p=>hW rfl (by decide) p)
 have O:=DS (k:=38) (t:=⟨"_law_deed_here","e","_law_class","SwitchError"⟩) (kf:=38) Z ⟨_,_,_,_,_,_,_,_,_,_,rfl⟩ (by kernel_rfl) (nj i j (by kernel_rfl)) (by kernel_rfl) hq I (aj _) (nj i j (by kernel_rfl)) t.B
 have Q:=(t.t "Rack" (SK.Gl.cls 368 xq8) rfl).2;have RC:RkC (KK w) 368:=Q.2.1
 have T:(aA (defScope (top 52))).length=2:=by kernel_rfl
 have hD:=Mm (X:=cxP [460,441] (jN (CXe l.prog w) l.prog w (KK w) mg b (aA (defScope (top 55))) "law" (defScope (top 55)) 463 (.ref 462) callerA [] q H λ_ _ _=>False)) (tab:=tbL) (fns:=flL) (sc:=defScope (top 52)) (qual:="_law_did") (name:="_law_did") (tn:="_law_told") (self:="_law_rack") (prs:=["_law_deed_here"]) (F:=aM) (A:=368) (ms:=xq8) (fa:=446) (params:=defArgs (top 52)) (body:=defBody (top 52)) (g:=mK) t.B t.t t.u RC Q.2.2 ⟨427,_,"_law_deed_here",nj i j (by kernel_rfl),by kernel_rfl,O,λs u _=>.of_eq rfl⟩ (by decide) U Y L rfl (by kernel_rfl) (by kernel_rfl) (by kernel_rfl)
 rw[T]at hD
 have E:l7 (KK w) (.ref 446)=qt:=by kernel_rfl
 exact IQ (tab:=tbL) (fns:=flL) (x:="_law_script") (prs1:=["_law_rack","_law_deed_here"]) (nd:=1) (Md:=bJ) t.B t.t t.u (by kernel_rfl) ⟨rfl,by decide,by decide⟩ (λA ms e=>by cases (show(pi (SK.Gl.cls 368 xq8):L7 SK.Gl)=pi (SK.Gl.cls A ms) from e);exact⟨274,1,_,_,by decide,⟨by kernel_rfl,by kernel_rfl,by kernel_rfl,by kernel_rfl⟩,Fr (k:=0) (self:="self") (Bk (by kernel_rfl) (by kernel_rfl) (by kernel_rfl) (by kernel_rfl) (by kernel_rfl) (by kernel_rfl) (by kernel_rfl)) J (by kernel_rfl) ⟨_,_,_,_,_,_,_,_,_,_,_,_,rfl⟩,o⟩) hD MZ (nj i j (by kernel_rfl)) (by decide) E (λs r _ p=>by rcases r with _|⟨u0,_|⟨u1,_|⟨u2,r⟩⟩⟩<;>first|exact .of_eq rfl|(simp at p)) ⟨427,_,"_law_deed_here",nj i j (by kernel_rfl),by kernel_rfl,O,λs u _=>.of_eq rfl⟩ (by decide) y z
end SK.k76
open PySem PySem.W PyProof.Rows
set_option maxRecDepth 100000 in
set_option maxHeartbeats 0 in
theorem PySem.Challenge.cw_switchkinds_k76_whole_rack_texts_spoilt_holds : PySem.Challenge.rw_switchkinds_k76_whole_rack_texts_spoilt.Holds := by
 w_on
 refine PySem.W.holds_law SK.k76.sd λc=>?_
 refine PySem.W.holds_open (q:=SK.k76.kq) (loose:=["FIGURES"]) (Xt:=λs=>PySem.W.xlAt SK.k76.kq [] s&&PySem.W.recOk (gu (ey di.row)) s) (XP:=PySem.W.XL SK.k76.kq []) (Yf:=nr.obs (mn SK.k76.kK SK.k76.kas (λ_=>by kernel_rfl))) (Ya:=nr.val (mn SK.k76.kK SK.k76.kas (λ_=>by kernel_rfl))) (YP:=nr.says (mn SK.k76.kK SK.k76.kas (λ_=>by kernel_rfl))) (N:=7960) SK.k76.left (nr.of (mn SK.k76.kK SK.k76.kas (λ_=>by kernel_rfl))) (nr.keeps (mn SK.k76.kK SK.k76.kas (λ_=>by kernel_rfl))) (λs e=>PySem.W.xl_of s (Bool.and_eq_true_iff.mp e).1) PySem.W.XL.keeps (by rfl) (by rfl) (by rfl) (λs e=>PySem.W.recFacts_of (Bool.and_eq_true_iff.mp e).2) (by rfl) (by first|assumption|decide+kernel) (by decide+kernel) ⟨rfl,rfl,rfl,rfl,rfl,by decide+kernel⟩ ?hw ?hc
 (case hw=>w_witness2)
 refine SK.walkG (l:=di) rfl rfl (λw h Y=>PySem.W.kIn_of Y) (did:="_law_did") (ef.mp (by kernel_rfl)) (ef.mp (by kernel_rfl)) ?F
 case F=>
  intro w f g h d G b;exact SK.k76.all_mk d G b
