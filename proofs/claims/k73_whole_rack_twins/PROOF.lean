import PyProof.Rows.All
import Wide.All
import OpenK.AllK
import Wide.FinOn
import PySem.Challenge.RW_switchkinds_k73_whole_rack_twins
abbrev ce:=PySem.Value->PySem.Shared->Prop
abbrev cf:=List (PySem.Addr×PySem.Obj)
abbrev L1:=List
abbrev L7:=Option
noncomputable section
open Option renaming some->pi,none->qb
open Bool renaming true->qc,false->qe
open PySem.Challenge renaming pw_switchkinds_k73_whole_rack_twins->ci,rw_switchkinds_k73_whole_rack_twins->dg
open PySem.Builtin.SmallTypes renaming ownedTupleHandOut->dh,ownedTupleIsFree->di,nextOf->dw
open PyProof.Rows renaming callWith_builtin1->dk,callWith_type1->dm
open PySem.Builtin.List renaming listExtendWith->dq,listTooLong->ee
open PySem.Calls renaming Name_function_global->dt,callWith_builtin->fh,evalArgs_plain->gf,spliced_cons->ii,spliced_nil->i4
open PySem.F renaming slot_tuple_iterator_next->du,slot_list_getattribute->ef,plainAttrs_dict->eo,plainAttrs_list->et,entry_dict_get->fj,slot_dict_get->fx,plain_extend_loop->g8,args_zip_next_1->ji,entry_zip_next->jr,slot_zip_next->km
open Option renaming isNone_iff_eq_none->dy,isSome_iff_exists->dz,isSome_map->je,map->pc
open PySem.W.OpenRow renaming toRowW->eu
open PySem.W renaming cellsFrom_some->e7,methodCall_KW->fy,plainGet_of->gu,callWith_K0->gw,codeRec_of->ij,callWith_K->im,methodObj->iu,hasDictIn->iw,plainOver->iy,emptyDict->iz,plainGet->jl,instObj->jx,lookIn->ko,findIn->kr,keepIn->ku,codeIn->ky,tabObj->k8,CodeHd->lf,kla_fn->lg,kHook->lh,mg_of->mi,Frag->mj,Hook->mn,isFn->nh,fnOf->ni
open PySem.W.RowW renaming records->f6
open PySem.Around renaming under_plainId->gi
open Array renaming length_toList->gm
open PySem.PyData renaming canLayAll0->jd,canLay0->kz,eqvAll->ln,depth->nr,eqv->pb
open Int renaming toNat_natCast->jh
open Option.some renaming inj->jw
open ForInStep renaming yield->kj
open PySem.Paired renaming length->li
open List.cons renaming inj->ly
open PySem.NameKind renaming free->l0,cell->mf
open PySem.Value renaming builtin->mh,none->oq,bool->ou,type->ox,int->pd,str->pe,ref->pf
open PySem.Str renaming ofString->nu
open Sum.inr renaming inj->n7
open PySem.Shared renaming heap->oj
open True renaming intro->oy
open PySem.Obj renaming mapSeq->oz
open Sum renaming inl->pq,inr->pu
open Ne renaming symm->qa
open PySem renaming wpAny_bind->aa,wpAny_pure->ac,mem_of_lookup->gy,Within->mo,Env->ph
open PySem.Heap renaming get?_push_of_some->ae,get?_push_size->af,lt_size->ah,size_push->ai,get?_update_other->fg,get?_update_self->fw,get?_push_ne->jj,size_update->jt,SameBut->mz,IsTuple->ny,IsList->om
open Nat renaming le_refl->aj,lt_of_lt_of_le->bg,ne_of_lt->bh,zero_le->bu,add_lt_add_left->h8,add_le_add_left->ib,lt_of_le_of_lt->ir,lt_succ_of_lt->jf,lt_succ_self->jm,le_add_right->js,lt_irrefl->lj,le_trans->mq,le_of_lt->mr,ne_of_gt->ng,le_succ->oe,not_lt->o0
open List renaming replicate->ao,length_map->aq,mem_map->au,mem_cons->av,size_toArray->ax,getElem?_eq_some_iff->ay,getElem?_set_ne->bc,getElem?_eq_getElem->bd,getElem?_set_self->bj,getElem?_append_right->bn,length_append->bo,length_cons->bq,mem_append_right->bt,getElem?_append_left->bx,getD_eq_getElem?_getD->cb,drop_eq_getElem_cons->dv,getElem?_replicate->eh,length_eq_one_iff->fq,length_replicate->fu,mem_cons_of_mem->f7,mem_append_left->gc,filterMap_cons->gj,replicate_succ->gz,map_congr_left->ic,mem_cons_self->ie,mem_filterMap->ig,findIdx?_cons->ik,mem_singleton->ip,pairwise_cons->iq,getElem?_map->i6,reverse_cons->ja,flatten_cons->jb,append_assoc->jc,all_eq_true->jk,filter_cons->jn,lookup_cons->jo,drop_length->jp,not_mem_nil->jq,isEmpty_iff->ju,getElem_mem->jv,mem_filter->jy,mem_append->jz,append_nil->j3,nodup_cons->kc,of_mem_zip->kd,length_set->ke,nil_append->kg,find?_cons->kh,length_nil->ki,forIn_cons->kl,length_zip->kn,forIn_nil->k7,map_cons->lm,any_cons->lr,all_cons->lz,map_nil->nj,zipWith->nz,map_map->n5,lookup->n8,length->og,range->oo,Perm->pj
open Bool renaming and_eq_true->aw,false_eq_true->az,false_ne_true->bf,not_eq_true'->jg
open False renaming elim->ba
def gzq{G:Prop}(h: ∀R:Prop,R=G->R):G:=h G rfl
def zBd{α β:Type}{o:L7 α}{f}{b:β}(h:o.bind f=pi b): ∃a,o=pi a/\f a=pi b:=Option.bind_eq_some_iff.mp h
def zMd{α β:Type}{o}{f:α->β}{b}(h:o.map f=pi b): ∃a,o=pi a/\f a=b:=Option.map_eq_some_iff.mp h
def zAd{α:Type}{l:L1 α}{p}(h:l.all p=qc): ∀x,x∈l->p x=qc:=jk.mp h
def zPd(h:m<n):m∈oo n:=List.mem_range.mpr h
def zRd(h:m∈oo n):m<n:=List.mem_range.mp h
set_option Elab.async false
set_option genInjectivity false
set_option genSizeOf false
set_option bootstrap.genMatcherCode false
set_option compiler.extract_closed false
set_option linter.all false
set_option maxRecDepth 100000
namespace SK
open PySem PySem.W PyProof.Rows PySem.Calls
abbrev _root_.PySem.Shared.z(s:Shared):=s.heap.objs.size
noncomputable def Ml(tb:String->L7 Builtin)(p:Program)(w:World)(m:Nat)(ann:L7 Value)(n:Nat):SharedT->Thread->L7 SharedT:=
 Nat.rec (λ_ _=>qb) (λ_ ih s t=>match through t with
  |true=>pi s
  |false=>match stepOk m ann t with
   |false=>qb
   |true=>match stepT (denote tb) p w s t with
    |some r=>ih r.1 r.2
    |none=>qb) n
theorem pY{tb}{p}{w}{m}{ann}: ∀n s s' t,Ml tb p w m ann n s t=pi s'->topRun tb p w m ann n s.abs t=pi s'.abs
 |0,_,_,_,h=>nomatch h
 |n+1,s,s',t,h=>by
  have h:(match through t with
   |true=>pi s
   |false=>match stepOk m ann t with
    |false=>qb
    |true=>match stepT (denote tb) p w s t with
     |some r=>Ml tb p w m ann n r.1 r.2
     |none=>qb)=pi s':=h
  unfold topRun;rcases d:through t with _|_;rw[d]at h;rcases hk:stepOk m ann t with _|_;rw[hk]at h;cases h;rw[hk]at h;rcases a:stepT (denote tb) p w s t with _|r;rw[a]at h;cases h;obtain⟨b,c⟩:=r;rw[a]at h;rw[stepT_spec a];exact pY n _ _ _ h;rw[d]at h;cases h;rfl
noncomputable def BTl:Nat->L1 Obj->BT
 |0,_=>.nil
 |n+1,l=>match l with
  |[]=>.nil
  |v::r=>.node v (BTl n (ev qc r)) (BTl n (ev qe r))
where
 ev:Bool->L1 Obj->L1 Obj
 |_,[]=>[]
 |true,v::r=>v::ev qe r
 |false,_::r=>ev qc r
def bt0(P:Params):BT:=BTl 12 (boot_heap P).objs.toList
def sT0(P:Params)(os:OsState):SharedT:=⟨bt0 P,(boot_heap P).objs.size,(boot_heap P).life, #[],boot_drawn,boot_toks,os⟩
def IP P:absHeap (bt0 P) (boot_heap P).objs.size (boot_heap P).life=boot_heap P:=by kernel_rfl
def Fd P:(boot_heap P).isNs mainGlobals=qc:=by kernel_rfl
def Fe(p q:Program)(loose:L1 Str)(Xt:Shared->Bool){α:Type}(Yf:Shared->α)(P:Params)(s:Shared):=
 (staticsOk (importedModules p.main.body) (boot_heap P) s.heap&&namesBound p s.heap&&gensDone s&&laidKept (boot_heap P) s.heap,openSeen q loose (importedModules p.main.body) Xt qc s,Yf s)
def NP(p:Program)(N:Nat)(w:World)(os:OsState):L7 SharedT:=Ml treeTable p w (boot_heap w.params).objs.size ((boot_heap w.params).nsMap mainGlobals "__annotations__") N (sT0 w.params os) (topStub p)
def left_tree{Yf}{Ya:World->α}{N:Nat}(e:opening p=plainProg p.main.scope.names)(hN:Nat.ble 600 N=qc)(f: ∀s,fenceModules? p s=pi s)(hk: ∀w os,(NP p N w os).map (λs=>Fe p q loose Xt Yf w.params s.abs)=pi (qc,openGood q loose,Ya w)):LeftO p q loose Xt Yf Ya N:=λw=>by
 obtain⟨g,b,o⟩:=zMd (boot_open e hN f w);obtain⟨h,m,d,k,os⟩:=g;obtain⟨rfl,rfl,rfl,rfl⟩:h=boot_heap w.params/\m=Array.mk []/\d=boot_drawn/\k=boot_toks:=by simpa using o
 obtain⟨s,r,l⟩:=zMd (hk w os);obtain⟨c,n,j⟩:_/\_/\_:=by simpa only[Fe,Prod.mk.injEq]using l
 have a:=pY _ _ _ _ r;have i:(sT0 w.params os).abs=⟨boot_heap w.params,Array.mk [],boot_drawn,boot_toks,os⟩:=by
  show(⟨absHeap (bt0 w.params) (boot_heap w.params).objs.size (boot_heap w.params).life, #[],boot_drawn,boot_toks,os⟩:Shared)=_;rw[IP]
 rw[i]at a;have t:topFrom treeTable p w N ⟨boot_heap w.params,Array.mk [],boot_drawn,boot_toks,os⟩=pi s.abs:=by
  unfold topFrom;dsimp only;rw[Fd,a];show(match staticsOk (importedModules p.main.body) (boot_heap w.params) s.abs.heap&&namesBound p s.abs.heap&&gensDone s.abs&&laidKept (boot_heap w.params) s.abs.heap with|true=>_|false=>_)=_;rw[c]
 unfold openEnds;rw[b];show(topFrom treeTable p w N _).map _=_;rw[t];exact congrArg pi (Prod.ext n j)
universe u
noncomputable def kt{α:Sort u}(_:α):Bool:=qc
def q1(p q:Program)(lo:L1 Str)(N:Nat)(c:WRecords)(a:L1 Addr)(w:World)(os:OsState):=(NP p N w os).map λs=>Fe p q lo (λs=>xlAt q [] s&&recOk c s) (λs=>a.map s.heap.get?) w.params s.abs
def tg:kt q1=qc:=by k_qdec
end SK
set_option maxHeartbeats 0
namespace L2
open PySem
noncomputable def defArgs(s:Stmt):Arguments:=match s with
 |.FunctionDef _ a _ _ _ _ _ _ _ _=>a
 |_=>{posonlyargs:=[],args:=[],vararg:=qb,kwonlyargs:=[],kw_defaults:=[],kwarg:=qb,defaults:=[]}
noncomputable def defBody(s:Stmt):L1 Stmt:=match s with
 |.FunctionDef _ _ b _ _ _ _ _ _ _=>b
 |_=>[]
noncomputable def defScope(s:Stmt):Scope:=match s with
 |.FunctionDef _ _ _ _ _ _ sc _ _ _=>sc
 |_=>{kind:=.function,names:=[],isGenerator:=qe,isCoroutine:=qe}
end L2
namespace SK.k73
open PySem
noncomputable def top(i:Nat):Stmt:=ci.main.body.getD i (.Pass ⟨0,0,0,0⟩)
def met(i j:Nat):Stmt:=(match top i with|.ClassDef _ _ _ b _ _ _ _ _ _ _=>b|_=>[]).getD j (.Pass ⟨0,0,0,0⟩)
abbrev fm(st:Stmt)(x q m:Str)(t c:Nat):Obj:={cls:=.type "function",data:=.func {name:=x,qualname:=q,params:=L2.defArgs st,body:=.stmts (L2.defBody st),scope:=L2.defScope st,globals:=3,closure:=[],defaults:=.none,kwdefaults:=.none,pyModule:=.str m t,code:=.ref c} }
noncomputable abbrev en(P:Params)(k:Str)(t:Nat)(v:Value):DictEntry:=⟨PyData.keyHash P k,.str k t,v⟩
abbrev fo(st:Stmt)(x m:Str)(t c:Nat):Obj:={cls:=.type "function",data:=.func {name:=x,qualname:=x,params:=L2.defArgs st,body:=.stmts (L2.defBody st),scope:=L2.defScope st,globals:=3,closure:=[],defaults:=.none,kwdefaults:=.none,pyModule:=.str m t,code:=.ref c} }
noncomputable abbrev co(vs:Array Value):Obj:={cls:=.type "code",data:=.fields vs}
noncomputable abbrev cC(x:Str)(a l n r e:Nat)(u v w:Value):Obj:=co #[.str x a,.str x (a+1),.str "/claim/cut.py" (a+2),.int l 0,.int n 0,.int 0 0,.int 0 0,.int 3 0,.ref r,.bool qc,.int 181 0,.ref (r+1),.none,u,v,w,.int e 0,.int l 0,.str "/claim/cut.py" (e+1)]
noncomputable abbrev cA(x:Str)(a l n r e:Nat):Obj:=cC x a l n r e .none .none (.ref (r+2))
noncomputable abbrev cB(x:Str)(a l n r e:Nat):Obj:=cC x a l n r e (.ref (r+2)) (.ref (r+3)) (.ref (r+4))
noncomputable abbrev cK(x:Str)(f c ns s a b:Nat):Obj:={cls:=.type "type",data:=.cls {name:=x,bases:=[.ref c],mro:=[.ref f,.ref c,.type "ValueError",.type "Exception",.type "BaseException",.type "object"],ns:=ns,qualname:=x},slots:= #[pi (.ref s),qb,pi (.str x a),pi (.str x b),pi (.builtin "ValueError.__new__"),pi (.bool qc)]}
abbrev dK(P:Params)(m:Str)(q a l r:Nat):Obj:={cls:=.type "dict",data:=.dict #[en P "__module__" a (.str m q),en P "__firstlineno__" (a+4) (.int l (a+3)),en P "__static_attributes__" (a+5) (.ref r),en P "__doc__" (a+6) .none] 2}
def kK:Params->mj:=λP=>[
(3,{cls:=.type "dict",data:=.dict #[en P "__name__" 165 (.str "law_switchkinds_k73_whole_rack_twins" 623),en P "__doc__" 166 .none,en P "__package__" 167 .none,en P "__loader__" 168 (.builtin "__main__.__loader__#opaque"),en P "__spec__" 169 .none,en P "__annotations__" 170 (.ref 6),en P "__builtins__" 171 (.ref 4),en P "__file__" 173 (.str "/claim/cut.py" 172),en P "__cached__" 174 .none,en P "_wall" 193 (.ref 21),en P "SwitchError" 213 (.ref 31),en P "NoSwitch" 229 (.ref 44),en P "NoName" 245 (.ref 56),en P "NoMove" 261 (.ref 68),en P "Unlike" 277 (.ref 80),en P "NoSums" 293 (.ref 92),en P "NoText" 309 (.ref 104),en P "NoTerm" 325 (.ref 116),en P "NoLabel" 341 (.ref 128),en P "NoBack" 357 (.ref 140),en P "MOST_NAMES" 361 (.int 4 360),en P "is_whole" 368 (.ref 149),en P "is_whole_below" 376 (.ref 156),en P "are_whole_below" 382 (.ref 161),en P "is_many" 389 (.ref 168),en P "is_row" 398 (.ref 175),en P "how_many_settings" 405 (.ref 182),en P "is_switch" 414 (.ref 189),en P "check_switch" 421 (.ref 196),en P "check_alike" 429 (.ref 203),en P "turned" 435 (.ref 208),en P "both" 441 (.ref 213),en P "either" 447 (.ref 218),en P "unlike" 453 (.ref 223),en P "LONGEST_LABEL" 457 (.int 4 456),en P "is_label" 463 (.ref 228),en P "check_label" 470 (.ref 235),en P "joined" 479 (.ref 242),en P "Rack" 622 (.ref 350),en P "_law_cell" 632 (.ref 361),en P "_law_pick" 642 (.ref 368),en P "_law_switch" 648 (.ref 373),en P "_law_setting" 654 (.ref 378),en P "_law_odd" 660 (.ref 383),en P "_law_class" 669 (.ref 390),en P "_law_told" 677 (.ref 397),en P "_law_deed" 691 (.ref 404),en P "_law_behind" 697 (.ref 409),en P "_law_did" 707 (.ref 416),en P "_law_all_of" 713 (.ref 421),en P "law" 733 (.ref 428)] 51}),
(20,cB "_wall" 187 1 1 15 191),
(21,fo (top 0) "_wall" "__main__" 164 20),
(30,{cls:=.type "dict",data:=.dict #[en P "__module__" 203 (.str "switchkinds.errors" 194),en P "__firstlineno__" 207 (.int 5 206),en P "__static_attributes__" 208 (.ref 29),en P "__weakref__" 210 (.ref 32),en P "__doc__" 211 .none] 3}),
(31,{cls:=.type "type",data:=.cls {name:="SwitchError",bases:=[.type "ValueError"],mro:=[.ref 31,.type "ValueError",.type "Exception",.type "BaseException",.type "object"],ns:=30,qualname:="SwitchError",subclasses:=[.ref 44,.ref 56,.ref 68,.ref 80,.ref 92,.ref 104,.ref 116,.ref 128,.ref 140]},slots:= #[pi (.ref 22),qb,pi (.str "SwitchError" 196),pi (.str "SwitchError" 204),pi (.builtin "ValueError.__new__"),pi (.bool qc)]}),
(32,{cls:=.type "getset_descriptor",data:=.fields #[.str "__weakref__" 209,.ref 31,.builtin "ExceptionGroup.__weakref__",.none]}),
(43,dK P "switchkinds.errors" 194 221 7 42),
(44,cK "NoSwitch" 44 31 43 35 214 222),
(55,dK P "switchkinds.errors" 194 237 9 54),
(56,cK "NoName" 56 31 55 47 230 238),
(67,dK P "switchkinds.errors" 194 253 11 66),
(68,cK "NoMove" 68 31 67 59 246 254),
(79,dK P "switchkinds.errors" 194 269 13 78),
(80,cK "Unlike" 80 31 79 71 262 270),
(91,dK P "switchkinds.errors" 194 285 15 90),
(92,cK "NoSums" 92 31 91 83 278 286),
(103,dK P "switchkinds.errors" 194 301 17 102),
(104,cK "NoText" 104 31 103 95 294 302),
(115,dK P "switchkinds.errors" 194 317 19 114),
(116,cK "NoTerm" 116 31 115 107 310 318),
(127,dK P "switchkinds.errors" 194 333 21 126),
(128,cK "NoLabel" 128 31 127 119 326 334),
(139,dK P "switchkinds.errors" 194 349 23 138),
(140,cK "NoBack" 140 31 139 131 342 350),
(148,cB "is_whole" 362 27 1 143 366),
(149,fo (top 14) "is_whole" "switchkinds.wholes" 358 148),
(155,cB "is_whole_below" 369 29 2 150 374),
(156,fo (top 15) "is_whole_below" "switchkinds.wholes" 358 155),
(160,cA "are_whole_below" 377 31 2 157 380),
(161,fo (top 16) "are_whole_below" "switchkinds.wholes" 358 160),
(167,cB "is_many" 383 33 1 162 387),
(168,fo (top 17) "is_many" "switchkinds.wholes" 358 167),
(174,cB "is_row" 390 35 3 169 396),
(175,fo (top 18) "is_row" "switchkinds.wholes" 358 174),
(181,cB "how_many_settings" 399 37 1 176 403),
(182,fo (top 19) "how_many_settings" "switchkinds.wholes" 358 181),
(188,cB "is_switch" 408 40 1 183 412),
(189,fo (top 21) "is_switch" "switchkinds.switches" 406 188),
(195,cB "check_switch" 415 44 1 190 419),
(196,fo (top 22) "check_switch" "switchkinds.switches" 406 195),
(202,cB "check_alike" 422 47 2 197 427),
(203,fo (top 23) "check_alike" "switchkinds.switches" 406 202),
(207,cA "turned" 430 52 1 204 433),
(208,fo (top 24) "turned" "switchkinds.switches" 406 207),
(212,cA "both" 436 55 2 209 439),
(213,fo (top 25) "both" "switchkinds.switches" 406 212),
(217,cA "either" 442 58 2 214 445),
(218,fo (top 26) "either" "switchkinds.switches" 406 217),
(222,cA "unlike" 448 61 2 219 451),
(223,fo (top 27) "unlike" "switchkinds.switches" 406 222),
(227,cA "is_label" 458 66 1 224 461),
(228,fo (top 30) "is_label" "switchkinds.racks" 454 227),
(234,cB "check_label" 464 70 1 229 468),
(235,fo (top 31) "check_label" "switchkinds.racks" 454 234),
(241,cB "joined" 471 73 3 236 477),
(242,fo (top 32) "joined" "switchkinds.racks" 454 241),
(255,co #[.str "__init__" 492,.str "Rack.__init__" 493,.str "/claim/cut.py" 494,.int 83 0,.int 1 0,.int 0 0,.int 0 0,.int 3 0,.ref 250,.bool qc,.int 181 0,.ref 251,.none,.ref 252,.ref 253,.ref 254,.int 496 0,.int 83 0,.str "/claim/cut.py" 497]),
(256,fm (met 33 0) "__init__" "Rack.__init__" "switchkinds.racks" 454 255),
(262,co #[.str "set_to" 499,.str "Rack.set_to" 500,.str "/claim/cut.py" 501,.int 88 0,.int 3 0,.int 0 0,.int 0 0,.int 3 0,.ref 257,.bool qc,.int 181 0,.ref 258,.none,.ref 259,.ref 260,.ref 261,.int 505 0,.int 88 0,.str "/claim/cut.py" 506]),
(263,fm (met 33 1) "set_to" "Rack.set_to" "switchkinds.racks" 454 262),
(269,co #[.str "do" 508,.str "Rack.do" 509,.str "/claim/cut.py" 510,.int 94 0,.int 4 0,.int 0 0,.int 0 0,.int 3 0,.ref 264,.bool qc,.int 181 0,.ref 265,.none,.ref 266,.ref 267,.ref 268,.int 515 0,.int 94 0,.str "/claim/cut.py" 516]),
(270,fm (met 33 2) "do" "Rack.do" "switchkinds.racks" 454 269),
(276,co #[.str "put" 518,.str "Rack.put" 519,.str "/claim/cut.py" 520,.int 99 0,.int 3 0,.int 0 0,.int 0 0,.int 3 0,.ref 271,.bool qc,.int 181 0,.ref 272,.none,.ref 273,.ref 274,.ref 275,.int 525 0,.int 99 0,.str "/claim/cut.py" 526]),
(277,fm (met 33 3) "put" "Rack.put" "switchkinds.racks" 454 276),
(283,co #[.str "switch_of" 528,.str "Rack.switch_of" 529,.str "/claim/cut.py" 530,.int 106 0,.int 2 0,.int 0 0,.int 0 0,.int 3 0,.ref 278,.bool qc,.int 181 0,.ref 279,.none,.ref 280,.ref 281,.ref 282,.int 533 0,.int 106 0,.str "/claim/cut.py" 534]),
(284,fm (met 33 4) "switch_of" "Rack.switch_of" "switchkinds.racks" 454 283),
(290,co #[.str "take" 536,.str "Rack.take" 537,.str "/claim/cut.py" 538,.int 112 0,.int 2 0,.int 0 0,.int 0 0,.int 3 0,.ref 285,.bool qc,.int 181 0,.ref 286,.none,.ref 287,.ref 288,.ref 289,.int 542 0,.int 112 0,.str "/claim/cut.py" 543]),
(291,fm (met 33 5) "take" "Rack.take" "switchkinds.racks" 454 290),
(297,co #[.str "join" 545,.str "Rack.join" 546,.str "/claim/cut.py" 547,.int 117 0,.int 5 0,.int 0 0,.int 0 0,.int 3 0,.ref 292,.bool qc,.int 181 0,.ref 293,.none,.ref 294,.ref 295,.ref 296,.int 554 0,.int 117 0,.str "/claim/cut.py" 555]),
(298,fm (met 33 6) "join" "Rack.join" "switchkinds.racks" 454 297),
(304,co #[.str "turn" 557,.str "Rack.turn" 558,.str "/claim/cut.py" 559,.int 123 0,.int 2 0,.int 0 0,.int 0 0,.int 3 0,.ref 299,.bool qc,.int 181 0,.ref 300,.none,.ref 301,.ref 302,.ref 303,.int 563 0,.int 123 0,.str "/claim/cut.py" 564]),
(305,fm (met 33 7) "turn" "Rack.turn" "switchkinds.racks" 454 304),
(311,co #[.str "labels" 566,.str "Rack.labels" 567,.str "/claim/cut.py" 568,.int 128 0,.int 1 0,.int 0 0,.int 0 0,.int 3 0,.ref 306,.bool qc,.int 181 0,.ref 307,.none,.ref 308,.ref 309,.ref 310,.int 570 0,.int 128 0,.str "/claim/cut.py" 571]),
(312,fm (met 33 8) "labels" "Rack.labels" "switchkinds.racks" 454 311),
(318,co #[.str "like" 573,.str "Rack.like" 574,.str "/claim/cut.py" 575,.int 131 0,.int 2 0,.int 0 0,.int 0 0,.int 3 0,.ref 313,.bool qc,.int 181 0,.ref 314,.none,.ref 315,.ref 316,.ref 317,.int 578 0,.int 131 0,.str "/claim/cut.py" 579]),
(319,fm (met 33 9) "like" "Rack.like" "switchkinds.racks" 454 318),
(325,co #[.str "back" 581,.str "Rack.back" 582,.str "/claim/cut.py" 583,.int 134 0,.int 1 0,.int 0 0,.int 0 0,.int 3 0,.ref 320,.bool qc,.int 181 0,.ref 321,.none,.ref 322,.ref 323,.ref 324,.int 586 0,.int 134 0,.str "/claim/cut.py" 587]),
(326,fm (met 33 10) "back" "Rack.back" "switchkinds.racks" 454 325),
(332,co #[.str "forth" 589,.str "Rack.forth" 590,.str "/claim/cut.py" 591,.int 142 0,.int 1 0,.int 0 0,.int 0 0,.int 3 0,.ref 327,.bool qc,.int 181 0,.ref 328,.none,.ref 329,.ref 330,.ref 331,.int 594 0,.int 142 0,.str "/claim/cut.py" 595]),
(333,fm (met 33 11) "forth" "Rack.forth" "switchkinds.racks" 454 332),
(339,co #[.str "counts" 597,.str "Rack.counts" 598,.str "/claim/cut.py" 599,.int 150 0,.int 1 0,.int 0 0,.int 0 0,.int 3 0,.ref 334,.bool qc,.int 181 0,.ref 335,.none,.ref 336,.ref 337,.ref 338,.int 601 0,.int 150 0,.str "/claim/cut.py" 602]),
(340,fm (met 33 12) "counts" "Rack.counts" "switchkinds.racks" 454 339),
(346,co #[.str "twin" 604,.str "Rack.twin" 605,.str "/claim/cut.py" 606,.int 153 0,.int 1 0,.int 0 0,.int 0 0,.int 3 0,.ref 341,.bool qc,.int 181 0,.ref 342,.none,.ref 343,.ref 344,.ref 345,.int 609 0,.int 153 0,.str "/claim/cut.py" 610]),
(347,fm (met 33 13) "twin" "Rack.twin" "switchkinds.racks" 454 346),
(349,{cls:=.type "dict",data:=.dict #[en P "__module__" 487 (.str "switchkinds.racks" 454),en P "__firstlineno__" 491 (.int 81 490),en P "__init__" 498 (.ref 256),en P "set_to" 507 (.ref 263),en P "do" 517 (.ref 270),en P "put" 527 (.ref 277),en P "switch_of" 535 (.ref 284),en P "take" 544 (.ref 291),en P "join" 556 (.ref 298),en P "turn" 565 (.ref 305),en P "labels" 572 (.ref 312),en P "like" 580 (.ref 319),en P "back" 588 (.ref 326),en P "forth" 596 (.ref 333),en P "counts" 603 (.ref 340),en P "twin" 611 (.ref 347),en P "__static_attributes__" 615 (.ref 348),en P "__dict__" 617 (.ref 351),en P "__weakref__" 619 (.ref 352),en P "__doc__" 620 .none] 4}),
(350,{cls:=.type "type",data:=.cls {name:="Rack",bases:=[.type "object"],mro:=[.ref 350,.type "object"],ns:=349,qualname:="Rack" },slots:= #[qb,qb,pi (.str "Rack" 480),pi (.str "Rack" 488),pi (.builtin "object.__new__"),pi (.bool qc)]}),
(351,{cls:=.type "getset_descriptor",data:=.fields #[.str "__dict__" 616,.ref 350,.builtin "function.__dict__",.builtin "function.__dict__#set"]}),
(352,{cls:=.type "getset_descriptor",data:=.fields #[.str "__weakref__" 618,.ref 350,.builtin "ExceptionGroup.__weakref__",.none]}),
(360,cB "_law_cell" 625 160 2 355 630),
(361,fo (top 35) "_law_cell" "law_switchkinds_k73_whole_rack_twins" 623 360),
(367,cB "_law_pick" 633 166 3 362 640),
(368,fo (top 36) "_law_pick" "law_switchkinds_k73_whole_rack_twins" 623 367),
(372,cA "_law_switch" 643 169 3 369 646),
(373,fo (top 37) "_law_switch" "law_switchkinds_k73_whole_rack_twins" 623 372),
(377,cA "_law_setting" 649 185 2 374 652),
(378,fo (top 38) "_law_setting" "law_switchkinds_k73_whole_rack_twins" 623 377),
(382,cA "_law_odd" 655 187 2 379 658),
(383,fo (top 39) "_law_odd" "law_switchkinds_k73_whole_rack_twins" 623 382),
(389,cB "_law_class" 661 189 1 384 667),
(390,fo (top 40) "_law_class" "law_switchkinds_k73_whole_rack_twins" 623 389),
(396,cB "_law_told" 670 197 1 391 675),
(397,fo (top 41) "_law_told" "law_switchkinds_k73_whole_rack_twins" 623 396),
(403,cB "_law_deed" 678 202 3 398 689),
(404,fo (top 42) "_law_deed" "law_switchkinds_k73_whole_rack_twins" 623 403),
(408,cA "_law_behind" 692 214 2 405 695),
(409,fo (top 43) "_law_behind" "law_switchkinds_k73_whole_rack_twins" 623 408),
(415,cB "_law_did" 698 235 2 410 705),
(416,fo (top 44) "_law_did" "law_switchkinds_k73_whole_rack_twins" 623 415),
(420,cA "_law_all_of" 708 241 1 417 711),
(421,fo (top 45) "_law_all_of" "law_switchkinds_k73_whole_rack_twins" 623 420),
(427,cB "law" 714 243 1 422 731),
(428,fo (top 46) "law" "law_switchkinds_k73_whole_rack_twins" 623 427)]
noncomputable def kas:L1 Addr:=[3,20,21,30,31,32,43,44,55,56,67,68,79,80,91,92,103,104,115,116,127,128,139,140,148,149,155,156,160,161,167,168,174,175,181,182,188,189,195,196,202,203,207,208,212,213,217,218,222,223,227,228,234,235,241,242,255,256,262,263,269,270,276,277,283,284,290,291,297,298,304,305,311,312,318,319,325,326,332,333,339,340,346,347,349,350,351,352,360,361,367,368,372,373,377,378,382,383,389,390,396,397,403,404,408,409,415,416,420,421,427,428]
def kq:Program:={ci with main:={ci.main with body:=[top 0,top 2,top 3,top 4,top 5,top 6,top 7,top 8,top 9,top 10,top 11,top 13,top 14,top 15,top 16,top 17,top 18,top 19,top 21,top 22,top 23,top 24,top 25,top 26,top 27,top 29,top 30,top 31,top 32,top 33,top 35,top 36,top 37,top 38,top 39,top 40,top 41,top 42,top 43,top 44,top 45,top 46]} }
def sd:dg.wellSaid=qc:=by kernel_rfl
def lk w os:SK.q1 dg.row.prog kq [] 7442 (f6 (eu dg.row)) kas w os=pi (qc,PySem.W.openGood kq [],(kK w.params).map λp=>pi p.2):=by
 have _:=SK.tg;rw[PySem.W.Fast.te11324695928718235439]
 kernel_rfl
def left:PySem.W.LeftO dg.row.prog kq [] (λs=>PySem.W.xlAt kq [] s&&PySem.W.recOk (f6 (eu dg.row)) s) (mn.obs (lh kK kas (λ_=>by kernel_rfl))) (mn.val (lh kK kas (λ_=>by kernel_rfl))) 7442:=SK.left_tree rfl rfl (λ_=>by kernel_rfl) lk
end SK.k73
namespace L2
open PySem PySem.Spec PyProof.Rows
abbrev Key:=Sum Int Str
noncomputable def sU:Key->Value->Bool
 |.inl k,v=>Value.isInt k v
 |.inr x,v=>Value.isStrOf x v
noncomputable def Op(w:World):Key->Int
 |.inl k=>hashInt k
 |.inr x=>hashStr w x
def bV: ∀{k} {v},sU k v=qc->(∃i t,k=pq i/\v=pd i t)\/(∃x t,k=pu x/\v=pe x t)
 |.inl i,v,h=>by
  obtain⟨t,e⟩:=Value.isInt_shape (k:=i) (v:=v) h;exact .inl ⟨i,t,rfl,e⟩
 |.inr x,v,h=>by
  obtain⟨t,e⟩:=Value.isStrOf_shape (x:=x) (v:=v) h;exact .inr ⟨x,t,rfl,e⟩
def xW i t:sU (.inl i) (.int i t)=qc:=by simp[sU,Value.isInt]
def xX x t:sU (.inr x) (.str x t)=qc:=by simp[sU,Value.isStrOf]
def IQ a b:decide ((pq a:Key)=pq b)=(a==b):=by by_cases e:a=b;subst e;simp;have h: ¬(pq a:Key)=pq b:=λq=>e (pq.inj q);rw[decide_eq_false h];exact(beq_eq_false_iff_ne.mpr e).symm
def IR a b:decide ((pu a:Key)=pu b)=decide (a=b):=by by_cases e:a=b;subst e;simp;have h: ¬(pu a:Key)=pu b:=λq=>e (n7 q);rw[decide_eq_false h,decide_eq_false e]
def IS a b:decide ((pq a:Key)=pu b)=qe:=decide_eq_false (λq=>nomatch q)
def IT a b:decide ((pu a:Key)=pq b)=qe:=decide_eq_false (λq=>nomatch q)
def bE(prog:Program)(w:World):PySem.KeyKind prog w Key where
 is:=sU;hash:=Op w;inj:=λv a b ha hb=>by
  rcases bV ha with ⟨i,t,rfl,rfl⟩|⟨x,t,rfl,rfl⟩;rcases bV hb with ⟨j,u,rfl,e⟩|⟨y,u,rfl,e⟩;injection e with e1 _;rw[e1]
  exact nomatch e;rcases bV hb with ⟨j,u,rfl,e⟩|⟨y,u,rfl,e⟩;exact nomatch e;injection e with e1 _;rw[e1]
 byValue:=λk v h=>by
  rcases bV h with ⟨i,t,rfl,rfl⟩|⟨x,t,rfl,rfl⟩<;>rfl
 pyHash:=λhv h=>by
  rcases bV hv with ⟨i,t,rfl,rfl⟩|⟨x,t,rfl,rfl⟩;exact wpAny_pyHash_int h;exact wpAny_pyHash_str h
 eqBool:=λhu hv h=>by
  rcases bV hu with ⟨i,t,rfl,rfl⟩|⟨x,t,rfl,rfl⟩;rcases bV hv with ⟨j,u,rfl,rfl⟩|⟨y,u,rfl,rfl⟩;rw[IQ]at h;exact wpAny_eqBool_int h;rw[IS]at h;exact SeqAt.EqAt.int_str i t y u _ _ _ _ h;rcases bV hv with ⟨j,u,rfl,rfl⟩|⟨y,u,rfl,rfl⟩;rw[IT]at h;exact SeqAt.EqAt.str_int x t j u _ _ _ _ h;rw[IR]at h;exact wpAny_eqBool_str h
 «strs»:=λk x t v h=>by
  rcases bV h with ⟨i,u,rfl,e⟩|⟨y,u,rfl,e⟩;exact nomatch e;injection e with e1 _
  subst e1;cases v<;>rfl
def sV prog w i t:(bE prog w).is (.inl i) (.int i t)=qc:=xW i t
def kY prog w x t:(bE prog w).is (.inr x) (.str x t)=qc:=xX x t
inductive V where
 |non|bl (b:Bool)|int (i:Int)|str (x:Str)|byt (b:Array UInt8)|flt (b:UInt64)|ref (a:Addr)|ty (n:String)
 deriving DecidableEq
def bJ:V->Value->Prop
 |.non,u=>u=oq
 |.bl b,u=>u=ou b
 |.int i,u=>∃t,u=pd i t
 |.str x,u=>∃t,u=pe x t
 |.byt b,u=>∃t,u=Value.bytes b t
 |.flt b,u=>∃t,u=Value.float b t
 |.ref a,u=>u=pf a
 |.ty n,u=>u=ox n
abbrev b9:L1 V->L1 Value->Prop:=Paired bJ
theorem b9.length(r:b9 xs us):xs.length=us.length:=li r
theorem b9.get: ∀{xs} {us} {i:Nat} {x},b9 xs us->xs[i]? =pi x->∃u,us[i]? =pi u/\bJ x u
 |_,_,_,_,.nil,e=>by simp at e
 |_,_,0,_,.cons r _,e=>by simp at e;subst e;exact⟨_,rfl,r⟩
 |_,_,i+1,x,.cons _ t,e=>by
  obtain⟨u,a,b⟩:=b9.get (i:=i) (x:=x) t (by simpa using e);exact⟨u,by simpa using a,b⟩
theorem b9.set{x}{u}(r:bJ x u): ∀{xs} {us} i,b9 xs us->b9 (xs.set i x) (us.set i u)
 |_,_,_,.nil=>.nil
 |_,_,0,.cons _ t=>.cons r t
 |_,_,i+1,.cons q t=>.cons q (b9.set r i t)
theorem b9.append: ∀{xs ys} {us ws},b9 xs us->b9 ys ws->b9 (xs++ys) (us++ws)
 |_,_,_,_,.nil,s=>s
 |_,_,_,_,.cons r t,s=>.cons r (b9.append t s)
def mL:L7 V->L7 Value->Prop
 |some v,pi u=>bJ v u
 |none,qb=>True
 |_,_=>False
def KV{κ:Type}:L1 (κ×V)->L1 (κ×Value)->Prop:=Paired λ(p:κ×V) (q:κ×Value)=>p.1=q.1/\bJ p.2 q.2
noncomputable def kV:Key->V
 |.inl i=>.int i
 |.inr x=>.str x
inductive HO where
 |lst (xs:List V)
 |tup (xs:List V)
 |dK (kvs:List (Key×V))|dT (kvs:List (List Key×V))
 |set (S:Int->Bool) (n:Nat)
 |ins (C dx:Addr) (fs:List (Str×V))
 |own (x:Addr)
 |xd (fs:List (Str×V))
 |met (f x:Addr)
 |rng (lo hi:Int)
 |frz (o:Obj) (u:HO)
 |tbl (ps:Array Value)
 |ext (φ:Heap->Prop)
abbrev Hp:=Addr->L7 HO
noncomputable def upd(H:Hp)(a:Addr)(o:HO):Hp:=λb=>if b=a then pi o else H b
def aD:upd H a o a=pi o:=by unfold upd;rw[if_pos rfl]
def aA(h:b≠a):upd H a o b=H b:=by unfold upd;rw[if_neg h]
def xY:upd (upd H a o) a u=upd H a u:=by funext b;unfold upd;split<;>rfl
def Mm{H:Hp}(h:H a=pi o)(h':H b=pi u)(d:o≠u):a≠b:=by intro e;subst e;rw[h]at h';exact d (jw h')
def aJ{H:Hp}(h:H a=pi o)(h':H b=qb):a≠b:=by intro e;subst e;rw[h]at h';cases h'
def IU(h:Heap)(a:Addr):Prop:= ∃o,h.get? a=pi o/\o.dict=qb
section
variable (P:Program) (w:World)
def ObjOk(H:Hp)(h:Heap)(a:Addr):HO->Prop
 |.lst xs=>xs.length<=sizeLine/\∃(its:L1 Value) (n:Nat),b9 xs its/\h.get? a=pi {cls:=.type "list",data:=.seq its.toArray n}
 |.tup xs=>xs.length<=sizeLine/\∃its:L1 Value,b9 xs its/\IsTup h a its.toArray/\IU h a
 |.dK kvs=>kvs.length<=sizeLine/\(a==sysModules)=qe/\∃vs,KV kvs vs/\h.DictOf (bE P w) a vs
 |.dT kvs=>kvs.length<=sizeLine/\(a==sysModules)=qe/\∃xs:L1 (L1 Key×Addr×Value),
   Paired (λ(p:L1 Key×V) (q:L1 Key×Addr×Value)=>p.1=q.1/\H q.2.1=pi (.tup (p.1.map kV))/\bJ p.2 q.2.2) kvs xs/\
   ∃o es ep,h.get? a=pi o/\o.ExactDict/\o.data= .dict es ep/\es.toList=xs.map (entryOfKey (tupleKind (bE P w)))/\(xs.map (·.1)).Nodup
 |.set S n=>h.SetOf (intKind P w) a S n
 |.ins C dx fs=>H dx=pi (.own a)/\fs.length<=1000/\dx≠a/\h.get? a=pi (jx C dx)/\
   ∃mA,h.Ns1 dx mA/\(∀f,mL (fs.lookup f) (mA f))/\mo mA (fs.map (·.1))
 |.own _=>∃o,h.get? a=pi o
 |.xd fs=>∃mA,h.Ns1 a mA/\∀f,mL (fs.lookup f) (mA f)
 |.rng lo hi=>∃t u v,h.get? a=pi {cls:=.type "range",data:=.fields #[.int lo t,.int hi u,.int 1 v]}
 |.frz o u=>h.get? a=pi o/\ObjOk H h a u
 |.tbl ps=>h.get? a=pi {cls:=.none,data:=.fields ps}
 |.met f x=>h.get? a=pi (iu (.ref f) (.ref x))
 |.ext φ=>φ h/\(∃o,h.get? a=pi o)/\∀h1 h2:Heap,φ h1->(∀o,h1.get? a=pi o->h2.get? a=pi o)->φ h2
def HOk(H:Hp)(h:Heap):Prop:= ∀a o,H a=pi o->ObjOk P w H h a o
end
section
variable{a:Addr}
theorem ObjOk.lt(x:ObjOk P w H h a o):a<h.objs.size:=by
 cases o with
 |lst c=>obtain⟨_,_,_,_,e⟩:=x;exact ah e
 |tup c=>obtain⟨_,_,_,p,_⟩:=x;exact p.lt
 |dK b=>refine gzq λRz ez=>?_;obtain⟨_,_,_,_,o,_,_,e,_⟩:=x;subst ez;exact ah e
 |dT b=>refine gzq λRz ez=>?_;obtain⟨_,_,_,_,o,_,_,e,_⟩:=x;subst ez;exact ah e
 |set S n=>obtain⟨o,_,_,_,e,_⟩:=x;exact ah e
 |ins C j fs=>obtain⟨_,_,_,e,_⟩:=x;exact ah e
 |own y=>obtain⟨_,e⟩:=x;exact ah e
 |xd fs=>refine gzq λRz ez=>?_;obtain⟨_,⟨_,_,_,e,_⟩,_⟩:=x;subst ez;exact ah e
 |rng d l=>obtain⟨_,_,_,e⟩:=x;exact ah e
 |frz i u=>obtain⟨e,_⟩:=x;exact ah e
 |tbl g=>exact ah (show h.get? a=pi _ from x)
 |met f y=>exact ah (show h.get? a=pi _ from x)
 |ext m=>obtain⟨_,⟨_,e⟩,_⟩:=x;exact ah e
theorem Paired.mapP{α β}{F G:α->β->Prop}: ∀{l₁} {l₂},Paired F l₁ l₂->(∀a b,F a b->G a b)->Paired G l₁ l₂
 |_,_,.nil,_=>.nil
 |_,_,.cons r t,f=>.cons (f _ _ r) (Paired.mapP t f)
def ObjOk.stay(x:ObjOk P w H h a o)(k: ∀b u,(b=a\/H b=pi (.own a))->h.get? b=pi u->h'.get? b=pi u)(ho: ∀b,H b=pi (.own a)->H' b=pi (.own a))(ht: ∀b xs,H b=pi (.tup xs)->H' b=pi (.tup xs)):ObjOk P w H' h' a o:=by
 induction o with
 |lst xs=>obtain⟨z,l,n,r,e⟩:=x;exact⟨z,l,n,r,k _ _ (.inl rfl) e⟩
 |tup xs=>refine gzq λRz ez=>?_;obtain⟨z,l,r,⟨g,e,c⟩,m,I,d⟩:=x;subst ez;exact⟨z,l,r,⟨g,k _ _ (.inl rfl) e,c⟩,m,k _ _ (.inl rfl) I,d⟩
 |dK s=>refine gzq λRz ez=>?_;obtain⟨z,y,L,r,g,i,j,e,c⟩:=x;subst ez;exact⟨z,y,L,r,g,i,j,k _ _ (.inl rfl) e,c⟩
 |dT s=>
  refine gzq λRz ez=>?_;obtain⟨z,y,xs,r,g,i,j,e,c⟩:=x;subst ez;exact⟨z,y,xs,Paired.mapP r λp q z=>⟨z.1,ht _ _ z.2.1,z.2.2⟩,g,i,j,k _ _ (.inl rfl) e,c⟩
 |set S n=>obtain⟨g,i,j,t,e,c⟩:=x;exact⟨g,i,j,t,k _ _ (.inl rfl) e,c⟩
 |ins C N fs=>
  refine gzq λRz ez=>?_;obtain⟨d,z,K,e,A,⟨m,i,j,G,c⟩,r⟩:=x;subst ez;exact⟨ho _ d,z,K,k _ _ (.inl rfl) e,A,⟨m,i,j,k _ _ (.inr d) G,c⟩,r⟩
 |own y=>obtain⟨g,e⟩:=x;exact⟨g,k _ _ (.inl rfl) e⟩
 |xd fs=>refine gzq λRz ez=>?_;obtain⟨A,⟨m,i,j,e,c⟩,r⟩:=x;subst ez;exact⟨A,⟨m,i,j,k _ _ (.inl rfl) e,c⟩,r⟩
 |rng M O=>obtain⟨t,u,v,e⟩:=x;exact⟨t,u,v,k _ _ (.inl rfl) e⟩
 |frz g u J=>obtain⟨e,q⟩:=x;exact⟨k _ _ (.inl rfl) e,J q⟩
 |tbl B=>
  have e:h.get? a=pi {cls:=.none,data:=.fields B}:=x
  show h'.get? a=pi {cls:=.none,data:=.fields B};exact k a _ (.inl rfl) e
 |met f y=>
  have e:h.get? a=pi (iu (.ref f) (.ref y)):=x
  show h'.get? a=pi (iu (.ref f) (.ref y));exact k a _ (.inl rfl) e
 |ext Q=>obtain⟨p,⟨o,e⟩,E⟩:=x;exact⟨E _ _ p λo q=>k _ _ (.inl rfl) q,⟨o,k _ _ (.inl rfl) e⟩,E⟩
theorem HOk.lt(x:HOk P w H h)(e:H a=pi o):a<h.objs.size:=(x a o e).lt
def HOk.fresh(x:HOk P w H h)(e:h.objs.size<=a):H a=qb:=by rcases q:H a with _|u;rfl;exact absurd (bg (x.lt q) e) (lj _)
def HOk.kept(x:HOk P w H h)(k: ∀b u,h.get? b=pi u->h'.get? b=pi u):HOk P w H h':=λa o e=>
 (x a o e).stay (λb u _ q=>k b u q) (λ_ q=>q) λ_ _ q=>q
def HOk.laid(x:HOk P w H h)(k: ∀b u,h.get? b=pi u->h'.get? b=pi u)(hp:h.objs.size<=a)(new:ObjOk P w (upd H a o) h' a o):HOk P w (upd H a o) h':=λb u e=>by
 have f:=x.fresh hp;by_cases d:b=a;subst d;rw[aD]at e;cases e;exact new;rw[aA d]at e;exact(x b u e).stay (λc v _ q=>k c v q) (λc q=>by rw[aA (aJ q f)];exact q) λc g q=>by rw[aA (aJ q f)];exact q
end
def Rd(H:Hp)(a:Addr)(u:HO):Prop:=H a=pi u\/∃o,H a=pi (.frz o u)
def Rd.of(h:H a=pi u):Rd H a u:=.inl h
def Rd.ok(r:Rd H a u)(x:HOk P w H h):ObjOk P w H h a u:=by rcases r with r|⟨o,r⟩;exact x a u r;obtain⟨_,q⟩:=x a _ r;exact q
def Mut:L7 HO->Prop
 |some (.lst _)=>True
 |some (.dK _)=>True
 |some (.dT _)=>True
 |some (.set _ _)=>True
 |some (.ins _ _ _)=>True
 |some (.ext _)=>True
 |_=>False
def HOk.write(ok:HOk P w H h)(mu:Mut (H x))(he:e=x\/H e=pi (.own x))(k: ∀b u,b≠e->h.get? b=pi u->h'.get? b=pi u)(heo: ∃u,h'.get? e=pi u)(new:ObjOk P w (upd H x o') h' x o'):HOk P w (upd H x o') h':=λb u q=>by
 have d: ∀c y,H c=pi (.own y)->c≠x:=λc y r z=>by subst z;rw[r]at mu;exact mu
 have f: ∀c j,H c=pi (.tup j)->c≠x:=λc j r z=>by subst z;rw[r]at mu;exact mu
 by_cases g:b=x;subst g;rw[aD]at q;cases q;exact new;rw[aA g]at q;by_cases a:b=e;have l:H b=pi (.own x):=by
  rcases he with z|z;exact absurd (a.trans z) g;rw[a];exact z
 rw[q]at l;cases l;obtain⟨v,m⟩:=heo;exact⟨v,by rw[a];exact m⟩;refine(ok b u q).stay (λc v i r=>k c v ?_ r) (λc r=>by rw[aA (d c b r)];exact r) λc j r=>by rw[aA (f c j r)];exact r
 rcases i with rfl|i;exact a;rintro rfl;rcases he with z|z;exact d c b i z;rw[i]at z;cases z;exact g rfl
structure Un(fs ex:List Addr)(H H':Hp)(h h':Heap):Prop where
 keep: ∀b o,h.get? b=pi o->H b=qb->b∉fs->b∉ex->h'.get? b=pi o
 slot: ∀b o,h.get? b=pi o->H b=qb->b∈fs->b∉ex->∃sl,h'.get? b=pi {o with slots:=sl}
 free: ∀b o,h.get? b=pi o->H b=qb->b∉ex->H' b=qb
 there: ∀b o,h.get? b=pi o->b∉ex->∃o',h'.get? b=pi o'
 tups: ∀b xs,H b=pi (.tup xs)->H' b=pi (.tup xs)
 frzs: ∀b o u,H b=pi (.frz o u)->H' b=pi (.frz o u)
 tbls: ∀b ps,H b=pi (.tbl ps)->∃more,H' b=pi (.tbl (ps++more))
section
variable{h:Heap}{a:Addr}
def Un.any(u:Un fs ex H H1 h h1)(q:h.get? b=pi ob)(n:H b=qb)(hx:b∉ex): ∃sl,h1.get? b=pi {ob with slots:=sl}:=by by_cases a:b∈fs;exact u.slot b ob q n a hx;exact⟨ob.slots,u.keep b ob q n a hx⟩
def Un.kept(k: ∀b u,h.get? b=pi u->h'.get? b=pi u):Un fs ex H H h h':=
 ⟨λb a q _ _ _=>k b a q,λb a q _ _ _=>⟨a.slots,k b a q⟩,λ_ _ _ n _=>n,λb a q _=>⟨a,k b a q⟩,λ_ _ q=>q,λ_ _ _ q=>q,λ_ c q=>⟨#[],by rw[q];simp⟩⟩
def Un.refl:Un fs ex H H h h:=Un.kept λ_ _ q=>q
def Un.laid(k: ∀b u,h.get? b=pi u->h'.get? b=pi u)(hp:h.objs.size<=a)(hn:H a=qb):Un fs ex H (upd H a o) h h' where
 keep:=λb u q _ _ _=>k b u q;slot:=λb u q _ _ _=>⟨u.slots,k b u q⟩;free:=λb u q n _=>by rw[aA (bh (bg (ah q) hp))];exact n
 there:=λb u q _=>⟨u,k b u q⟩;tups:=λb c q=>by rw[aA (aJ q hn)];exact q
 frzs:=λb u c q=>by rw[aA (aJ q hn)];exact q
 tbls:=λb d q=>⟨#[],by rw[aA (aJ q hn),q];simp⟩
def Un.write(mu:Mut (H x))(he:e=x\/H e=pi (.own x))(k: ∀b u,b≠e->h.get? b=pi u->h'.get? b=pi u)(heo: ∃u,h'.get? e=pi u):Un fs ex H (upd H x o) h h':=by
 have f: ∀b,H b=qb->b≠x:=λb n z=>by subst z;rw[n]at mu;exact mu
 have d: ∀b,H b=qb->b≠e:=λb n z=>by
  subst z;rcases he with r|r;exact f b n r;rw[n]at r;cases r
 have c: ∀b u,H b=pi u->¬Mut (pi u)->b≠x:=λb u q nm z=>by subst z;rw[q]at mu;exact nm mu
 refine⟨λb u q n _ _=>k b u (d b n) q,λb u q n _ _=>⟨u.slots,k b u (d b n) q⟩,λb u q n _=>by rw[aA (f b n)];exact n,λb u q _=>?_,
  λb g q=>by rw[aA (c b _ q λz=>z)];exact q,λb u g q=>by rw[aA (c b _ q λz=>z)];exact q,λb i q=>⟨#[],by rw[aA (c b _ q λz=>z),q];simp⟩⟩
 by_cases a:b=e;subst a;exact heo;exact⟨u,k b u a q⟩
end
noncomputable def trk(h:Heap)(H:Hp):L1 Addr:=(oo h.objs.size).filter λa=>(H a).isSome
def IV(h:Heap)(H:Hp):Heap:=PySem.W.hideAll h (trk h H)
def xZ h H:(IV h H).objs.size=h.objs.size:=PySem.W.hideAll_size _ _
def BU(e:h.get? b=pi o)(n:H b=qb):(IV h H).get? b=pi o:=
 PySem.W.hideAll_get _ e λa=>by
  have q:(H b).isSome=qc:=(jy.mp a).2;rw[n]at q;simp at q
def sW(e:(IV h H).get? b=pi o):h.get? b=pi o/\H b=qb:=by have a:h.get? b=pi o:=PySem.W.of_hideAll (trk h H) e;refine⟨a,?_⟩;rcases q:H b with _|x;rfl;have c:b∈trk h H:=jy.mpr ⟨zPd (ah a),by simp[q]⟩;have z:(IV h H).get? b=qb:=PySem.W.hideAll_none (trk h H) c;rw[z]at e;cases e
noncomputable def Ff(g h:Heap)(L:Addr):cf:=(oo h.objs.size).filterMap λa=>if a=L\/(g.get? a).isSome=qc then qb else(h.get? a).map λo=>(a,o)
def dZ(g h:Heap)(L d:Addr):cf:=(Ff g h L).filter λp=>decide (p.1≠d)
structure Mod(K:mj)(mg:Str->Option Value)(base:Heap):Prop where
 kin:K.In base
 glob:base.Ns mainGlobals mg
 blt: ∃mb,base.Ns builtinsNs mb/\∀x:Str,x≠"__name__"->mb x=bootBuiltins x
 nolimit:base.NoLimit
structure Cx where
 prog:Program
 w:World
 K:mj
 mg:Str->Option Value
 base:Heap
 A:Around
 N:List Str
 s₀:Shared
 H₀:Hp
 env:Env
 outer:List Env
 stack:List Env
 ex:List Addr
 fn:Str->Bool
 calm:Bool
 pn:cf
 xe:Value->Shared->Prop
abbrev Cx.wp(X:Cx){α:Type}:=@wpAny α (model X.prog X.w) X.A
noncomputable def frs(l:L1 Env):L1 Addr:=l.filterMap (·.frame)
abbrev Cx.fs(X:Cx):L1 Addr:=frs X.outer
def Vis(sc:Scope)(x:Str):Prop:=sc.names.lookup x=pi .local\/sc.names.lookup x=pi .cell\/sc.names.lookup x=pi .free
def Loc(sc:Scope)(x:Str):Prop:=sc.names.lookup x=pi .local\/sc.names.lookup x=pi .cell
def Oq(env:Env)(h:Heap)(m:Str->L7 Value)(x:Str)(u:Value):Prop:=
 (env.kindOf x=pi .local/\m x=pi u)\/((env.kindOf x=pi .cell\/env.kindOf x=pi .free)/\∃c,env.cells.lookup x=pi c/\h.IsCell c (pi u))
structure Cx.Ok(X:Cx):Prop where
 mod:Mod X.K X.mg X.base
 kind:X.env.scope.kind= .function
 glob:X.env.globals=mainGlobals
 blt:X.env.builtins=builtinsNs
 above:X.s₀.z<=X.env.locals
 inj: ∀x y c,X.env.cells.lookup x=pi c->X.env.cells.lookup y=pi c->x=y
 has: ∀x,(X.env.kindOf x=pi .cell\/X.env.kindOf x=pi .free)->∃c,X.env.cells.lookup x=pi c
 cab: ∀x c,X.fn x=qc->X.env.cells.lookup x=pi c->X.s₀.z<=c
 hd:X.calm=qc->X.A.handled=qb
 frames:X.A.frames=pi X.stack
 stk:X.stack=X.outer\/(X.stack=X.env::X.outer/\X.env.frame=pi X.env.locals)
 exf: ∀b∈X.ex,b≠X.env.locals/\∀x c,X.env.cells.lookup x=pi c->c≠b
 bs: ∀b o,X.base.get? b=pi o->X.s₀.heap.get? b=pi o/\X.H₀ b=qb
 bsz:X.base.objs.size<=X.s₀.z
 noex: ∀b o,X.base.get? b=pi o->b∉X.ex
 exfs: ∀b∈X.ex,b∉X.fs
 funs:X.s₀.heap.FunFrames X.base X.outer
 frf: ∀b∈X.fs,X.H₀ b=qb
structure Inv(X:Cx)(cc:cf)(σ:List (Option V))(H:Hp)(s:Shared):Prop where
 ok:X.Ok
 os:s.os=X.s₀.os
 bare:AllBare s.gens
 base:Un X.fs X.ex X.H₀ H X.s₀.heap s.heap
 loc: ∃m,s.heap.Ns X.env.locals m/\∀(i:Nat) (x:Str) (v:V),X.N[i]? =pi x->σ[i]? =pi (pi v)->Vis X.env.scope x->∃u,bJ v u/\Oq X.env s.heap m x u
 cell: ∀x c,X.env.cells.lookup x=pi c->∃v,s.heap.IsCell c v
 free:H X.env.locals=qb
 freeC: ∀x c,X.env.cells.lookup x=pi c->H c=qb
 pin: ∀p∈X.pn++cc,s.heap.get? p.1=pi p.2/\H p.1=qb/\p.1≠X.env.locals/\p.1∉X.fs/\∀v,p.2.data≠ .cell v
 hok:HOk X.prog X.w H s.heap
 len:σ.length=X.N.length
section
variable{X:Cx}{cc:cf}{σ:L1 (L7 V)}{H:Hp}{s:Shared}
def Cx.Ok.nofr(ok:X.Ok)(e:X.base.get? b=pi o):b∉X.fs:=λa=>by
 have:=(ok.funs.mem a).1;rw[e]at this;cases this
theorem Inv.bs(I:Inv X cc σ H s): ∀b o,X.base.get? b=pi o->s.heap.get? b=pi o/\H b=qb:=λb o e=>
 ⟨I.base.keep b o (I.ok.bs b o e).1 (I.ok.bs b o e).2 (I.ok.nofr e) (I.ok.noex b o e),I.base.free b o (I.ok.bs b o e).1 (I.ok.bs b o e).2 (I.ok.noex b o e)⟩
def Inv.bk(I:Inv X cc σ H s): ∀b o,X.base.get? b=pi o->s.heap.get? b=pi o:=λb o e=>(I.bs b o e).1
theorem Inv.mod(I:Inv X cc σ H s):Mod X.K X.mg X.base:=I.ok.mod
def Inv.kIn(I:Inv X cc σ H s):X.K.In s.heap:=I.ok.mod.kin.keeps I.bk
theorem Inv.lt(I:Inv X cc σ H s):X.env.locals<s.z:=let ⟨_,hn,_⟩:=I.loc;hn.lt
def Inv.sz(I:Inv X cc σ H s):X.s₀.z<=s.z:=mq I.ok.above (mr I.lt)
def Inv.nofs(I:Inv X cc σ H s){a:Addr}(h:s.z<=a):a∉X.fs:=λb=>by
 obtain⟨_,o,c,_⟩:=I.ok.funs.mem b;exact absurd (bg (ah c) (mq I.sz h)) (lj _)
def Inv.cne(I:Inv X cc σ H s): ∀x c,X.env.cells.lookup x=pi c->c≠X.env.locals:=λx c e z=>by
 refine gzq λRz ez=>?_;obtain⟨v,o,d,f⟩:=I.cell x c e;obtain⟨m,⟨i,g,h,a,b,_⟩,_⟩:=I.loc;subst ez;rw[z,a]at d;cases d;rw[b]at f;cases f
theorem Inv.funs(I:Inv X cc σ H s):s.heap.FunFrames X.base X.outer:=by
 have all: ∀(l:L1 Env),(∀b∈frs l,b∈X.fs)->X.s₀.heap.FunFrames X.base l->s.heap.FunFrames X.base l:=by
  intro l;induction l with
  |nil=>intro _ _;trivial
  |cons n r m=>
   intro f i;refine gzq λRz ez=>?_;obtain⟨hk,⟨L,o,d,p,g,h⟩,j⟩:=i;subst ez;have c:L∈X.fs:=f L (by unfold frs;rw[gj,d];exact ie);obtain⟨q,e⟩:=I.base.slot L o g (I.ok.frf L c) c λz=>I.ok.exfs L z c;exact⟨hk,⟨L,_,d,p,e,h⟩,m (λb a=>f b (by unfold frs;rw[gj,d];exact f7 _ a)) j⟩
 exact all X.outer (λ_ a=>a) I.ok.funs
theorem Inv.stack(I:Inv X cc σ H s):s.heap.FunFrames X.base X.stack:=by rcases I.ok.stk with e|⟨e,hf⟩;rw[e];exact I.funs;rw[e];obtain⟨m,a,_⟩:=I.loc;refine .cons (by rw[I.ok.kind];decide) hf a ?_ I.funs;exact Heap.get?_none_of_le (mq I.ok.bsz I.ok.above)
def Inv.stkSub(I:Inv X cc σ H s): ∀b∈frs X.stack,b∈X.env.locals::X.fs:=λb a=>by
 rcases I.ok.stk with e|⟨e,hf⟩;rw[e]at a;exact f7 _ a;rw[e]at a;unfold frs at a;rw[gj,hf]at a;exact a
def Inv.stkFree(I:Inv X cc σ H s): ∀b∈frs X.stack,H b=qb:=λb a=>by
 rcases av.mp (I.stkSub b a)with e|a;rw[e];exact I.free;obtain⟨_,o,c,_⟩:=I.ok.funs.mem a;exact I.base.free b o c (I.ok.frf b a) λz=>I.ok.exfs b z a
def Inv.step{ch:L1 Addr}(I:Inv X cc σ H s)(hch: ∀b∈ch,(b∈X.ex\/X.s₀.z<=b)/\b≠X.env.locals/\(∀x c,X.env.cells.lookup x=pi c->c≠b)/\∀p∈X.pn++cc,p.1≠b)(keep: ∀b o,b≠X.env.locals->b∉X.fs->b∉ch->s.heap.get? b=pi o->H b=qb->h'.get? b=pi o)(slot: ∀b o,b≠X.env.locals->b∈X.fs->b∉ch->s.heap.get? b=pi o->H b=qb->∃sl,h'.get? b=pi {o with slots:=sl})(free: ∀b o,b∉ch->s.heap.get? b=pi o->H b=qb->H' b=qb)(there: ∀b o,b∉ch->s.heap.get? b=pi o->∃o',h'.get? b=pi o')(tups: ∀b xs,H b=pi (.tup xs)->H' b=pi (.tup xs))(frzs: ∀b o u,H b=pi (.frz o u)->H' b=pi (.frz o u))(tbls: ∀b ps,H b=pi (.tbl ps)->∃more,H' b=pi (.tbl (ps++more)))(ns: ∀m,s.heap.Ns X.env.locals m->h'.Ns X.env.locals m)(hok:HOk X.prog X.w H' h')(hg:AllBare g'):
  Inv X cc σ H' {s with heap:=h',gens:=g',drawn:=d',toks:=t'}:=by
 have A: ∀b o,X.s₀.heap.get? b=pi o->b≠X.env.locals:=λb o e=>bh (bg (ah e) I.ok.above);have j: ∀b o,X.s₀.heap.get? b=pi o->b∉X.ex->b∉ch:=λb o e a t=>by
  rcases(hch b t).1 with z|z;exact a z;exact absurd (bg (ah e) z) (lj _)
 have f: ∀x c,X.env.cells.lookup x=pi c->∀v,s.heap.IsCell c v->h'.IsCell c v:=λx c e v ⟨o,y,C⟩=>by
  have g:c∉ch:=λz=>(hch c z).2.2.1 x c e rfl;by_cases L:c∈X.fs;obtain⟨sl,q⟩:=slot c o (I.cne x c e) L g y (I.freeC x c e);exact⟨_,q,C⟩;exact⟨o,keep c o (I.cne x c e) L g y (I.freeC x c e),C⟩
 refine⟨I.ok,I.os,hg,⟨λb o e n t a=>?_,λb o e n t a=>?_,λb o e n a=>?_,λb o e a=>?_,λb xs e=>tups b xs (I.base.tups b xs e),λb o xs e=>frzs b o xs (I.base.frzs b o xs e),λb ps e=>?_⟩,?_,λx c e=>?_,?_,λx c e=>?_,λp J=>?_,hok,I.len⟩;exact keep b o (A b o e) t (j b o e a) (I.base.keep b o e n t a) (I.base.free b o e n a);obtain⟨sl,h⟩:=I.base.slot b o e n t a;obtain⟨E,B⟩:=slot b _ (A b o e) t (j b o e a) h (I.base.free b o e n a);exact⟨E,B⟩;obtain⟨o',h⟩:=I.base.there b o e a;exact free b o' (j b o e a) h (I.base.free b o e n a);obtain⟨o',h⟩:=I.base.there b o e a;exact there b o' (j b o e a) h;obtain⟨N,h⟩:=I.base.tbls b ps e;obtain⟨S,B⟩:=tbls b _ h;exact⟨N++S,by rw[B,Array.append_assoc]⟩;obtain⟨m,O,M⟩:=I.loc;refine⟨m,ns m O,λi x v h B Q=>?_⟩;obtain⟨u,r,l⟩:=M i x v h B Q;refine⟨u,r,?_⟩;rcases l with l|⟨k,c,e,z⟩;exact .inl l;exact .inr ⟨k,c,e,f x c e _ z⟩;obtain⟨v,z⟩:=I.cell x c e;exact⟨v,f x c e v z⟩;refine gzq λRz ez=>?_;obtain⟨m,⟨o,_,_,y,_⟩,_⟩:=I.loc;subst ez;exact free _ o (λz=>(hch _ z).2.1 rfl) y I.free;obtain⟨v,o,y,C⟩:=I.cell x c e;exact free c o (λz=>(hch c z).2.2.1 x c e rfl) y (I.freeC x c e);obtain⟨e,n,G,K,d⟩:=I.pin p J;have g:p.1∉ch:=λz=>(hch p.1 z).2.2.2 p J rfl;exact⟨keep p.1 p.2 G K g e n,free p.1 p.2 g e n,G,K,d⟩
def Inv.un(I:Inv X cc σ H s)(u:Un X.fs [] H H' s.heap h')(hok:HOk X.prog X.w H' h'):Inv X cc σ H' {s with heap:=h',toks:=t'}:=by
 obtain⟨m,⟨o,l,t,g,r⟩,_⟩:=id I.loc;obtain⟨q,i⟩:=u.any g I.free (by simp);exact I.step (g':=s.gens) (d':=s.drawn) (ch:=[]) (λ_ z=>nomatch z) (λb o _ c _ e n=>u.keep b o e n c (by simp)) (λb o _ c _ e n=>u.slot b o e n c (by simp)) (λb o _ e n=>u.free b o e n (by simp)) (λb o _ e=>u.there b o e (by simp)) u.tups u.frzs u.tbls (λp h=>by
  obtain⟨v,f,d,a,j⟩:=h;rw[g]at a;cases a;exact⟨_,f,d,i,j⟩) hok I.bare
def Inv.call(I:Inv X cc σ H s)(u:Un (frs X.stack) ch H H' s.heap h')(hok:HOk X.prog X.w H' h')(hg:AllBare g')(hch: ∀b∈ch,(b∈X.ex\/X.s₀.z<=b)/\b≠X.env.locals/\(∀x c,X.env.cells.lookup x=pi c->c≠b)/\∀p∈X.pn++cc,p.1≠b):
  Inv X cc σ H' {s with heap:=h',gens:=g',drawn:=d',toks:=t'}:=by
 obtain⟨m,⟨o,t,A,i,r⟩,_⟩:=id I.loc;obtain⟨y,g⟩:=u.any i I.free λz=>(hch _ z).2.1 rfl;exact I.step (ch:=ch) hch (λb o g j a e n=>u.keep b o e n (λz=>(av.mp (I.stkSub b z)).elim g j) a) (λb o _ _ a e n=>u.any e n a) (λb o a e n=>u.free b o e n a) (λb o a e=>u.there b o e a) u.tups u.frzs u.tbls (λv l=>by
  obtain⟨B,h,f,d,q⟩:=l;rw[i]at d;cases d;exact⟨_,h,f,g,q⟩) hok hg
def Inv.turned(I:Inv X cc σ H s)(k: ∀b o,b≠it->s.heap.get? b=pi o->h'.get? b=pi o)(hn:H it=qb)(hL:it≠X.env.locals)(h1:it∈X.ex\/X.s₀.z<=it)(h2: ∀x c,X.env.cells.lookup x=pi c->c≠it)(h3: ∀p∈X.pn++cc,p.1≠it):Inv X cc σ H {s with heap:=h',toks:=t'}:=by
 have d: ∀b u,H b=pi u->b≠it:=λb u e z=>by rw[z,hn]at e;cases e
 refine I.step (g':=s.gens) (d':=s.drawn) (ch:=[it]) (λb f=>?_) (λb o _ _ a e _=>k b o (λz=>a (by simp[z])) e) (λb o _ _ a e _=>⟨o.slots,k b o (λz=>a (by simp[z])) e⟩) (λ_ _ _ _ n=>n)
  (λb o a e=>⟨o,k b o (λz=>a (by simp[z])) e⟩) (λ_ _ e=>e) (λ_ _ _ e=>e) (λb l e=>⟨#[],by rw[e];simp⟩) (λm i=>?_) (λb u e=>?_) I.bare
 have e:b=it:=by simpa using f
 subst e;exact⟨h1,hL,h2,h3⟩;obtain⟨o,g,j,h,r⟩:=i;exact⟨o,g,j,k _ o (qa hL) h,r⟩;refine(I.hok b u e).stay (λc v a q=>k c v ?_ q) (λ_ q=>q) λ_ _ q=>q;rcases a with z|z;rw[z];exact d b u e;exact d c _ z
def Inv.tok(I:Inv X cc σ H s)t:Inv X cc σ H {s with toks:=t}:=I.un (h':=s.heap) (t':=t) Un.refl I.hok
theorem Inv.kept(I:Inv X cc σ H s)(k: ∀b u,s.heap.get? b=pi u->h'.get? b=pi u):Inv X cc σ H {s with heap:=h',toks:=t'}:=I.un (Un.kept k) (I.hok.kept k)
theorem Inv.laid{a:Addr}(I:Inv X cc σ H s)(k: ∀b u,s.heap.get? b=pi u->h'.get? b=pi u)(hp:s.z<=a)(new:ObjOk X.prog X.w (upd H a o) h' a o):
  Inv X cc σ (upd H a o) {s with heap:=h',toks:=t'}:=I.un (Un.laid k hp (I.hok.fresh hp)) (I.hok.laid k hp new)
theorem Inv.write(I:Inv X cc σ H s)(mu:Mut (H x))(he:e=x\/H e=pi (.own x))(k: ∀b u,b≠e->s.heap.get? b=pi u->h'.get? b=pi u)(heo: ∃u,h'.get? e=pi u)(new:ObjOk X.prog X.w (upd H x o) h' x o):Inv X cc σ (upd H x o) {s with heap:=h',toks:=t'}:=I.un (Un.write mu he k heo) (I.hok.write mu he k heo new)
def Inv.pins_of(I:Inv X cc σ H s)(h: ∀p∈pins',s.heap.get? p.1=pi p.2/\H p.1=qb/\p.1≠X.env.locals/\p.1∉X.fs/\∀v,p.2.data≠ .cell v):Inv X pins' σ H s:=
 ⟨I.ok,I.os,I.bare,I.base,I.loc,I.cell,I.free,I.freeC,λp a=>(jz.mp a).elim (λz=>I.pin p (gc _ z)) (h p),I.hok,I.len⟩
def nX{N:L1 Str}(hN:N.Nodup){i j:Nat}(a:N[i]? =pi x)(b:N[j]? =pi x):i=j:=by obtain⟨e,c⟩:=ay.mp a;obtain⟨f,d⟩:=ay.mp b;exact(List.getElem_inj hN).mp (c.trans d.symm)
def pZ{M:Model}{A:Around}{E:ce}{i:Nat}{x:Str}{v:V}{u:Value}{Q:Unit->Shared->Prop}(I:Inv X cc σ H s)(hN:X.N.Nodup)(hi:X.N[i]? =pi x)(hx:Loc X.env.scope x)(r:bJ v u)
  (h: ∀s',Inv X cc (σ.set i (pi v)) H s'->(∃a,mz a s.heap s'.heap/\(a=X.env.locals\/X.env.cells.lookup x=pi a))->Q () s') (hf:X.fn x=qc\/X.env.scope.names.lookup x=pi .local:=by first|exact .inl rfl|exact .inr rfl|assumption):wpAny M A (storeName X.env x u) Q E s:=by
 obtain⟨m,hn,hl⟩:=id I.loc;have U:(X.env.scope.kind== .class||(X.env.scope.kind== .module&&X.env.locals != X.env.globals))=qe:=by rw[I.ok.kind];rfl
 have G:i<σ.length:=by rw[I.len];exact(ay.mp hi).1
 have cne:=I.cne;have l: ∀{a:Addr} {O:Heap},(∃o,s.heap.get? a=pi o/\H a=qb)->mz a s.heap O->HOk X.prog X.w H O:=λ{a O} ha f b ob e=>by
  obtain⟨_,_,B⟩:=ha;refine(I.hok b ob e).stay (λc w' t q=>(f.2 c ?_).trans q) (λ_ q=>q) λ_ _ q=>q;rintro rfl;rcases t with rfl|t;rw[B]at e;cases e;rw[B]at t;cases t
 rcases hx with hk|hk;refine wpAny_storeName_local hk hn (λO ad f=>?_) U;obtain⟨oL,_,_,ab,_⟩:=id hn;refine h _ ⟨I.ok,I.os,I.bare,⟨λb o e n K hx=>?_,λb o e n K hx=>?_,I.base.free,λb o e hx=>?_,I.base.tups,I.base.frzs,I.base.tbls⟩,⟨_,ad,λj y v' g C e3=>?_⟩,λy c e=>?_,I.free,I.freeC,λp hp=>?_,l ⟨oL,ab,I.free⟩ f,by simpa using I.len⟩ ⟨_,f,.inl rfl⟩;exact(f.2 b (bh (bg (ah e) I.ok.above))).trans (I.base.keep b o e n K hx);obtain⟨sl,g⟩:=I.base.slot b o e n K hx;exact⟨sl,(f.2 b (bh (bg (ah e) I.ok.above))).trans g⟩;obtain⟨o',g⟩:=I.base.there b o e hx;exact⟨o',(f.2 b (bh (bg (ah e) I.ok.above))).trans g⟩;by_cases J:j=i;subst J;rw[hi]at g;cases g;rw[bj G]at C;cases C;exact⟨u,r,.inl ⟨hk,by simp⟩⟩;rw[bc (qa J)]at C;obtain⟨u',r',q⟩:=hl j y v' g C e3;refine⟨u',r',?_⟩;rcases q with ⟨k,e⟩|⟨k,c,e,z⟩;refine .inl ⟨k,?_⟩;have:y≠x:=λe=>J (nX hN g (e▸hi));simp[this,e];exact .inr ⟨k,c,e,z.sameBut f (cne y c e)⟩;obtain⟨w',z⟩:=I.cell y c e;exact⟨w',z.sameBut f (cne y c e)⟩;obtain⟨e,n,ne,nf,d⟩:=I.pin p hp;exact⟨(f.2 p.1 ne).trans e,n,ne,nf,d⟩;have L:X.fn x=qc:=by
  rcases hf with z|z;exact z;rw[z]at hk;cases hk
 obtain⟨c,t⟩:=I.ok.has x (.inl hk);obtain⟨w',z⟩:=I.cell x c t;refine wpAny_storeName_cell I.ok.kind hk t z (λO S f=>?_);obtain⟨oc,W,Y⟩:=id z;refine h {s with heap:=O} ⟨I.ok,I.os,I.bare,⟨λb o e n K hx=>?_,λb o e n K hx=>?_,I.base.free,λb o e hx=>?_,I.base.tups,I.base.frzs,I.base.tbls⟩,⟨m,hn.sameBut f (qa (cne x c t)),λj y v' g C e3=>?_⟩,λy Z e=>?_,I.free,I.freeC,λp hp=>?_,l ⟨oc,W,I.freeC x c t⟩ f,by simpa using I.len⟩ ⟨c,f,.inr t⟩;exact(f.2 b (bh (bg (ah e) (I.ok.cab x c L t)))).trans (I.base.keep b o e n K hx);obtain⟨sl,g⟩:=I.base.slot b o e n K hx;exact⟨sl,(f.2 b (bh (bg (ah e) (I.ok.cab x c L t)))).trans g⟩;obtain⟨o',g⟩:=I.base.there b o e hx;exact⟨o',(f.2 b (bh (bg (ah e) (I.ok.cab x c L t)))).trans g⟩;by_cases J:j=i;subst J;rw[hi]at g;cases g;rw[bj G]at C;cases C;exact⟨u,r,.inr ⟨.inl hk,c,t,S⟩⟩;rw[bc (qa J)]at C;obtain⟨u',r',q⟩:=hl j y v' g C e3;refine⟨u',r',?_⟩;rcases q with q|⟨k,Z,e,z'⟩;exact .inl q;refine .inr ⟨k,Z,e,z'.sameBut f ?_⟩;rintro rfl;exact J (nX hN g (I.ok.inj _ _ _ e t▸hi));by_cases T:Z=c;subst T;exact⟨_,S⟩;obtain⟨w2,z2⟩:=I.cell y Z e;exact⟨w2,z2.sameBut f T⟩;obtain⟨e,n,ne,nf,d⟩:=I.pin p hp;refine⟨(f.2 p.1 ?_).trans e,n,ne,nf,d⟩;intro q;rw[q,W]at e;have q':oc=p.2:=jw e;exact d w' (by rw[<-q'];exact Y)
def gW{M:Model}{A:Around}{E:ce}{i:Nat}{x:Str}{v:V}{u:Value}{Q:Unit->Shared->Prop}(I:Inv X cc σ H s)(hN:X.N.Nodup)(hi:X.N[i]? =pi x)(hx:Loc X.env.scope x)(r:bJ v u)
  (h: ∀s',Inv X cc (σ.set i (pi v)) H s'->Q () s') (hf:X.fn x=qc\/X.env.scope.names.lookup x=pi .local:=by first|exact .inl rfl|exact .inr rfl|assumption):wpAny M A (storeName X.env x u) Q E s:=
 pZ I hN hi hx r (λs' a _=>h s' a) hf
def Inv.call'(I:Inv X cc σ H s)(ho:s'.os=s.os)(u:Un (frs X.stack) ch H H' s.heap s'.heap)(hok:HOk X.prog X.w H' s'.heap)(hg:AllBare s'.gens)(hch: ∀b∈ch,(b∈X.ex\/X.s₀.z<=b)/\b≠X.env.locals/\(∀x c,X.env.cells.lookup x=pi c->c≠b)/\∀p∈X.pn++cc,p.1≠b):Inv X cc σ H' s':=by obtain⟨d,g',d',t',a⟩:=s';have e:a=s.os:=ho;subst e;exact I.call (g':=g') (t':=t') (d':=d') u hok hg hch
end
abbrev XK:=Value->L7 Addr->Hp->Prop
abbrev St:=L1 (L7 V)
abbrev VK:=V->Hp->Prop
abbrev TE:=St->Hp->VK->Prop
abbrev TT:=St->Hp->(Bool->Hp->Prop)->Prop
abbrev TA:=St->Hp->(L1 V->Hp->Prop)->Prop
structure Ends where
 nx:St->Hp->Prop
 rt:VK
 bk:St->Hp->Prop:=λ_ _=>False
 ct:St->Hp->Prop:=λ_ _=>False
abbrev TS:=Ends->St->Hp->Prop
def EP(X:Cx)(cc:cf)(σ:St)(Q:VK)(u:Value)(s':Shared):Prop:= ∃v H',Inv X cc σ H' s'/\bJ v u/\Q v H'
def TP(X:Cx)(cc:cf)(σ:St)(Q:Bool->Hp->Prop)(b:Bool)(s':Shared):Prop:= ∃H',Inv X cc σ H' s'/\Q b H'
def AP(X:Cx)(cc:cf)(σ:St)(Q:L1 V->Hp->Prop)(us:L1 Value)(s':Shared):Prop:= ∃vs H',Inv X cc σ H' s'/\b9 vs us/\Q vs H'
def SP(X:Cx)(cc:cf)(D:Ends)(f:Flow)(s':Shared):Prop:=
 match f with
 |.next=>∃σ' H',Inv X cc σ' H' s'/\D.nx σ' H'
 |.brk=>∃σ' H',Inv X cc σ' H' s'/\D.bk σ' H'
 |.cont=>∃σ' H',Inv X cc σ' H' s'/\D.ct σ' H'
 |.ret u=>∃v σ' H',Inv X cc σ' H' s'/\bJ v u/\D.rt v H'
def PE(X:Cx)(e:Expr)(t:TE):Prop:=
 ∀(cc:cf) (s:Shared) (σ:St) (H:Hp) (Q:VK),Inv X cc σ H s->t σ H Q->X.wp (eval e X.env) (EP X cc σ Q) X.xe s
def PT(X:Cx)(e:Expr)(t:TT):Prop:=
 ∀(cc:cf) (s:Shared) (σ:St) (H:Hp) (Q:Bool->Hp->Prop),Inv X cc σ H s->t σ H Q->X.wp (isTrue e X.env (eval e X.env)) (TP X cc σ Q) X.xe s
def PW(X:Cx)(e:Expr)(t:TT):Prop:=
 ∀(whole:Sem Value) (cc:cf) (s:Shared) (σ:St) (H:Hp) (Q:Bool->Hp->Prop),Inv X cc σ H s->t σ H Q->X.wp (isTrue e X.env whole) (TP X cc σ Q) X.xe s
def PA(X:Cx)(es:L1 Expr)(t:TA):Prop:=
 ∀(pos:Pos) (cc:cf) (s:Shared) (σ:St) (H:Hp) (Q:L1 V->Hp->Prop),Inv X cc σ H s->t σ H Q->X.wp (spliced (backTo pos (starEach es X.env))) (AP X cc σ Q) X.xe s
def PS(X:Cx)(st:Stmt)(t:TS):Prop:=
 ∀(cc:cf) (s:Shared) (σ:St) (H:Hp) (D:Ends),Inv X cc σ H s->t D σ H->X.wp (exec st X.env) (SP X cc D) X.xe s
def PSs(X:Cx)(st:L1 Stmt)(t:TS):Prop:=
 ∀(cc:cf) (s:Shared) (σ:St) (H:Hp) (D:Ends),Inv X cc σ H s->t D σ H->X.wp (execs st X.env) (SP X cc D) X.xe s
def thn{t:Sem α}{Q Q'}{E:ce}(h:wpAny M A t Q E s)(hQ: ∀a s,Q a s->Q' a s):wpAny M A t Q' E s:=wpAny_mono h hQ λ_ _ x=>x
section
variable{X:Cx}{a b:Expr}{ta tb:TE}{pos:Pos}{dZ:L1 Expr}
def DZ(i:Nat):TE:=λσ H Q=>∃v,σ[i]? =pi (pi v)/\Q v H
def tC(v:V):TE:=λ_ H Q=>Q v H
def bO{i:Nat}{x:Str}{pos:Pos}(hN:X.N[i]? =pi x)(hv:Vis X.env.scope x)(hd:(x==("__debug__":Str))=qe:=by decide)(hcd:(x==("__classdict__":Str))=qe:=by decide):PE X (.Name x pos) (DZ i):=by intro j s f H Q I h;obtain⟨v,e,h⟩:=h;obtain⟨m,o,n⟩:=I.loc;obtain⟨u,r,l⟩:=n i x v hN e hv;have b:EP X j f Q u s:=⟨v,H,I,r,h⟩;rcases l with ⟨hk,g⟩|⟨hk,c,d,a⟩;exact wpAny_Name (wpAny_loadName_local I.ok.kind hk o g b) hd;rcases hk with hk|hk;exact wpAny_Name (wpAny_loadName_cell I.ok.kind hk d a b) hd;exact wpAny_Name (wpAny_loadName_free I.ok.kind hk d a b hcd) hd
def x6{i j pos}:PE X (.Constant (.int i) j pos) (tC (.int i)):=λ_ _ _ H _ I h=>wpAny_Constant_int ⟨.int i,H,I.tok _,⟨_,rfl⟩,h⟩
def Mo{b j pos}:PE X (.Constant (.bool b) j pos) (tC (.bl b)):=λ_ _ _ H _ I h=>Constant_bool ⟨.bl b,H,I,rfl,h⟩
def IW{j pos}:PE X (.Constant .none j pos) (tC .non):=λ_ _ _ H _ I h=>Constant_none ⟨.non,H,I,rfl,h⟩
def IX{x j pos}:PE X (.Constant (.str x) j pos) (tC (.str x)):=λ_ _ _ H _ I h=>Calls.Constant_str ⟨.str x,H,I.tok _,⟨_,rfl⟩,h⟩
def Gl(X:Cx)(x:Str):Prop:=X.env.kindOf x=pi .globalImplicit
def fT{E:ce}{cc:cf}{s:Shared}{σ:St}{H:Hp}{x:Str}{u:Value}{pos:Pos}{Q:ce}(I:Inv X cc σ H s)(hg:Gl X x)(hm:X.mg x=pi u)(h:Q u s)
  (hd:(x==("__debug__":Str))=qe:=by decide):X.wp (eval (.Name x pos) X.env) Q E s:=
 dt I.ok.kind hg (Calls.loadGlobal_global (by rw[I.ok.glob];exact I.mod.glob.keeps I.bk) hm h) hd
def f9{E:ce}{cc:cf}{s:Shared}{σ:St}{H:Hp}{x:Str}{u:Value}{pos:Pos}{Q:ce}(I:Inv X cc σ H s)(hg:Gl X x)(hm:X.mg x=qb)(hv:bootBuiltins x=pi u)(h:Q u s)
  (hn:x≠"__name__":=by decide) (hd:(x==("__debug__":Str))=qe:=by decide):X.wp (eval (.Name x pos) X.env) Q E s:=by
 obtain⟨c,a,b⟩:=I.mod.blt;exact dt I.ok.kind hg (Calls.loadGlobal_builtin (by rw[I.ok.glob];exact I.mod.glob.keeps I.bk) hm (by rw[I.ok.blt];exact a.keeps I.bk) ((b x hn).trans hv) h) hd
def Fg{x:Str}{v:V}{u:Value}{pos:Pos}(hg:Gl X x)(hm:X.mg x=pi u)(r:bJ v u)(hd:(x==("__debug__":Str))=qe:=by decide):PE X (.Name x pos) (tC v):=
 λ_ _ _ H _ I h=>fT I hg hm ⟨v,H,I,r,h⟩ hd
def PC(X:Cx)(op:CmpOp)(a b:Expr)(t:TE):Prop:=
 ∀(cc:cf) (s:Shared) (σ:St) (H:Hp) (Q:VK),Inv X cc σ H s->t σ H Q->
  X.wp (eval a X.env) (λv s₁=>X.wp (eval b X.env) (λu s₂=>X.wp (compareOp op v u) (EP X cc σ Q) X.xe s₂) X.xe s₁) X.xe s
def tB(t:TE):TT:=λσ H Q=>t σ H λx H1=>∃c,x= .bl c/\Q c H1
def IY{op:CmpOp}{t:TE}(h:PC X op a b t)(h1:behindInMarks op b=qe:=by first|exact nobehind _ rfl rfl|rfl):PE X (.Compare a [op] [b] pos) t:=λd s c H Q I e=>wpAny_Compare1 (h d s c H Q I e) h1
def IZ{e:Expr}{t:TE}(h:PE X e t)(he: ∀whole,isTrue e X.env whole=(do let v<-whole;standAt e.pos;holding [v] (truthy v)):=by intro _;rfl):PT X e (tB t):=by intro g s f H Q I j;refine isTrue_plain (thn (h g s f H _ I j) λv l a=>?_) (he _);obtain⟨x,i,c,b,q1⟩:=a;obtain⟨d,rfl,q⟩:=q1;cases b;exact wpAny_truthy_bool ⟨i,c,q⟩
def NQ(t u:TT):TT:=λσ H Q=>t σ H λc H1=>if c=qc then u σ H1 Q else Q qe H1
def tOr(t u:TT):TT:=λσ H Q=>t σ H λc H1=>if c=qc then Q qc H1 else u σ H1 Q
def NR(t:TT):TT:=λσ H Q=>t σ H λc H1=>Q (!c) H1
def pw_and1(ha:PT X a tA):PW X (.BoolOp .And [a] pos) tA:=by intro g d s b H Q I h;refine isTrue_and (thn (ha d s b H Q I h) λc f e=>?_);rcases c with _|_;exact e;exact isTrue_and_nil e
def pw_or1(ha:PT X a tA):PW X (.BoolOp .Or [a] pos) tA:=by intro g d s b H Q I h;refine isTrue_or (thn (ha d s b H Q I h) λc f e=>?_);rcases c with _|_;exact isTrue_or_nil e;exact e
def pw_and(ha:PT X a tA)(hb:PW X (.BoolOp .And (b::dZ) pos) tB'):PW X (.BoolOp .And (a::b::dZ) pos) (NQ tA tB'):=by intro l g s f H Q I h;refine isTrue_and (thn (ha g s f H _ I h) λc j d=>?_);obtain⟨i,e,q1⟩:=d;rcases c with _|_;exact⟨i,e,q1⟩;exact hb l g j f i Q e q1
def pw_or(ha:PT X a tA)(hb:PW X (.BoolOp .Or (b::dZ) pos) tB'):PW X (.BoolOp .Or (a::b::dZ) pos) (tOr tA tB'):=by intro l g s f H Q I h;refine isTrue_or (thn (ha g s f H _ I h) λc j d=>?_);obtain⟨i,e,q1⟩:=d;rcases c with _|_;exact hb l g j f i Q e q1;exact⟨i,e,q1⟩
def Ja(ha:PT X a tA):PT X (.UnaryOp .Not a pos) (NR tA):=by intro d s b H Q I h;exact isTrue_not (ha d s b H (λc e=>Q (!c) e) I h)
def Jb(ta tb:TE):TE:=λσ H Q=>ta σ H λx H1=>∃c,x= .bl c/\if c=qc then tb σ H1 Q else Q (.bl qe) H1
def NT(ta tb:TE):TE:=λσ H Q=>ta σ H λx H1=>∃c,x= .bl c/\if c=qc then Q (.bl qc) H1 else tb σ H1 Q
def Mp(ta:TE):TE:=λσ H Q=>ta σ H λx H1=>∃c,x= .bl c/\Q (.bl (!c)) H1
def Jc(h:PE X a t):PE X (.BoolOp op [a] pos) t:=λc s b H Q I d=>BoolOp_one (h c s b H Q I d)
def Jd(ha:PE X a ta)(hb:PE X (.BoolOp .And (b::dZ) pos) tb):PE X (.BoolOp .And (a::b::dZ) pos) (Jb ta tb):=by intro g s f H Q I h;refine BoolOp_and (thn (ha g s f H _ I h) λv l d=>?_);obtain⟨x,i,e,j,q1⟩:=d;obtain⟨c,rfl,q1⟩:=q1;cases j;refine wpAny_truthy_bool ?_;rcases c with _|_;exact⟨.bl qe,i,e,rfl,q1⟩;exact hb g l f i Q e q1
def Mq(ha:PE X a ta)(hb:PE X (.BoolOp .Or (b::dZ) pos) tb):PE X (.BoolOp .Or (a::b::dZ) pos) (NT ta tb):=by intro g s f H Q I h;refine BoolOp_or (thn (ha g s f H _ I h) λv l d=>?_);obtain⟨x,i,e,j,q1⟩:=d;obtain⟨c,rfl,q1⟩:=q1;cases j;refine wpAny_truthy_bool ?_;rcases c with _|_;exact hb g l f i Q e q1;exact⟨.bl qc,i,e,rfl,q1⟩
def Je(ha:PE X a ta):PE X (.UnaryOp .Not a pos) (Mp ta):=by intro g s f H Q I h;refine UnaryOp_ (thn (ha g s f H _ I h) λv j b=>?_);obtain⟨x,i,e,d,q1⟩:=b;obtain⟨c,rfl,q1⟩:=q1;cases d;exact not_of (wpAny_truthy_bool ⟨.bl (!c),i,e,rfl,q1⟩)
def tIf(t:TT)(ta tb:TE):TE:=λσ H Q=>t σ H λc H1=>if c=qc then ta σ H1 Q else tb σ H1 Q
def uO(hc:PT X c tA)(ha:PE X a ta)(hb:PE X b tb):PE X (.IfExp c a b pos) (tIf tA ta tb):=by intro g s f H Q I h;refine wpAny_IfExp (thn (hc g s f H _ I h) λd i e=>?_);obtain⟨l,j,q1⟩:=e;rcases d with _|_;exact hb g i f l Q j q1;exact ha g i f l Q j q1
end
def SqL(K:mj)(H:Hp)(a:Addr)(xs:L1 V):Prop:=
 Rd H a (.lst xs)\/
  ∃(o:Obj) (its:Array Value) (n:Nat),K.lookup a=pi o/\o.cls= .type "list"/\o.dict=qb/\o.data= .seq its n/\its.size<=sizeLine/\b9 xs its.toList
def SqT(K:mj)(H:Hp)(a:Addr)(xs:L1 V):Prop:=
 Rd H a (.tup xs)\/
  ∃(o:Obj) (its:Array Value) (n:Nat),K.lookup a=pi o/\o.cls= .type "tuple"/\o.dict=qb/\o.data= .seq its n/\its.size<=sizeLine/\b9 xs its.toList
noncomputable def Os:Value->L7 V
 |.none=>pi .non
 |.bool b=>pi (.bl b)
 |.int i _=>pi (.int i)
 |.str x _=>pi (.str x)
 |.bytes b _=>pi (.byt b)
 |.float b _=>pi (.flt b)
 |.ref a=>pi (.ref a)
 |.type n=>pi (.ty n)
 |_=>qb
def bJ.abs(r:bJ x u):Os u=pi x:=by
 cases x with
 |non=>cases r;rfl
 |bl _=>cases r;rfl
 |int _=>obtain⟨t,rfl⟩:=r;rfl
 |str _=>obtain⟨t,rfl⟩:=r;rfl
 |byt _=>obtain⟨t,rfl⟩:=r;rfl
 |flt _=>obtain⟨t,rfl⟩:=r;rfl
 |ref _=>cases r;rfl
 |ty _=>cases r;rfl
def bJ.inj(r:bJ x u)(q:bJ y u):x=y:=jw (r.abs.symm.trans q.abs)
theorem b9.inj: ∀{xs ys} {us},b9 xs us->b9 ys us->xs=ys
 |_,_,_,.nil,.nil=>rfl
 |_,_,_,.cons r t,.cons r' t'=>by rw[r.inj r',b9.inj t t']
section
variable{σ:St}
def SqL.of{K}(h:H a=pi (.lst xs)):SqL K H a xs:=.inl (.inl h)
def SqT.of{K}(h:H a=pi (.tup xs)):SqT K H a xs:=.inl (.inl h)
def Inv.list(I:Inv X cc σ H s)(h:SqL X.K H a xs): ∃its,b9 xs its/\PlainL s.heap a its.toArray/\xs.length<=sizeLine:=by rcases h with h|⟨o,its,n,hk,hc,hd,hs,hz,r⟩;obtain⟨z,its,n,r,e⟩:=h.ok I.hok;exact⟨its,r,⟨_,n,e,rfl,rfl,rfl⟩,z⟩;refine⟨its.toList,r,⟨o,n,I.kIn a o hk,hc,hd,by simpa using hs⟩,?_⟩;have e:=r.length;simp only[gm]at e;lia
def Inv.tuple(I:Inv X cc σ H s)(h:SqT X.K H a xs): ∃its,b9 xs its/\IsTup s.heap a its.toArray/\xs.length<=sizeLine:=by rcases h with h|⟨o,its,n,hk,hc,_,hs,hz,r⟩;obtain⟨z,its,r,p,_⟩:=h.ok I.hok;exact⟨its,r,p,z⟩;refine⟨its.toList,r,⟨o,I.kIn a o hk,hc,n,by simpa using hs⟩,?_⟩;have e:=r.length;simp only[gm]at e;lia
def Inv.list_inj(I:Inv X cc σ H s)(h:SqL X.K H a xs)(h':SqL X.K H a ys):xs=ys:=by
 obtain⟨c,r,⟨o,n,e,_,_,d⟩,_⟩:=I.list h;obtain⟨b,i,⟨l,j,g,_,_,f⟩,_⟩:=I.list h';rw[e]at g;cases g;rw[d]at f;injection f with d1 _
 have:c=b:=by simpa using congrArg Array.toList d1
 subst this;exact r.inj i
def Inv.tuple_inj(I:Inv X cc σ H s)(h:SqT X.K H a xs)(h':SqT X.K H a ys):xs=ys:=by
 obtain⟨c,r,⟨o,e,_,n,d⟩,_⟩:=I.tuple h;obtain⟨b,i,⟨l,g,_,j,f⟩,_⟩:=I.tuple h';rw[e]at g;cases g;rw[d]at f;injection f with d1 _
 have:c=b:=by simpa using congrArg Array.toList d1
 subst this;exact r.inj i
end
noncomputable abbrev Cx.wish(X:Cx)(E:ce):Cx:={X with xe:=E}
section
variable{X:Cx}{st:Stmt}{dZ:L1 Stmt}{t u:TS}{e:Expr}{te:TE}{pos:Pos}
def BV:TS:=λD σ H=>D.nx σ H
def NU(t u:TS):TS:=λD σ H=>t {D with nx:=u D} σ H
def kZ:PSs X [] BV:=λ_ _ a H _ I h=>wpAny_execs_nil ⟨a,H,I,h⟩
def e9(h1:PS X st t)(h2:PSs X dZ u):PSs X (st::dZ) (NU t u):=by
 intro b s e H D I h;refine wpAny_execs_cons (thn (h1 b s e H {D with nx:=u D} I h) λf c q=>?_);cases f with
 |next=>
  obtain⟨a,g,d,q⟩:=q;exact h2 b c a g D d q
 |ret v=>exact q
 |brk=>exact q
 |cont=>exact q
def nY(h1:PS X st t):PSs X [st] t:=by
 intro b s a H D I h;refine wpAny_execs_cons (thn (h1 b s a H D I h) λf c q=>?_);cases f with
 |next=>exact wpAny_execs_nil q
 |ret v=>exact q
 |brk=>exact q
 |cont=>exact q
def x8:PS X (.Pass pos) BV:=λ_ _ a H _ I h=>wpAny_Pass ⟨a,H,I,h⟩
def Inv.quiet{σ:St}(I:Inv X cc σ H s):interactive X.env=qe:=by simp[interactive,I.ok.kind]
def Fh(te:TE):TS:=λD σ H=>te σ H λ_ H1=>D.nx σ H1
def nZ(he:PE X e te)(hs:swapsWith e qb pos.line X.env=pure qe:=by rfl):PS X (.Expr e pos) (Fh te):=by intro d s b H D I h;exact wpAny_Expr_any (thn (he d s b H _ I h) λv i a=>by obtain⟨x,f,c,g,q1⟩:=a;exact⟨b,f,c,q1⟩) I.quiet hs
def Ot(te:TE):TS:=λD σ H=>te σ H D.rt
def uP(he:PE X e te):PS X (.Return (pi e) pos) (Ot te):=by intro f s b H D I h;exact wpAny_Return_some (thn (he f s b H _ I h) λv i a=>by obtain⟨x,g,d,c,q1⟩:=a;exact⟨x,b,g,d,c,q1⟩)
def Mr(c:TT)(t u:TS):TS:=λD σ H=>c σ H λb H1=>if b=qc then t D σ H1 else u D σ H1
def Jf(hc:PT X c tc)(ha:PSs X a t)(hb:PSs X b u):PS X (.If c a b pos) (Mr tc t u):=by intro g s f H D I h;refine wpAny_If (thn (hc g s f H _ I h) λd i e=>?_);obtain⟨l,j,q1⟩:=e;rcases d with _|_;exact hb g i f l D j q1;exact ha g i f l D j q1
end
abbrev TG:=V->St->Hp->(St->Hp->Prop)->Prop
abbrev TGs:=L1 V->St->Hp->(St->Hp->Prop)->Prop
def PG(X:Cx)(target:Expr)(t:TG):Prop:=
 ∀(cc:cf) (s:Shared) (σ:St) (H:Hp) (v:V) (u:Value) (Q:St->Hp->Prop),Inv X cc σ H s->bJ v u->t v σ H Q->
  X.wp (assign target X.env u) (λ_ s'=>∃σ' H',Inv X cc σ' H' s'/\Q σ' H') X.xe s
def PGs(X:Cx)(ts:L1 Expr)(t:TGs):Prop:=
 ∀(cc:cf) (s:Shared) (σ:St) (H:Hp) (vs:L1 V) (us:L1 Value) (Q:St->Hp->Prop),Inv X cc σ H s->b9 vs us->t vs σ H Q->
  X.wp (assignInOrder ((assignEach ts X.env).map (·.2)) us) (λ_ s'=>∃σ' H',Inv X cc σ' H' s'/\Q σ' H') X.xe s
abbrev Ms:=V->V->V->Hp->(Hp->Prop)->Prop
def Mt(X:Cx)(t:Ms):Prop:=
 ∀(cc:cf) (s:Shared) (σ:St) (H:Hp) (o i v:V) (ov iv u:Value) (Q:Hp->Prop),Inv X cc σ H s->bJ o ov->bJ i iv->bJ v u->t o i v H Q->
  X.wp (setItem ov iv u) (λ_ s'=>∃H',Inv X cc σ H' s'/\Q H') X.xe s
section
variable{X:Cx}{pos:Pos}
def k9(i:Nat):TG:=λv σ H Q=>Q (σ.set i (pi v)) H
def lA{i:Nat}{x:Str}(hN:X.N.Nodup)(hi:X.N[i]? =pi x)(hx:Loc X.env.scope x)(hf:X.fn x=qc\/X.env.scope.names.lookup x=pi .local:=by first|exact .inl rfl|exact .inr rfl|assumption):PG X (.Name x pos) (k9 i):=by intro d s b H v u Q I r h;exact wpAny_assign_Name (gW I hN hi hx r (λc a=>⟨_,H,a,h⟩) hf)
def Mu:TGs:=λvs σ H Q=>vs=[]/\Q σ H
def Fj(t:TG)(u:TGs):TGs:=λvs σ H Q=>∃v r,vs=v::r/\t v σ H λσ' H'=>u r σ' H' Q
def x9:PGs X [] Mu:=by intro c s a H d b Q I r h;obtain⟨e,h⟩:=h;subst e;cases r;exact assignInOrder_nil ⟨a,H,I,h⟩
def uQ{e:Expr}{es:L1 Expr}{t:TG}{u:TGs}(h1:PG X e t)(h2:PGs X es u)
  (hs:(assignEach (e::es) X.env).map (·.2)=assign e X.env::(assignEach es X.env).map (·.2):=by rfl):PGs X (e::es) (Fj t u):=by
 intro c s g H o n Q I r h;obtain⟨v,m,i,h⟩:=h;subst i;cases r with
 |cons r j=>
  rw[hs];refine assignInOrder_cons (thn (h1 c s g H _ _ _ I r h) λ_ d a=>?_);obtain⟨b,l,f,q1⟩:=a;exact h2 c d b l _ _ Q f j q1
def IE(K:mj)(n:Nat)(t:TGs):TG:=λv σ H Q=>∃a xs,v= .ref a/\SqT K H a xs/\xs.length=n/\t xs σ H Q
def D0{es:L1 Expr}{k:Nat}{t:TGs}{n:Nat}(hc:X.calm=qc)(h:PGs X es t)
  (hn:(assignEach es X.env).length=n:=by rfl) (hst:(assignEach es X.env).findIdx? (·.1)=qb:=by rfl):PG X (.Tuple es k pos) (IE X.K n t):=by
 intro g s f H v u Q I r c;obtain⟨a,x,q,y,p,c⟩:=c;subst q;cases r;obtain⟨j,d,l,z⟩:=I.tuple y;refine assign_Tuple_tuple (I.ok.hd hc) l (by simp[hn, <-p,d.length]) hst λw i=>?_;have m:Inv X g f H {s with heap:=w}:=I.kept (t':=s.toks) λb o e=>i b o (bh (ah e)) e;exact h g _ f H x _ Q m (by simpa using d) c
def Ou(to ti:TE)(t:Ms):TG:=λv σ H Q=>to σ H λo H1=>ti σ H1 λi H2=>t o i v H2 λH3=>Q σ H3
def Jg{o i:Expr}{to ti:TE}{t:Ms}(ho:PE X o to)(hi:PE X i ti)(hs:Mt X t)
  (ha: ∀v,assign (.Subscript o i pos) X.env v=(do
   let ov<-holding [v] (eval o X.env);let iv<-holding [v,ov] (eval i X.env);standAt pos;holding [v,ov,iv] (setItem ov iv v);release [v,ov,iv] []):=by intro _;rfl):PG X (.Subscript o i pos) (Ou to ti t):=by
 intro c s b H v u Q I r h;rw[ha];refine aa (wpAny_holding (thn (ho c s b H _ I h) λov g a=>?_));obtain⟨x,z,j,q,q1⟩:=a;refine aa (wpAny_holding (thn (hi c g b z _ j q1) λiv n a=>?_));obtain⟨y,w,m,e,d⟩:=a;refine aa (wpAny_standAt (aa (wpAny_holding (thn (hs c n b w x y v ov iv u _ m q e r d) λ_ A a=>?_))));obtain⟨l,p,f⟩:=a;exact wpAny_release ⟨b,l,p,f⟩
def Fk(te:TE)(g:TG):TS:=λD σ H=>te σ H λx H1=>g x σ H1 D.nx
def D1{tg e:Expr}{te:TE}{g:TG}(he:PE X e te)(hg:PG X tg g)(hs:swapsWithSole [tg] e pos.line X.env=pure qe:=by rfl)(hw:swappedStores [tg] e X.env=pure qb:=by rfl)
  (h1:(assignEach [tg] X.env).map (·.2)=[assign tg X.env]:=by rfl):PS X (.Assign [tg] e pos) (Fk te g):=by
 intro c s b H D I h;refine wpAny_Assign_stores (thn (he c s b H _ I h) λv f a=>?_) hs hw;obtain⟨x,j,i,d,q1⟩:=a;rw[h1];exact thn (hg c f b j x v _ i d q1) λ_ l q=>q
def j8{i:Nat}{x:Str}{e:Expr}{te:TE}{pos':Pos}(hN:X.N.Nodup)(hi:X.N[i]? =pi x)(hx:Loc X.env.scope x)(he:PE X e te)(hs:swapsWith e (pi (.Name x pos')) pos.line X.env=pure qe:=by rfl)(hf:X.fn x=qc\/X.env.scope.names.lookup x=pi .local:=by first|exact .inl rfl|exact .inr rfl|assumption):
  PS X (.Assign [.Name x pos'] e pos) (Fk te (k9 i)):=by
 intro g s d H D I h;refine wpAny_Assign_Name (thn (he g s d H _ I h) λv l a=>?_) hs;obtain⟨y,j,c,b,q1⟩:=a;exact gW c hN hi hx b (λm f=>⟨_,j,f,q1⟩) hf
def Ov(i j:Nat)(ta:TA):TS:=λD σ H=>ta σ H λvs H1=>∃v w,vs=[v,w]/\D.nx ((σ.set i (pi v)).set j (pi w)) H1
def D2{i j:Nat}{x y:Str}{a b:Expr}{ta:TA}{px py pt:Pos}{kt k2 pt2}(hc:X.calm=qc)(hN:X.N.Nodup)(hi:X.N[i]? =pi x)(hj:X.N[j]? =pi y)(hij:i≠j)
  (hx:X.env.scope.names.lookup x=pi .local) (hy:X.env.scope.names.lookup y=pi .local) (ha:PA X [a,b] ta)
  (hw:swappedStores [.Tuple [.Name x px,.Name y py] kt pt] (.Tuple [a,b] k2 pt2) X.env=pure (pi [x,y]))
  (hs:swapsWithSole [.Tuple [.Name x px,.Name y py] kt pt] (.Tuple [a,b] k2 pt2) pos.line X.env=pure qe:=by rfl):
  PS X (.Assign [.Tuple [.Name x px,.Name y py] kt pt] (.Tuple [a,b] k2 pt2) pos) (Ov i j ta):=by
 intro r s n H D I h;rw[exec_Assign_arm];refine aa (wpAny_standAt ?_);rw[hs];refine aa (ac ?_);rw[if_neg (by decide)]
 refine aa (Tuple_ (thn (ha _ r s n H _ I h) λL c g=>?_))
 refine gzq λRz ez=>?_;obtain⟨S,t,G,M,q1⟩:=g;obtain⟨v,w,B,q1⟩:=q1;subst ez;subst B
 obtain⟨d,f,rfl,J,l⟩: ∃d f,L=[d,f]/\bJ v d/\bJ w f:=by
  cases M with
  |cons p q=>
   cases q with
   |cons E O=>
    cases O;exact⟨_,_,rfl,p,E⟩
 refine wpAny_newObj_type ?_ (by show 2<=sizeLine;decide)
 have z:Inv X r n t {c with heap:=c.heap.push {cls:=.type "tuple",data:=.seq [d,f].toArray} }:=G.kept (t':=c.toks) λb o e=>ae _ e
 rw[hw];refine aa (ac ?_);show X.wp (do rule "assign.swapped-stores";let items<-unpackItems (.ref c.z) 2 qb;assignInOrder [λv=>bindName X.env y v,λv=>bindName X.env x v] items.reverse;pure Flow.next) _ _ _
 refine aa (wpAny_rule (aa (unpackItems_tuple (items:= #[d,f]) (I.ok.hd hc) (IsTup.new c.heap _) λh' m=>?_)))
 have C:=z.kept (h':=h') (t':=c.toks) λb o e=>m b o (bh (ah e)) e
 show wpAny _ _ (assignInOrder [λv=>bindName X.env y v,λv=>bindName X.env x v] [f,d] >>= λ_=>pure Flow.next) _ _ _
 refine aa (assignInOrder_cons (wpAny_bindName (gW C hN hj (.inl hy) l (λT K=>?_) (.inr hy))))
 refine assignInOrder_cons (wpAny_bindName (gW K hN hi (.inl hx) J (λQ u=>assignInOrder_nil (ac ?_)) (.inr hx)))
 rw[List.set_comm _ _ (qa hij)]at u;exact⟨_,t,u,q1⟩
end
structure It where
 go:Nat->Hp->Prop
 yld:Nat->Hp->V->Hp->Prop
 stop:Nat->Hp->Prop
def pV(X:Cx)(cc:cf)(H:Hp)(b:Addr):Prop:=
 H b=qb/\b≠X.env.locals/\b∉X.fs/\(b∈X.ex\/X.s₀.z<=b)/\(∀x c,X.env.cells.lookup x=pi c->c≠b)/\∀p∈X.pn++cc,p.1≠b
def Inv.fpOk{σ:St}{b:Addr}(I:Inv X cc σ H s)(hb:s.z<=b)(hn:H' b=qb):pV X cc H' b:=by refine⟨hn,ng (bg I.lt hb),I.nofs hb,.inr (mq I.sz hb),λx c e z=>?_,λp a z=>?_⟩;obtain⟨v,q⟩:=I.cell x c e;exact absurd (bg q.lt (by rw[z];exact hb)) (lj _);exact absurd (bg (ah (I.pin p a).1) (by rw[z];exact hb)) (lj _)
structure Turn(P:Program)(w:World)(K:mj)(tg:Expr)(J:It)(fp:List Addr)(it:Addr)(tn:Nat->Heap->Prop):Prop where
 mem:it∈fp
 obj: ∀i h,tn i h->∀b∈fp, ∃o,h.get? b=pi o/\∀v,o.data≠ .cell v
 keep: ∀i h h',tn i h->(∀b∈fp, ∀o,h.get? b=pi o->h'.get? b=pi o)->tn i h'
 item: ∀(X:Cx),X.prog=P->X.w=w->X.K=K->X.calm=qc->∀(i:Nat) (cc:cf) (s:Shared) (σ:St) (H:Hp) (E:ce),Inv X cc σ H s->(∀b∈fp,pV X cc H b)->tn i s.heap->J.go i H->
  wpAny (model P w) X.A (pyNext (.ref it)) (λr s1=>∃u,r=pi u/\
   wpAny (model P w) X.A (letOwnedTupleGo tg (.ref it) u) (λ_ s2=>∃x H',Inv X cc σ H' s2/\bJ x u/\J.yld i H x H'/\tn (i+1) s2.heap/\∀b∈fp,H' b=qb) E s1) E s
 done: ∀(X:Cx),X.prog=P->X.w=w->X.K=K->X.calm=qc->∀(i:Nat) (cc:cf) (s:Shared) (σ:St) (H:Hp) (E:ce),Inv X cc σ H s->(∀b∈fp,pV X cc H b)->tn i s.heap->J.stop i H->
  wpAny (model P w) X.A (pyNext (.ref it)) (λr s1=>r=qb/\Inv X cc σ H s1) E s
 self: ∀(A:Around) (i:Nat) (s:Shared) (Q:ce) (E:ce),tn i s.heap->Q (.ref it) s->wpAny (model P w) A (pyIter (.ref it)) Q E s
abbrev TI:=St->Hp->(It->Hp->Prop)->Prop
def PIE(X:Cx)(cc:cf)(σ:St)(tg:Expr)(R:It->Hp->Prop)(itv:Value)(s2:Shared):Prop:=
 ∃(it:Addr) (fp:L1 Addr) (tn:Nat->Heap->Prop) (J:It) (H':Hp),itv= .ref it/\Inv X cc σ H' s2/\Turn X.prog X.w X.K tg J fp it tn/\tn 0 s2.heap/\(∀b∈fp,pV X cc H' b)/\R J H'
def PI(X:Cx)(tg iter:Expr)(wi:TI):Prop:=
 ∀(cc:cf) (s:Shared) (σ:St) (H:Hp) (R:It->Hp->Prop),Inv X cc σ H s->wi σ H R->
  X.wp (eval iter X.env) (λv s1=>X.wp (pyIter v) (PIE X cc σ tg R) X.xe s1) X.xe s
def yA{E:ce}(ho:s.heap.get? it=pi o)(hc:o.cls= .type n)(hd:o.data= .fields vs)(hn:["enumerate","zip","dict_itemiterator","dict_reverseitemiterator","odict_iterator","itertools.zip_longest","itertools.pairwise"].contains n=qe)(hQ:Q () s):wpAny M A (letOwnedTupleGo tg (.ref it) u) Q E s:=by
 unfold letOwnedTupleGo;cases tg<;>first
  |exact ac hQ
  |(cases u<;>first
    |exact ac hQ
    | (refine aa (wpAny_load ho ?_)
       rw[hc,hd];show wpAny M A (if(["enumerate","zip","dict_itemiterator","dict_reverseitemiterator","odict_iterator","itertools.zip_longest","itertools.pairwise"].contains n&&vs[0]? ==pi (rawInt _))=qc then _ else _) Q E s;rw[if_neg (by intro h;rw[hn,Bool.false_and]at h;cases h)];exact ac hQ))
noncomputable def Itl(K:mj)(a:Addr):It:=
 ⟨λi H=>∃xs x,SqL K H a xs/\xs[i]? =pi x,λi H x H'=>H'=H/\∀xs,SqL K H a xs->xs[i]? =pi x,λi H=>∃xs,SqL K H a xs/\xs.length<=i⟩
noncomputable def Itt(K:mj)(a:Addr):It:=
 ⟨λi H=>∃xs x,SqT K H a xs/\xs[i]? =pi x,λi H x H'=>H'=H/\∀xs,SqT K H a xs->xs[i]? =pi x,λi H=>∃xs,SqT K H a xs/\xs.length<=i⟩
noncomputable def Itr(lo:Int)(n:Nat):It:=⟨λi _=>i<n,λi H x H'=>H'=H/\x= .int (lo+i),λi _=>n<=i⟩
def lB{K}a it:Turn P w K tg (Itl K a) [it] it (λi h=>h.IsListIter it a i) where
 mem:=by simp
 obj:=λi h f b g=>by
  have e:b=it:=by simpa using g
  subst e;obtain⟨o,e,c,d⟩:=f;exact⟨o,e,λv z=>by rw[d]at z;cases z⟩
 keep:=λi h l f k=>f.at λo e=>k it (by simp) o e;item:=by
  intro X B N y S i Q s O H E I n f J;subst B N y;refine gzq λRz ez=>?_;obtain⟨Z,x,m,C⟩:=J;obtain⟨q,G,p,hz⟩:=I.list m;obtain⟨u,hu,U⟩:=G.get C;obtain⟨L,t,f2,A,r,M⟩:=n it (by simp);subst ez;refine wpAny_pyNext_list_item f p.isList (x:=u) (by simpa using hu) λl j Y=>?_;have I1:Inv X Q O H {s with heap:=l}:=I.turned (t':=s.toks) (λb o g e=>(Y.2 b g).trans e) L t A r M;obtain⟨o,e,c,d⟩:=id j;exact⟨u,rfl,yA (s:={s with heap:=l}) e c d rfl ⟨x,H,I1,U,⟨rfl,λys T=>by rw[I.list_inj T m];exact C⟩,j,λb g=>(n b g).1⟩⟩
 done:=by
  intro X B N y S i Q s O H E I n f J;subst B N y;refine gzq λRz ez=>?_;obtain⟨Z,m,C⟩:=J;obtain⟨q,G,p,hz⟩:=I.list m;obtain⟨L,t,f2,A,r,M⟩:=n it (by simp);have hl:=G.length;subst ez;exact wpAny_pyNext_list_end (I.ok.hd S) f p.isList (by simp;lia) λl eb=>⟨rfl,I.turned (t':=s.toks) (λb o g e=>eb b o g e) L t A r M⟩
 self:=λ_ _ _ _ _ f h=>wpAny_pyIter_listiter f h
def mW{K}a it:Turn P w K tg (Itt K a) [it] it (λi h=>h.IsTupleIter it a i) where
 mem:=by simp
 obj:=λi h f b j=>by
  have e:b=it:=by simpa using j
  subst e;obtain⟨o,e,c,d⟩:=f;exact⟨o,e,λv z=>by rw[d]at z;cases z⟩
 keep:=λi h m f k=>f.at λo e=>k it (by simp) o e;item:=by
  intro X B N y S i Q s O H E I q f J;subst B N y;refine gzq λRz ez=>?_;obtain⟨Z,x,n,C⟩:=J;obtain⟨g,G,p,hz⟩:=I.tuple n;obtain⟨u,hu,U⟩:=G.get C;obtain⟨L,t,f2,A,r,M⟩:=q it (by simp);subst ez;refine wpAny_pyNext_tuple_item f (show s.heap.IsTuple a g.toArray from p) (x:=u) (by simpa using hu) λm l Y=>?_;have I1:Inv X Q O H {s with heap:=m}:=I.turned (t':=s.toks) (λb o j e=>(Y.2 b j).trans e) L t A r M;obtain⟨o,e,c,d⟩:=id l;exact⟨u,rfl,yA (s:={s with heap:=m}) e c d rfl ⟨x,H,I1,U,⟨rfl,λys T=>by rw[I.tuple_inj T n];exact C⟩,l,λb j=>(q b j).1⟩⟩
 done:=by
  intro X B N y S i Q s O H E I q f J;subst B N y;refine gzq λRz ez=>?_;obtain⟨Z,n,C⟩:=J;obtain⟨g,G,p,hz⟩:=I.tuple n;obtain⟨L,t,f2,A,r,M⟩:=q it (by simp);have hl:=G.length;subst ez;exact wpAny_pyNext_tuple_end (I.ok.hd S) f (show s.heap.IsTuple a g.toArray from p) (by simp;lia) λm eb=>⟨rfl,I.turned (t':=s.toks) (λb o j e=>eb b o j e) L t A r M⟩
 self:=λ_ _ _ _ _ f h=>wpAny_pyIter_tupleiter f h
def wP{K}it lo n:Turn P w K tg (Itr lo n) [it] it (λi h=>IsRangeIter h it (lo+(i:Nat)*1) ((n:Int)-(i:Nat)) 1) where
 mem:=by simp
 obj:=λi h a b c=>by
  have e:b=it:=by simpa using c
  subst e;exact⟨_,a,λv z=>by
   have L:Data.fields _=Data.cell v:=z;cases L⟩
 keep:=λi h f a k=>k it (by simp) _ a;item:=by
  intro X q A m x i G s B H E I g a r;subst q A m;obtain⟨u,l,N,p,j,y⟩:=g it (by simp);have W:=Walks.range (prog:=X.prog) (w:=X.w) (I.ok.hd x) it lo 1 n;refine W.item i s _ _ r a λv f C M d J=>?_;obtain⟨t,rfl⟩:=M;have Q:Inv X G B H {s with heap:=f,toks:=C}:=I.turned (λb o c e=>J b o (by simpa using c) e) u l p j y;refine⟨_,rfl,yA (s:={s with heap:=f,toks:=C}) (n:="range_iterator") d rfl rfl rfl ⟨.int (lo+i),H,Q,⟨t,?_⟩,⟨rfl,rfl⟩,d,λb c=>(g b c).1⟩⟩;rw[Int.mul_one]
 done:=by
  intro X q A m x i G s B H E I g a r;subst q A m;obtain⟨u,l,N,p,j,y⟩:=g it (by simp);exact wpAny_pyNext_range_end (I.ok.hd x) a (by have:n<=i:=r;lia) λf O=>⟨rfl,I.turned (t':=s.toks) (λb o c e=>O b o c e) u l p j y⟩
 self:=λ_ _ _ _ _ a h=>wpAny_pyIter_rangeiter a h
section
variable{X:Cx}{tg:Expr}
def Mv(K:mj)(tl:TE):TI:=λσ H R=>tl σ H λx H1=>∃a,x= .ref a/\(∃xs,SqL K H1 a xs)/\R (Itl K a) H1
def Fl(hl:PE X l tl):PI X tg l (Mv X.K tl):=by
 intro n s j H R I h;refine thn (hl n s j H _ I h) λv c f=>?_;obtain⟨x,r,d,m,q1⟩:=f;obtain⟨a,e,⟨y,t⟩,q⟩:=q1;subst e;cases m;obtain⟨i,u,p,w⟩:=d.list t;refine wpAny_pyIter_list p.isList ?_;refine⟨c.z,[c.z],_,_,r,rfl,d.kept (t':=c.toks) λb o e=>ae _ e,lB a _,⟨_,af _ rfl,rfl,rfl⟩,λb g=>?_,q⟩;have e:b=c.z:=by simpa using g
 subst e;exact d.fpOk (aj _) (d.hok.fresh (aj _))
def BW{σ:St}{E:ce}{lo hi}(I:Inv X cc σ H s)(h1: -(2^62)<=lo)(h2:lo<2^62)(h3: -(2^62)<=hi)(h4:hi<2^62)(q:R (Itr lo (hi-lo).toNat) H):X.wp (pyIter (.ref s.z)) (PIE X cc σ tg R) E {s with heap:=s.heap.push {cls:=.type "range",data:=.fields #[.int lo t,.int hi u,.int 1 v]},toks:=tk}:=by
 refine wpAny_pyIter_range (IsRange.new ..) (small_one h1 h2 h3 h4) ?_;have a:Inv X cc σ H {s with heap:=s.heap.push {cls:=.type "range",data:=.fields #[.int lo t,.int hi u,.int 1 v]},toks:=tk}:=I.kept λb o e=>ae _ e;refine⟨(s.heap.push {cls:=.type "range",data:=.fields #[.int lo t,.int hi u,.int 1 v]}).objs.size,[(s.heap.push {cls:=.type "range",data:=.fields #[.int lo t,.int hi u,.int 1 v]}).objs.size],_,_,H,rfl,
  a.kept (t':=tk) λb o e=>ae _ e,wP _ lo (hi-lo).toNat,?_,λb f=>?_,q⟩
 have c:lo+((0:Nat):Int)*1=lo:=by simp
 have d:(((hi-lo).toNat:Nat):Int)-((0:Nat):Int)=Builtin.Range.rangeSize lo hi 1:=by rw[rangeSize_one];split<;>lia
 show IsRangeIter _ _ (lo+((0:Nat):Int)*1) ((((hi-lo).toNat:Nat):Int)-((0:Nat):Int)) 1;rw[c,d];exact af _ rfl;have e:b=(s.heap.push {cls:=.type "range",data:=.fields #[.int lo t,.int hi u,.int 1 v]}).objs.size:=by simpa using f
 subst e;exact a.fpOk (aj _) (a.hok.fresh (aj _))
def Mw(ta:TA):TI:=λσ H R=>ta σ H λvs H1=>∃j:Int,vs=[.int j]/\ -(2^62)<=j/\j<2^62/\R (Itr 0 j.toNat) H1
def qA{a:Expr}{ta:TA}{p pos:Pos}(hg:Gl X "range")(hm:X.mg "range"=qb)(ha:PA X [a] ta)(hs:starEach [a] X.env=[(qe,eval a X.env)]:=by rfl):PI X tg (.Call (.Name "range" p) [a] [] pos) (Mw ta):=by
 intro i s d H R I h;refine Call_ (f9 I hg hm boot_range (dm (thn (ha pos i s d H _ I h) λm l ⟨o,n,c,f,q1⟩=>?_) hs rfl));obtain⟨j,e,q1,b,q⟩:=q1;subst e;cases f with
 |cons r g=>
  cases g;obtain⟨t,rfl⟩:=r;exact call_range_1 (BW c (by lia) (by lia) q1 b (by simpa using q))
def Ow(wi:TI)(g:TG)(tb:TS):TS:=λD σ H=>wi σ H λJ H1=>∃W:Nat->Nat->St->Hp->Prop,(∃m,W 0 m σ H1)/\∀i m σ H,W i m σ H->
 (J.stop i H/\D.nx σ H)\/(J.go i H/\∃N:St->Hp->Prop,(∀σ' H',N σ' H'->∃m',m'<m/\W (i+1) m' σ' H')/\∀x H',J.yld i H x H'->g x σ H' λσ2 H2=>tb {D with nx:=N,ct:=N,bk:=D.nx} σ2 H2)
noncomputable def iR(fp:L1 Addr)(h:Heap):cf:=fp.filterMap λb=>(h.get? b).map λo=>(b,o)
def jI(hb:b∈fp)(e:h.get? b=pi o):(b,o)∈iR fp h:=ig.mpr ⟨b,hb,by rw[e];rfl⟩
def qB(hp:p∈iR fp h):p.1∈fp/\h.get? p.1=pi p.2:=by obtain⟨b,a,e⟩:=ig.mp hp;rcases q:h.get? b with _|o;rw[q]at e;cases e;rw[q]at e;have c:(b,o)=p:=jw e;subst c;exact⟨a,q⟩
def Inv.pinned{σ:St}(I:Inv X cc σ H s)(hf: ∀b∈fp,pV X cc H b)(ho: ∀b∈fp, ∃o,s.heap.get? b=pi o/\∀v,o.data≠ .cell v):Inv X (cc++iR fp s.heap) σ H s:=
 I.pins_of λp h=>(jz.mp h).elim (λz=>I.pin p (bt _ z)) λz=>by
  refine gzq λRz ez=>?_;obtain⟨a,e⟩:=qB z;obtain⟨g,i,f,_⟩:=hf p.1 a;obtain⟨o,c,d⟩:=ho p.1 a;subst ez;rw[e]at c;cases c;exact⟨e,g,i,f,d⟩
def Inv.unpinned{σ:St}(I:Inv X (cc++pl) σ H s):Inv X cc σ H s:=I.pins_of λp a=>I.pin p (bt _ (gc _ a))
end
abbrev R2:=V->V->Hp->VK->Prop
def OpR(X:Cx)(f:Value->Value->Sem Value)(r:R2):Prop:=
 ∀(cc:cf) (s:Shared) (σ:St) (H:Hp) (x y:V) (v u:Value) (Q:VK),Inv X cc σ H s->bJ x v->bJ y u->r x y H Q->
  X.wp (f v u) (EP X cc σ Q) X.xe s
def UnR(X:Cx)(f:Value->Sem Value)(r:V->Hp->VK->Prop):Prop:=
 ∀(cc:cf) (s:Shared) (σ:St) (H:Hp) (x:V) (v:Value) (Q:VK),Inv X cc σ H s->bJ x v->r x H Q->
  X.wp (f v) (EP X cc σ Q) X.xe s
def kH(X:Cx)(f:Value)(r:L1 V->Hp->VK->Prop):Prop:=
 ∀(cc:cf) (s:Shared) (σ:St) (H:Hp) (xs:L1 V) (us:L1 Value) (Q:VK),Inv X cc σ H s->b9 xs us->r xs H Q->
  X.wp (call f us) (EP X cc σ Q) X.xe s
def tOp(r:R2)(ta tb:TE):TE:=λσ H Q=>ta σ H λx H1=>tb σ H1 λy H2=>r x y H2 Q
def tUn(r:V->Hp->VK->Prop)(ta:TE):TE:=λσ H Q=>ta σ H λx H1=>r x H1 Q
def rI(C:Int->Int->Prop)(g:Int->Int->V):R2:=λx y H Q=>∃i j,x= .int i/\y= .int j/\C i j/\Q (g i j) H
def rI0(g:Int->Int->V):R2:=λx y H Q=>∃i j,x= .int i/\y= .int j/\Q (g i j) H
def rU(g:Int->V):V->Hp->VK->Prop:=λx H Q=>∃i,x= .int i/\Q (g i) H
def Mx(ho:UnR X (unaryOp op) r)(ha:PE X a ta):PE X (.UnaryOp op a pos) (tUn r ta):=by intro d s c H Q I h;exact UnaryOp_ (thn (ha d s c H _ I h) λv f b=>by obtain⟨x,i,g,e,q1⟩:=b;exact ho d f c i x v Q g e q1)
def opI{g:Int->Int->Int}(rule: ∀i j t u s (Q:ce) (E:ce),C i j->Q (.int (g i j) s.toks) {s with toks:=s.toks+1}->X.wp (f (.int i t) (.int j u)) Q E s):
  OpR X f (rI C λi j=>.int (g i j)):=by
 intro l s e H x y v u Q I d c h;obtain⟨i,j,rfl,rfl,b,q⟩:=h;obtain⟨t,rfl⟩:=d;obtain⟨a,rfl⟩:=c;exact rule i j t a s _ _ b ⟨.int (g i j),H,I.tok _,⟨_,rfl⟩,q⟩
def Jh{g:Int->Int->Int}(rule: ∀i j t u s (Q:ce) (E:ce),Q (.int (g i j) s.toks) {s with toks:=s.toks+1}->X.wp (f (.int i t) (.int j u)) Q E s):
  OpR X f (rI0 λi j=>.int (g i j)):=by
 intro e s d H x y v u Q I c b h;obtain⟨i,j,rfl,rfl,q⟩:=h;obtain⟨t,rfl⟩:=c;obtain⟨a,rfl⟩:=b;exact rule i j t a s _ _ ⟨.int (g i j),H,I.tok _,⟨_,rfl⟩,q⟩
def LU{g:Int->Int->Bool}(rule: ∀i j t u s (Q:ce) (E:ce),Q (.bool (g i j)) s->X.wp (f (.int i t) (.int j u)) Q E s):
  OpR X f (rI0 λi j=>.bl (g i j)):=by
 intro e s d H x y v u Q I c b h;obtain⟨i,j,rfl,rfl,q⟩:=h;obtain⟨t,rfl⟩:=c;obtain⟨a,rfl⟩:=b;exact rule i j t a s _ _ ⟨.bl (g i j),H,I,rfl,q⟩
def Ox(i j:Int):Prop:=0<j/\j<1073741824
def Oy(i j:Int):Prop:=0<=j/\j<=1000000/\i.natAbs<2^64
def My(i j:Int):Prop:=(-(2^64)<i/\i<2^64)\/(-(2^64)<j/\j<2^64)
def My.ok(h:My i j):IntMulOk i j:=by rcases h with ⟨a,b⟩|⟨a,b⟩;exact .of_left (intBits_le_64 a b);exact .of_right (intBits_le_64 a b)
def Ji:OpR X (binaryOp .Add) (rI0 λi j=>.int (i+j)):=Jh λ_ _ _ _ _ _ _ q=>add_int q
def Jj:OpR X (binaryOp .Sub) (rI0 λi j=>.int (i-j)):=Jh λ_ _ _ _ _ _ _ q=>sub_int q
def Jk:OpR X (binaryOp .Mult) (rI My λi j=>.int (i*j)):=opI λ_ _ _ _ _ _ _ a q=>mul_int q a.ok
def Fm:OpR X (binaryOp .FloorDiv) (rI Ox λi j=>.int (i/j)):=opI λi j _ _ _ _ _ a q=>by
 have b:(0:Int)<j:=a.1;have c:j<1073741824:=a.2;exact floordiv_int (by lia) (by rw[Int.fdiv_eq_ediv_of_nonneg i (by lia)];exact q) (.inl (PyProof.noPylong_small (by lia)))
def Jl:OpR X (binaryOp .Mod) (rI (λ_ j=>0<j) λi j=>.int (i % j)):=opI λi j _ _ _ _ _ a q=>by
 have b:(0:Int)<j:=a;exact mod_int' (by lia) (by rw[Int.fmod_eq_emod_of_nonneg i (by lia)];exact q)
def Jm:OpR X (binaryOp .LShift) (rI Oy λi j=>.int (i*2^j.toNat)):=opI λ_ _ _ _ _ _ _ a q=>lshift_int_small a.1 a.2.1 a.2.2 q
def Jn:OpR X (binaryOp .BitAnd) (rI0 λi j=>.int (Builtin.bitAnd i j)):=Jh λ_ _ _ _ _ _ _ q=>and_int q
def Mz:OpR X (binaryOp .BitOr) (rI0 λi j=>.int (Builtin.bitOr i j)):=Jh λ_ _ _ _ _ _ _ q=>or_int q
def Jo:OpR X (binaryOp .BitXor) (rI0 λi j=>.int (Builtin.bitXor i j)):=Jh λ_ _ _ _ _ _ _ q=>xor_int q
def unI{g:Int->Int}(rule: ∀i t s (Q:ce) (E:ce),Q (.int (g i) s.toks) {s with toks:=s.toks+1}->X.wp (f (.int i t)) Q E s):
  UnR X f (rU λi=>.int (g i)):=by
 intro c s b H x v Q I a h;obtain⟨i,rfl,q⟩:=h;obtain⟨t,rfl⟩:=a;exact rule i t s _ _ ⟨.int (g i),H,I.tok _,⟨_,rfl⟩,q⟩
def Jp:UnR X (unaryOp .USub) (rU λi=>.int (-i)):=unI λ_ _ _ _ _ q=>neg_int q
def D3{σ:St}(I:Inv X cc σ H s)(q:Q (.bl k) H)(e:k=k'):EP X cc σ Q (.bool k') s:=by subst e;exact⟨.bl k,H,I,rfl,q⟩
def MB:OpR X (compareOp .Lt) (rI0 λi j=>.bl (decide (i<j))):=LU λ_ _ _ _ _ _ _ q=>lt_int q
def MC:OpR X (compareOp .LtE) (rI0 λi j=>.bl (decide (i<=j))):=LU λ_ _ _ _ _ _ _ q=>le_int q
def MD:OpR X (compareOp .Gt) (rI0 λi j=>.bl (decide (j<i))):=LU λ_ _ _ _ _ _ _ q=>gt_int q
def MF:OpR X (compareOp .GtE) (rI0 λi j=>.bl (decide (j<=i))):=LU λ_ _ _ _ _ _ _ q=>ge_int q
def Jq:OpR X (compareOp .Is) (λx y H Q=>y= .non/\Q (.bl (decide (x= .non))) H):=by
 intro d s c H x y v u Q I a b h;obtain⟨rfl,q⟩:=h;cases b;refine is_none_gen (D3 I q ?_);cases x<;>first
  |(cases a;rfl)
  |(obtain⟨t,rfl⟩:=a;rfl)
def Fo:OpR X (compareOp .IsNot) (λx y H Q=>y= .non/\Q (.bl (!decide (x= .non))) H):=by
 intro d s c H x y v u Q I a b h;obtain⟨rfl,q⟩:=h;cases b;refine isnot_none_gen (D3 I q ?_);cases x<;>first
  |(cases a;rfl)
  |(obtain⟨t,rfl⟩:=a;rfl)
def mX:(sizeLine:Nat)<2^63:=by rw[sizeLine_eq];decide
def lC(r:b9 [x] us): ∃u,us=[u]/\bJ x u:=by
 cases r with
 |cons a b=>cases b;exact⟨_,rfl,a⟩
def yB(r:b9 [x,y] us): ∃u w',us=[u,w']/\bJ x u/\bJ y w':=by
 cases r with
 |cons a b=>
  cases b with
  |cons c d=>cases d;exact⟨_,_,rfl,a,c⟩
def Jr(hc:X.calm=qc):kH X (.builtin "max") (λxs H Q=>∃i j,xs=[.int i,.int j]/\Q (.int (if j > i then j else i)) H):=by intro l s c H xs d Q I r h;obtain⟨i,j,rfl,q⟩:=h;obtain⟨u,b,rfl,⟨t,rfl⟩,⟨e,rfl⟩⟩:=yB r;refine max_two_ints (I.ok.hd hc) λg f k=>⟨_,H,I.kept k,?_,q⟩;by_cases a:j > i;rw[if_pos a,if_pos a];exact⟨_,rfl⟩;rw[if_neg a,if_neg a];exact⟨_,rfl⟩
def Js(hc:X.calm=qc):kH X (.builtin "min") (λxs H Q=>∃i j,xs=[.int i,.int j]/\Q (.int (if j<i then j else i)) H):=by intro l s c H xs d Q I r h;obtain⟨i,j,rfl,q⟩:=h;obtain⟨u,b,rfl,⟨t,rfl⟩,⟨e,rfl⟩⟩:=yB r;refine min_two_ints (I.ok.hd hc) λg f k=>⟨_,H,I.kept k,?_,q⟩;by_cases a:j<i;rw[if_pos a,if_pos a];exact⟨_,rfl⟩;rw[if_neg a,if_neg a];exact⟨_,rfl⟩
def qC:kH X (.type "int") (λxs H Q=>(∃i,xs=[.int i]/\Q (.int i) H)\/∃k,xs=[.bl k]/\Q (.int (if k then 1 else 0)) H):=by intro d s b H xs c Q I r h;rcases h with ⟨i,rfl,q⟩|⟨k,rfl,q⟩;obtain⟨u,rfl,t,rfl⟩:=lC r;exact call_int_int ⟨.int i,H,I,⟨_,rfl⟩,q⟩;obtain⟨u,rfl,a⟩:=lC r;cases a;exact call_int_bool ⟨.int (if k then 1 else 0),H,I.tok _,⟨_,rfl⟩,q⟩
structure ObjM(h:Heap)(x dx C:Addr)(mA:Str->Option Value):Prop where
 obj:h.get? x=pi (jx C dx)
 ns:h.Ns1 dx mA
 ne:dx≠x
def yC{h:Heap}(n:h.Ns1 dx mA): ∃od,h.get? dx=pi od/\∀name,ko name od=pi (mA name):=by
 obtain⟨o,c,l,f,i,hk,_,g⟩:=n;refine⟨o,f,λname=>?_⟩;have e:=g name;unfold nsFind findBy at e;rw[<-Array.find?_toList]at e;unfold ko;rw[i];dsimp only;split;rename_i y q;rw[q]at e;exact congrArg pi e;rename_i q;rw[q]at e;have a:c.toList.any (·.refKey)=qe:=by
  rw[List.any_eq_false];intro y d;obtain⟨z,t,b⟩:=hk y (Array.mem_toList_iff.mp d);simp[DictEntry.refKey,b]
 have j: ¬c.toList.any (·.refKey)=qc:=by rw[a];exact bf
 rw[if_neg j];exact congrArg pi e
def ObjM.look(I:ObjM h x dx C mA): ∃od,PySem.W.InstAt h x (jx C dx) C (pi od)/\∀name,ko name od=pi (mA name):=
 let ⟨od,ho,hl⟩:=yC I.ns;⟨od,⟨I.obj,rfl,rfl,ho⟩,hl⟩
section
variable{E:ce}{s:Shared}{K:mj}
def Fp{Q:ce}(X:K.In s.heap)(I:ObjM s.heap x dx C mA)(hg:jl K C name=qc)(hh:iw K C=qc)(ha:kr K (.ref C) name=pi qb)(hv:mA name=pi v)(hv':PySem.W.handedIn v=qc)(h:Q v {s with toks:=s.toks+1}):
  wpAny (model prog w) A (getAttr (.ref x) name expr) Q E s:=by
 obtain⟨b,J,a⟩:=I.look;exact PySem.W.get_value X J (gu hg).1 (PySem.W.findObj_own hh ha rfl (by rw[a,hv])) hv' h
def BX(X:K.In s.heap)(I:ObjM s.heap x dx C mA)(hg:jl K C name=qc)(hf:kr K (.ref C) name=pi (pi (.ref f)))(ht:nh K (.ref f)=qc)(hv:mA name=qb)(h:Q (.ref f,[.ref x]) s):
  wpAny (model prog w) A (getMethod (.ref x) name pl) Q E s:=by
 obtain⟨a,J,b⟩:=I.look;exact PySem.W.method_fn X J (gu hg).1 (gu hg).2 hf (beq_iff_eq.mp ht) (by show(ko name a).map (·.isSome)=pi qe;rw[b,hv];rfl) h
def Fr(X:K.In s.heap)(I:ObjM s.heap x dx C mA)(hs:kr K (.ref C) "__setattr__"=pi (pi (.builtin "object.__setattr__")))(hp:iy K C=qc)(ht:PySem.W.takerIn K C name=pi qb)(hh:iw K C=qc)(hw:mo mA ns)(hsz:ns.length<=sizeLine)(h: ∀h',ObjM h' x dx C (λy=>if y=name then pi v else mA y)->mz dx s.heap h'->Q () {s with heap:=h',toks:=s.toks+2}):
  wpAny (model prog w) A (setAttr (.ref x) name v) Q E s:=by
 obtain⟨o,J,t⟩:=I.look;refine PySem.W.set_plain X J hs (PySem.W.osa_open (s:={s with toks:=s.toks+1}) (r:=qb) X J hp ht λb=>?_);obtain⟨p,n,i⟩:=PySem.W.any_some hh;have m:s.heap.get? x=pi ⟨.ref C,pi dx,.plain, #[]⟩:=I.obj;refine aa (ac (aa (aa (wpAny_loadPart m (aa (PySem.W.Looks.here (s:={s with toks:=s.toks+1}) (PySem.W.looks_clsIn X n) ?_))))));rw[i];refine ac (a:=pi dx) (aa (ac (aa ?_)));refine wpAny_nsSet1 (s:={s with toks:=s.toks+1}) I.ns λh' c d=>?_;obtain⟨q,j,l,e,f,g⟩:=c.count (mo.cons name v hw);refine aa (wpAny_lookBehind e (by rw[f];exact pastItsLine_dict (mq g (by rw[bq];lia))) ?_);exact ac (h _ ⟨(d.2 _ (qa I.ne)).trans I.obj,c,I.ne⟩ d)
def BY(X:K.In s.heap)(hm:PySem.W.makesIn K C=qc)(hi:kr K (.ref C) "__init__"=pi (pi (.ref f)))(hf:PySem.W.typeIn K (.ref f)=pi (.type "function"))(h:codeAny (model prog w) (A.under (.builtin "type.__call__" ⟨.ref C::vs,kw⟩)) (.call (.ref f) ⟨.ref (s.z+1)::vs,kw⟩) (PySem.W.InitBack (s.z+1) R)
   {s with heap:=(s.heap.push iz).push (jx C s.z)}):
  codeAny (model prog w) A (.call (.ref C) ⟨vs,kw⟩) R s:=by
 obtain⟨b,g,d,t,c⟩:=s;exact PySem.W.make_core (PySem.W.makes_of X hm) (PySem.W.looks_findIn X hi) (λa=>PySem.W.bind_fn X a hf) (.inl rfl) h
end
noncomputable def mY(f:Str)(v:V):L1 (Str×V)->L1 (Str×V)
 |[]=>[(f,v)]
 |(g,x)::r=>if g=f then(g,v)::r else(g,x)::mY f v r
theorem lD f g v: ∀fs,(mY f v fs).lookup g=if g=f then pi v else fs.lookup g
 |[]=>by
  show n8 g [(f,v)]=_;by_cases h:g=f;have a:(g==f)=qc:=beq_iff_eq.mpr h;simp only[n8,a,if_pos h];have a:(g==f)=qe:=beq_eq_false_iff_ne.mpr h;simp only[n8,a,if_neg h]
 |(k,x)::r=>by
  have b:=lD f g v r;rw[show mY f v ((k,x)::r)=(if k=f then(k,v)::r else(k,x)::mY f v r) from rfl];by_cases hk:k=f;rw[if_pos hk];by_cases h:g=k;have a:(g==k)=qc:=beq_iff_eq.mpr h;simp only[n8,a,if_pos (h.trans hk)];have a:(g==k)=qe:=beq_eq_false_iff_ne.mpr h;simp only[n8,a,if_neg (λe:g=f=>h (e.trans hk.symm))];rw[if_neg hk];by_cases h:g=k;have a:(g==k)=qc:=beq_iff_eq.mpr h;simp only[n8,a,if_neg (λe:g=f=>hk (h.symm.trans e))];have a:(g==k)=qe:=beq_eq_false_iff_ne.mpr h;simp only[n8,a];exact b
theorem lE f v: ∀fs,f∈(mY f v fs).map (·.1)/\∀g,g∈fs.map (·.1)->g∈(mY f v fs).map (·.1)
 |[]=>⟨by simp[mY],λg h=>by simp at h⟩
 |(k,x)::r=>by
  obtain⟨a,b⟩:=lE f v r;rw[show mY f v ((k,x)::r)=(if k=f then(k,v)::r else(k,x)::mY f v r) from rfl];by_cases hk:k=f;rw[if_pos hk];subst hk;exact⟨by simp,λg h=>by simpa using h⟩;rw[if_neg hk];refine⟨?_,λg h=>?_⟩;rw[lm];exact f7 _ a;rw[lm]at h ⊢;rcases av.mp h with e|e;exact av.mpr (.inl e);exact f7 _ (b g e)
theorem lF f v: ∀fs,(mY f v fs).length<=fs.length+1
 |[]=>by simp[mY]
 |(k,x)::r=>by
  have a:=lF f v r;rw[show mY f v ((k,x)::r)=(if k=f then(k,v)::r else(k,x)::mY f v r) from rfl];by_cases hk:k=f;rw[if_pos hk,bq,bq];lia;rw[if_neg hk,bq,bq];lia
def mL.some_of(r:mL (pi v) o): ∃u,o=pi u/\bJ v u:=by rcases o with _|u;exact(show False from r).elim;exact⟨u,rfl,r⟩
def mL.none_of(r:mL qb o):o=qb:=by rcases o with _|u;rfl;exact(show False from r).elim
def yD(r:bJ v u):PySem.W.handedIn u=qc:=by
 cases v with
 |non=>cases (show u=oq from r);rfl
 |bl b=>cases (show u=ou b from r);rfl
 |int i=>obtain⟨t,e⟩:=(show ∃t,u=pd i t from r);cases e;rfl
 |str x=>obtain⟨t,e⟩:=(show ∃t,u=pe x t from r);cases e;rfl
 |byt b=>obtain⟨t,e⟩:=(show ∃t,u=Value.bytes b t from r);cases e;rfl
 |flt b=>obtain⟨t,e⟩:=(show ∃t,u=Value.float b t from r);cases e;rfl
 |ref a=>cases (show u=pf a from r);rfl
 |ty n=>cases (show u=ox n from r);rfl
def sX(hok:HOk P w H h)(e:H a=pi (.ins C dx fs)): ∃mA,ObjM h a dx C mA/\(∀f,mL (fs.lookup f) (mA f))/\mo mA (fs.map (·.1))/\fs.length<=1000/\H dx=pi (.own a):=by obtain⟨d,z,b,c,mA,n,r,q⟩:=(show ObjOk P w H h a (.ins C dx fs) from hok a _ e);exact⟨mA,⟨c,n,b⟩,r,q,z,d⟩
structure Cls(K:mj)(C:Addr):Prop where
 pg:jl K C Str.empty=qc
 hd:iw K C=qc
 po:iy K C=qc
 sa:kr K (.ref C) "__setattr__"=pi (pi (.builtin "object.__setattr__"))
def Cls.get{K}(c:Cls K C)f:jl K C f=qc:=c.pg
def iB(K:mj)(C:Addr)(f:Str):Prop:=kr K (.ref C) f=pi qb
def iB.taker{K}(n:iB K C f):PySem.W.takerIn K C f=pi qb:=by unfold PySem.W.takerIn;rw[show kr K (.ref C) f=pi qb from n];rfl
structure Meth(K:mj)(C:Addr)(m:Str)(f:Addr):Prop where
 at_:kr K (.ref C) m=pi (pi (.ref f))
 fn:nh K (.ref f)=qc
 kp:ku K (.ref f)=qc
section
variable{σ:St}{E:ce}
def wQ{Q:ce}(I:Inv X cc σ H s)(e:H a=pi (.ins C dx fs))(c:Cls X.K C)(n:iB X.K C f)(l:fs.lookup f=pi v)(h: ∀u s',Inv X cc σ H s'->bJ v u->Q u s'):wpAny (model X.prog X.w) A (getAttr (.ref a) f b) Q E s:=by obtain⟨g,O,r,_,_,_⟩:=sX I.hok e;obtain⟨u,i,d⟩:=mL.some_of (v:=v) (o:=g f) (by rw[<-l];exact r f);exact Fp I.kIn O (c.get f) c.hd n i (yD d) (h u _ (I.tok _) d)
def fG(I:Inv X cc σ H s)(e:H a=pi (.ins C dx fs))(c:Cls X.K C)(k:Meth X.K C m g)(l:fs.lookup m=qb)(h:Q (.ref g,[.ref a]) s):wpAny (model X.prog X.w) A (getMethod (.ref a) m pl) Q E s:=by obtain⟨b,O,r,_,_,_⟩:=sX I.hok e;have d:b m=qb:=mL.none_of (by rw[<-l];exact r m);exact BX I.kIn O (c.get m) k.at_ k.fn d h
def wR(I:Inv X cc σ H s)(e:H a=pi (.ins C dx fs))(c:Cls X.K C)(n:iB X.K C f)(hl:fs.length<1000)(ry:bJ y u)(h: ∀s',Inv X cc σ (upd H a (.ins C dx (mY f y fs))) s'->Q () s'):wpAny (model X.prog X.w) A (setAttr (.ref a) f u) Q E s:=by
 obtain⟨j,O,r,l,_,i⟩:=sX I.hok e;have t:(fs.map (·.1)).length<=sizeLine:=by rw[aq,sizeLine_eq];lia
 refine Fr I.kIn O c.sa c.po n.taker c.hd l t λB d v=>h _ ?_;have hd: ∃o,B.get? dx=pi o:=let ⟨o,_,_,e',_⟩:=d.ns;⟨o,e'⟩;refine I.write (x:=a) (e:=dx) (by rw[e];exact oy) (.inr i) (λb q m z=>(v.2 b m).trans z) hd ?_;refine⟨by rw[aA O.ne];exact i,?_,O.ne,d.obj,_,d.ns,λg=>?_,λg p=>?_⟩
 .have:=lF f y fs;lia
 .show mL ((mY f y fs).lookup g) (if g=f then pi u else j g);rw[lD];by_cases q:g=f
  .rw[if_pos q,if_pos q];exact ry
  .rw[if_neg q,if_neg q];exact r g
 .by_cases q:g=f
  .rw[q];exact(lE f y fs).1
  .refine(lE f y fs).2 g (l g λz=>p ?_);show(if g=f then pi u else j g)=qb;rw[if_neg q];exact z
def Inv.made(I:Inv X cc σ H s):Inv X cc σ (upd (upd H s.z (.own (s.z+1))) (s.z+1) (.ins C s.z []))
  {s with heap:=(s.heap.push iz).push (jx C s.z)}:=by
 have c:(s.heap.push iz).get? s.z=pi iz:=af s.heap rfl;have f:((s.heap.push iz).push (jx C s.z)).get? (s.z+1)=pi (jx C s.z):=by
  have:=af (s.heap.push iz) (o:=jx C s.z) rfl;rwa [ai]at this
 have h:(s.heap.push iz).Ns s.z (λ_=>qb):=⟨iz, #[],_,c,rfl,(λe j=>absurd j (by simp)),λ_=>rfl⟩;have i:=I.laid (a:=s.z) (o:=.own (s.z+1)) (h':=s.heap.push iz) (t':=s.toks) (λb u q=>ae _ q) (aj _) ⟨_,c⟩;refine i.laid (a:=s.z+1) (o:=.ins C s.z []) (t':=s.toks) (λb u q=>ae _ q) (Nat.le_of_eq (ai _ _)) ?_;have d:s.z≠s.z+1:=bh (jm _);refine⟨by rw[aA d,aD],bu _,d,f,λ_=>qb,(Heap.Ns1.of_empty h).at λo q=>ae _ q,λ_=>oy,λy g=>absurd rfl g⟩
def Fs{Q:ce}(hb:attributeBase e f env (eval e env)=eval e env)(h:wpAny (model prog w) A (eval e env) (λo s₁=>wpAny (model prog w) A (getAttr o f qc) Q E s₁) E s):wpAny (model prog w) A (eval (.Attribute e f pos) env) Q E s:=
 Attribute_any_ h (by rw[arm_eval_Attribute,hb])
end
def LV(K:mj)(ta:TE)(f:Str):TE:=λσ H Q=>ta σ H λx H1=>∃a C dx fs v,x= .ref a/\H1 a=pi (.ins C dx fs)/\Cls K C/\iB K C f/\fs.lookup f=pi v/\Q v H1
def Oz(K:mj)(ta tv:TE)(f:Str):TS:=λD σ H=>tv σ H λy H1=>ta σ H1 λx H2=>∃a C dx fs,x= .ref a/\H2 a=pi (.ins C dx fs)/\Cls K C/\iB K C f/\fs.length<1000/\
 D.nx σ (upd H2 a (.ins C dx (mY f y fs)))
def fH(he:PE X e ta)(hb:attributeBase e f X.env (eval e X.env)=eval e X.env):PE X (.Attribute e f pos) (LV X.K ta f):=by intro p s i H Q I h;refine Fs hb (thn (he p s i H _ I h) λu t b=>?_);obtain⟨x,r,d,j,a,C,z,fs,v,ex,o,c,n,l,q⟩:=b;subst ex;obtain rfl:u=pf a:=j;exact wQ d o c n l λw y m g=>⟨v,r,m,g,q⟩
def lG(ha:PE X o ta)(hv:PE X value tv)(hs:swapsWith value (pi (.Attribute o f pos')) pos.line X.env=pure qe):PS X (.Assign [.Attribute o f pos'] value pos) (Oz X.K ta tv f):=by intro d s b H D I h;refine plainObj_wpAny_Assign_Attribute (thn (hv d s b H _ I h) λu g ⟨y,w,i,v,q⟩=>thn (ha d g b w _ i q) λm A ⟨x,B,p,j,a,C,E,fs,ex,t,c,n,l,e⟩=>?_) hs;subst ex;obtain rfl:m=pf a:=j;exact wR p t c n l v λz r=>⟨b,_,r,e⟩
structure Room(k:Nat)(A:Around):Prop where
 hd:A.handled=qb
 dp:A.depth+3*k+5<recursionLimit
 un:A.units+16*k+200<cLine
def Room.mono(r:Room k A)(h:j<=k):Room j A:=⟨r.hd,by have:=r.dp;lia,by have:=r.un;lia⟩
theorem Room.deeper(r:Room (k+1) A)env:Room k (A.deeper env):=
 ⟨r.hd,by have:=r.dp;show A.depth+1+3*k+5<_;lia,by have:=r.un;show A.units+3+16*k+200<_;lia⟩
def wS{A:Around}:(A.under (.builtin "type.__call__" ⟨.ref C::us,kw⟩)).depth=A.depth+1:=by first|rfl|simp[Around.under,Code.weight,Code.isCreation,Code.isGuard,Code.isCaller,Code.frames,Code.isFrame,guardIds]
def wT{A:Around}:(A.under (.builtin "type.__call__" ⟨.ref C::us,kw⟩)).units=A.units+1:=by first|rfl|simp[Around.under,Code.cUnits,Code.frames,Code.isFrame]
def Room.make(r:Room (k+1) A)C us kw:Room k (A.under (.builtin "type.__call__" ⟨.ref C::us,kw⟩)):=
 ⟨r.hd,by have:=r.dp;rw[wS];lia,by have:=r.un;rw[wT];lia⟩
theorem Room.depth(r:Room k A):A.depth<recursionLimit:=by have:=r.dp;lia
theorem Room.units(r:Room k A):A.units+64<cLine:=by have:=r.un;lia
def IF:TA:=λ_ H Q=>Q [] H
def sY(ta:TE)(tr:TA):TA:=λσ H Q=>ta σ H λx H1=>tr σ H1 λxs H2=>Q (x::xs) H2
section
variable{X:Cx}{e:Expr}{es:L1 Expr}{te:TE}{t:TA}
def cW:PA X [] IF:=λ_ _ _ _ H Q I h=>i4 ⟨[],H,I,.nil,h⟩
def bI(ha:PE X e te)(hr:PA X es t)(hs:starEach (e::es) X.env=(qe,eval e X.env)::starEach es X.env:=by rfl):PA X (e::es) (sY te t):=by intro a f s d H Q I h;rw[hs];show wpAny _ _ (spliced ((qe,eval e X.env)::backTo a (starEach es X.env))) _ _ s;refine ii (thn (ha f s d H _ I h) λu j c=>?_);obtain⟨x,p,l,n,q1⟩:=c;exact thn (hr a f j d p _ l q1) λr v b=>by obtain⟨q,o,m,i,g⟩:=b;exact⟨x::q,o,m,.cons n i,g⟩
def OA(t:TA):TE:=λσ H Q=>t σ H λxs H1=>xs.length<=sizeLine/\∀p,H1 p=qb->Q (.ref p) (upd H1 p (.tup xs))
def OB(t:TA):TE:=λσ H Q=>t σ H λxs H1=>xs.length<=sizeLine/\∀p,H1 p=qb->Q (.ref p) (upd H1 p (.lst xs))
def yE(h:PA X es t):PE X (.Tuple es x1 pos) (OA t):=by intro j s f H Q I l;refine wpAny_Tuple_spliced (thn (h pos j s f H _ I l) λg a ⟨m,d,c,r,z,q⟩=>⟨by rw[<-r.length];exact z,?_⟩);have i:d a.z=qb:=c.hok.fresh (aj _);refine⟨.ref a.z,upd d a.z (.tup m),c.laid (t':=a.toks) (λb u e=>ae _ e) (aj _) ?_,rfl,q _ i⟩;exact⟨z,g,r,⟨_,af _ rfl,rfl,_,rfl⟩,⟨_,af _ rfl,rfl⟩⟩
def qD(h:PA X es t):PE X (.List es pos) (OB t):=by intro j s f H Q I l;refine wpAny_List_spliced (thn (h pos j s f H _ I l) λg a ⟨m,d,c,r,z,q⟩=>⟨by rw[<-r.length];exact z,?_⟩);have i:d a.z=qb:=c.hok.fresh (aj _);refine⟨.ref a.z,upd d a.z (.lst m),c.laid (t':=a.toks) (λb u e=>ae _ e) (aj _) ?_,rfl,q _ i⟩;exact⟨z,g,0,r,af _ rfl⟩
end
abbrev Sp:=L1 V->Hp->VK->XK->Prop
abbrev CXT:=L1 Env->Hp->Shared->XK->Value->Shared->Prop
structure Env0(P:Program)(w:World)(K:mj)(mg:Str->Option Value)(base:Heap)(A:Around)(outer:List Env)(s:Shared)(H:Hp):Prop where
 frames:A.frames=pi outer
 mod:Mod K mg base
 bs: ∀b o,base.get? b=pi o->s.heap.get? b=pi o/\H b=qb
 bsz:base.objs.size<=s.z
 funs:s.heap.FunFrames base outer
 frf: ∀b∈frs outer,H b=qb
 hok:HOk P w H s.heap
 bare:AllBare s.gens
def CE(outer:L1 Env)(P:Program)(w:World)(H:Hp)(s:Shared)(Q:VK)(u:Value)(s':Shared):Prop:=
 ∃v H',s'.os=s.os/\AllBare s'.gens/\Un (frs outer) [] H H' s.heap s'.heap/\HOk P w H' s'.heap/\bJ v u/\Q v H'
def CR(CX:CXT)(outer:L1 Env)(P:Program)(w:World)(H:Hp)(s:Shared)(Q:VK)(E:XK)(r:Result)(s':Shared):Prop:=
 match r with
 |.ok (.ret u)=>CE outer P w H s Q u s'
 |.ok _=>False
 |.error e=>CX outer H s E e s'
structure FnOk(P:Program)(w:World)(K:mj)(mg:Str->Option Value)(base:Heap)(CX:CXT)(k:Nat)(f:Addr)(fd:FuncData)(ps:List Str)(sp:Sp):Prop where
 len: ∀vs H Q E,sp vs H Q E->vs.length=ps.length
 run: ∀(A:Around) (outer:List Env) (s:Shared) (H:Hp) (args:Args) (us:List Value) (vs:List V) (Q:VK) (E:XK),Room k A->Env0 P w K mg base A outer s H->BindsTo s fd args (ps.zip us)->b9 vs us->sp vs H Q E->
  codeAny (model P w) A (.call (.ref f) args) (CR CX outer P w H s Q E) s
def Env0.make{K}(e:Env0 P w K mg base A outer s H)C us kw:
  Env0 P w K mg base (A.under (.builtin "type.__call__" ⟨.ref C::us,kw⟩)) outer s H:=⟨by first|exact e.frames|(simpa[Around.under,Code.envs,Code.isFrame,pushEnvs]using e.frames),e.mod,e.bs,e.bsz,e.funs,e.frf,e.hok,e.bare⟩
section
variable{σ:St}
def Inv.env0(I:Inv X cc σ H s):Env0 X.prog X.w X.K X.mg X.base X.A X.stack s H:=
 ⟨I.ok.frames,I.ok.mod,I.bs,mq I.ok.bsz I.sz,I.stack,I.stkFree,I.hok,I.bare⟩
def Inv.after(I:Inv X cc σ H s)(h:CE X.stack X.prog X.w H s Q u s'):EP X cc σ Q u s':=by obtain⟨v,i,os,a,un,c,r,q⟩:=h;obtain⟨f,g,d,t,e⟩:=s';obtain rfl:e=s.os:=os;exact⟨v,i,I.call (h':=f) (g':=g) (d':=d) (t':=t) (ch:=[]) un c a (λb z=>absurd z (by simp)),r,q⟩
end
def MG(C:Addr)(sp:Sp)(dvs:L1 V)(E:XK)(t:TA):TE:=λσ H Q=>t σ H λvs H1=>∀x dx,H1 x=qb->H1 dx=qb->dx≠x->
 sp (.ref x::(vs++dvs)) (upd (upd H1 dx (.own x)) x (.ins C dx [])) (λv H2=>v= .non/\Q (.ref x) H2) E
def dO(K:mj)(fd:FuncData)(ps:L1 Str)(ds:L1 Value):Prop:=
 ∀(s:Shared) (us:L1 Value),K.In s.heap->(us++ds).length=ps.length->BindsTo s fd ⟨us,[]⟩ (ps.zip (us++ds))
def dO.all{K}(h: ∀us,us.length=ps.length->bindArgs fd ⟨us,[]⟩=pure (ps.zip us)):dO K fd ps []:=λs us _ a=>by
 rw[j3]at a ⊢;exact .of_eq (h us a)
def D4(CX:CXT)(X:Cx)(E:XK):Prop:= ∀(cc:cf) (σ:St) (H:Hp) (s:Shared) (e:Value) (s':Shared),Inv X cc σ H s->CX X.stack H s E e s'->X.xe e s'
section
variable{X:Cx}{CX:CXT}{k:Nat}{f C:Addr}{fd:FuncData}{ps:L1 Str}{sp:Sp}{dvs:L1 V}{ds:L1 Value}{E:XK}{x:Str}{p pos:Pos}
structure Mk(K:mj)(C f:Addr):Prop where
 makes:PySem.W.makesIn K C=qc
 init:kr K (.ref C) "__init__"=pi (pi (.ref f))
 fn:nh K (.ref f)=qc
 kp:ku K (.ref C)=qc
def BZ{cc}{σ:St}{H}{s}{Q}{us}{vs}(M:Mk X.K C f)(F:FnOk X.prog X.w X.K X.mg X.base CX k f fd ps sp)(hr:Room (k+1) X.A)(hb:dO X.K fd ps ds)(hd:b9 dvs ds)(hx:D4 CX X E)(I:Inv X cc σ H s)(r:b9 vs us)(h: ∀x dx,H x=qb->H dx=qb->dx≠x->sp (.ref x::(vs++dvs)) (upd (upd H dx (.own x)) x (.ins C dx [])) (λv H2=>v= .non/\Q (.ref x) H2) E):
  X.wp (call (.ref C) us) (EP X cc σ Q) X.xe s:=by
 have d:=h (s.z+1) s.z (I.hok.fresh (oe _)) (I.hok.fresh (aj _)) (bh (jm _));have b:=Inv.made (C:=C) I;have c:b9 (V.ref (s.z+1)::(vs++dvs)) (pf (s.z+1)::(us++ds)):=.cons rfl (r.append hd);have j:(pf (s.z+1)::us++ds).length=ps.length:=by
  have e:=c.length;rw[F.len _ _ _ _ d]at e;exact e.symm
 refine wpAny_call (BY (f:=f) I.kIn M.makes M.init (beq_iff_eq.mp M.fn) (codeAny_mono (F.run _ X.stack _ _ ⟨pf (s.z+1)::us,[]⟩ (pf (s.z+1)::(us++ds)) _ _ E (hr.make C us [])
  (b.env0.make C us []) (hb _ (pf (s.z+1)::us) b.kIn j) c d) λr n a=>?_))
 cases r with
 |error e=>exact hx cc σ _ _ e n b a
 |ok m=>
  cases m with
  |ret u=>
   obtain⟨v,o,l,i,ev,g⟩:=b.after a;subst ev;exact⟨i,⟨V.ref (s.z+1),o,l,rfl,g⟩⟩
  |next=>exact ba a
  |brk=>exact ba a
  |cont=>exact ba a
def uR(M:Mk X.K C f)(F:FnOk X.prog X.w X.K X.mg X.base CX k f fd ps sp)(hr:Room (k+1) X.A)(hg:Gl X x)(hm:X.mg x=pi (.ref C))(hb:dO X.K fd ps ds)(hd:b9 dvs ds)(hx:D4 CX X E)
  (hdb:(x==("__debug__":Str))=qe:=by decide):PE X (.Call (.Name x p) [] [] pos) (MG C sp dvs E IF):=by
 intro b s a H Q I h;refine wpAny_Call_Name_kw (fT I hg hm ?_ hdb);exact gw I.kIn M.kp (BZ (us:=[]) M F hr hb hd hx I .nil h)
end
structure FnScope(N P:List Str)(sc:Scope):Prop where
 kind:sc.kind= .function
 co:sc.isCoroutine=qe
 gen:sc.isGenerator=qe
 nd:N.Nodup
 pre:N.take P.length=P
 par: ∀x∈P,sc.names.lookup x=pi .local\/sc.names.lookup x=pi .cell
 nofree: ∀y∈sc.names,y.2≠ .free
theorem qF{kindOf}{x}: ∀{binds} {m},(∀v,(x,v)∉binds)->bindL kindOf binds m x=m x
 |[],_,_=>rfl
 |(n,v)::r,m,h=>by
  unfold bindL;rw[qF λw a=>h w (f7 _ a)];split;have:x≠n:=by rintro rfl;exact h v ie
  simp[this];rfl
theorem qG{kindOf}{x}: ∀{binds} {m},(∀v,(x,v)∉binds)->bindC kindOf binds m x=m x
 |[],_,_=>rfl
 |(n,v)::r,m,h=>by
  unfold bindC;rw[qG λw a=>h w (f7 _ a)];split;rfl;have:x≠n:=by rintro rfl;exact h v ie
  simp[this]
theorem qH{kindOf}{x}{v}: ∀{P:L1 Str} {vs} {i:Nat} {m},P.Nodup->P[i]? =pi x->vs[i]? =pi v->kindOf x=pi .local->
  bindL kindOf (P.zip vs) m x=pi v
 |[],_,_,_,_,h,_,_=>by simp at h
 |_::_,[],_,_,_,_,h,_=>by simp at h
 |p::P,w::vs,0,m,nd,h1,h2,hk=>by
  simp at h1 h2;subst h1;subst h2;show bindL kindOf ((p,w)::P.zip vs) m p=_;unfold bindL;rw[qF λv a=>(kc.mp nd).1 (kd a).1,if_pos hk];simp
 |p::P,w::vs,i+1,m,nd,h1,h2,hk=>by
  show bindL kindOf ((p,w)::P.zip vs) m x=_;unfold bindL;exact qH (i:=i) (kc.mp nd).2 (by simpa using h1) (by simpa using h2) hk
theorem qI{kindOf}{x}{v}: ∀{P:L1 Str} {vs} {i:Nat} {m},P.Nodup->P[i]? =pi x->vs[i]? =pi v->kindOf x≠pi .local->
  bindC kindOf (P.zip vs) m x=pi v
 |[],_,_,_,_,h,_,_=>by simp at h
 |_::_,[],_,_,_,_,h,_=>by simp at h
 |p::P,w::vs,0,m,nd,h1,h2,hk=>by
  simp at h1 h2;subst h1;subst h2;show bindC kindOf ((p,w)::P.zip vs) m p=_;unfold bindC;rw[qG λv a=>(kc.mp nd).1 (kd a).1,if_neg hk];simp
 |p::P,w::vs,i+1,m,nd,h1,h2,hk=>by
  show bindC kindOf ((p,w)::P.zip vs) m x=_;unfold bindC;exact qI (i:=i) (kc.mp nd).2 (by simpa using h1) (by simpa using h2) hk
noncomputable def start(N:L1 Str)(vs:L1 V):St:=vs.map pi++ao (N.length-vs.length) qb
noncomputable def kN(CX:CXT)(P:Program)(w:World)(K:mj)(mg:Str->L7 Value)(base:Heap)(N:L1 Str)(qual:Str)(scope:Scope)(f:Addr)(cd:Value)(A:Around)(outer:L1 Env)(s:Shared)(H:Hp)(E:XK):Cx where
 prog:=P;w:=w;K:=K;mg:=mg;base:=base;A:=A.deeper (envOfC qual scope s.z f cd);N:=N;s₀:=s;H₀:=H;env:=envOfC qual scope s.z f cd;outer:=outer;stack:=envOfC qual scope s.z f cd::outer;ex:=[];calm:=qc;fn:=λ_=>qc;pn:=[];xe:=λe s'=>wpAny (model P w) (A.deeper (envOfC qual scope s.z f cd)) (leaving (envOfC qual scope s.z f cd) e) (λ_ s''=>CX outer H s E e s'') (λe' s''=>CX outer H s E e' s'') s'
def uS{sc:Scope}(h:sc.names.lookup x=pi .cell): ∃c,(cellsFrom n sc.names []).lookup x=pi c:=by have q:=e7 sc.names n [] (.inl h);exact dz.mp q
def gE{K}(S:FnScope N ps scope)(hd:A.handled=qb)(e0:Env0 P w K mg base A outer s H)(hl:vs.length=ps.length)(r:b9 vs us)(x:InCallC s s.z (bindL (envOfC qual scope s.z f cd).kindOf (ps.zip us) λ_=>qb) (cellsFrom (s.z+1) scope.names []) (bindC (envOfC qual scope s.z f cd).kindOf (ps.zip us) λ_=>qb) s1):
  Inv (kN CX P w K mg base N qual scope f cd A outer s H E) [] (start N vs) H s1:=by
 have C:ps.length<=N.length:=by have:=congrArg og S.pre;rw[List.length_take]at this;lia
 obtain⟨t,L,rfl,hk⟩:=x.done;have g: ∀b:Addr,b∉(kN CX P w K mg base N qual scope f cd A outer s H E).ex:=λb z=>absurd (show b∈([]:L1 Addr) from z) (by simp);refine⟨⟨e0.mod,S.kind,rfl,rfl,aj _,λy z c t d=>?_,λy j=>?_,λy c _ h=>?_,λ_=>hd,Around.frames_deeper e0.frames,.inr ⟨rfl,rfl⟩,λb z=>absurd z (g b),e0.bs,e0.bsz,λb _ _=>g b,λb z=>absurd z (g b),e0.funs,e0.frf⟩,
  rfl,e0.bare,Un.kept hk,⟨_,x.toInCall.ns,λi y v t d J=>?_⟩,λy c h=>⟨_,x.cell y c h⟩,e0.hok.fresh (aj _),λy c h=>?_,λp l=>absurd (show p∈([]:cf) from l) (by simp),e0.hok.kept hk,?_⟩
 exact name_of_addr x.apart (gy t) (gy d);have j:scope.names.lookup y=pi .cell\/scope.names.lookup y=pi .free:=j;rcases j with j|j;exact uS j;exact absurd rfl (S.nofree _ (gy j));exact mr (x.above y c (gy h));have o:i<vs.length:=by
  unfold start at d;by_cases o:i<vs.length;exact o;rw[bn (by simpa using o)]at d;rw[eh]at d;split at d<;>cases d
 have I:vs[i]? =pi v:=by
  unfold start at d;rw[bx (by simpa using o),i6]at d;rcases e:vs[i]? with _|a;rw[e]at d;cases d;rw[e]at d;cases d;rfl
 obtain⟨u,B,G⟩:=r.get I;have l:ps[i]? =pi y:=by
  rw[<-S.pre,List.getElem?_take_of_lt (by lia)];exact t
 have m:ps.Nodup:=by rw[<-S.pre];exact S.nd.sublist (List.take_sublist _ _)
 refine⟨u,G,?_⟩;rcases S.par y (List.mem_of_getElem? l)with k|k;exact .inl ⟨k,qH m l B k⟩;obtain⟨c,e⟩:=uS (n:=s.z+1) k;refine .inr ⟨.inl k,c,e,?_⟩;have q:=x.cell y c e;rw[qI m l B (by show scope.names.lookup y≠_;rw[k];decide)]at q;exact q;exact e0.hok.fresh (mr (x.above y c (gy h)));unfold start;show _=N.length;rw[bo,aq,fu];lia
def B0{K}{dV kV doc pm cdv ct oc}(lk:K.lookup f=pi ⟨oc,od,.func (ni name qual params body scope dV kV doc pm an cdv ct),osl⟩)(hcd:ky K cdv qual=qc)(S:FnScope N ps scope)(len: ∀vs H Q E,sp vs H Q E->vs.length=ps.length)(hbody: ∀A outer s H vs Q E,Room k (A.deeper (envOfC qual scope s.z f cdv))->sp vs H Q E->
   ∃t,PSs (kN CX P w K mg base N qual scope f cdv A outer s H E) body t/\t {nx:=λ_ H'=>Q .non H',rt:=Q} (start N vs) H):
  FnOk P w K mg base CX (k+1) f (ni name qual params body scope dV kV doc pm an cdv ct) ps sp:=by
 refine⟨len,λA outer s H args U vs Q E p i O r g=>?_⟩;have G:=len _ _ _ _ g;have B:K.In s.heap:=i.mod.kin.keeps λb o e=>(i.bs b o e).1;have l:s.heap.NoLimit:=i.mod.nolimit.keeps λb o e=>(i.bs b o e).1;have c: ∀y∈ps.zip U,scope.names.lookup y.1=pi .local\/(scope.names.lookup y.1=pi .cell/\((cellsFrom (s.z+1) scope.names []).lookup y.1).isSome=qc):=λ⟨n,v⟩ C=>by
  rcases S.par n (kd C).1 with q|q;exact .inl q;exact .inr ⟨q,e7 _ _ _ (.inl q)⟩
 refine codeAny_call_function p.depth (B _ _ lk) rfl S.co S.gen rfl (ij B hcd) (O _ _ _ _ ?_);refine wpAny_newFunctionEnv_cells S.kind c λY X z x=>?_;subst X;refine⟨l.keeps x.toInCall.keep,codeAny_func ?_⟩;obtain⟨t,T,M⟩:=hbody A outer s H vs Q E (p.deeper _) g;have I:Inv (kN CX P w K mg base N qual scope f cdv A outer s H E) [] (start N vs) H z:=gE S p.hd i G r x;refine wpAny_mono (T [] z (start N vs) H _ I M) (λL j d=>?_) λe j d=>d;have h: ∀{a:St} {H':Hp} {v:V} {u:Value},Inv (kN CX P w K mg base N qual scope f cdv A outer s H E) [] a H' j->bJ v u->Q v H'->CE outer P w H s Q u j:=
  λ{a H' v u} J m q=>⟨v,H',J.os,J.bare,J.base,J.hok,m,q⟩
 cases L with
 |ret u=>
  obtain⟨v,a,H',J,m,q⟩:=d;exact h J m q
 |next=>
  obtain⟨a,H',J,q⟩:=d;exact h (v:=V.non) (u:=oq) J rfl q
 |brk=>
  obtain⟨_,_,_,q⟩:=d;exact ba q
 |cont=>
  obtain⟨_,_,_,q⟩:=d;exact ba q
section
variable{X:Cx}{x:Str}{p pos:Pos}{e:Expr}{es:L1 Expr}{t:TA}{id T:String}{r:L1 V->Hp->VK->Prop}
def tCB(r:L1 V->Hp->VK->Prop)(t:TA):TE:=λσ H Q=>t σ H λvs H1=>r vs H1 Q
def uT(hc:kH X (.builtin id) r)(hg:Gl X x)(hm:X.mg x=qb)(hv:bootBuiltins x=pi (.builtin id))(ha:PA X (e::es) t)(hn:x≠"__name__":=by decide)(hdb:(x==("__debug__":Str))=qe:=by decide)
  (he:starEach (e::es) X.env=(qe,eval e X.env)::starEach es X.env:=by rfl) (hpl:(backTo pos (starEach es X.env)).any (·.1)=qe:=by rfl):PE X (.Call (.Name x p) (e::es) [] pos) (tCB r t):=by
 intro c s b H Q I h;refine wpAny_Call_Name_kw (f9 I hg hm hv ?_ hn hdb);exact dk (thn (ha pos c s b H _ I h) λi f a=>by obtain⟨l,j,g,d,q1⟩:=a;exact hc c f b j l i Q g d q1) he hpl
def lH(hc:kH X (.type T) r)(hg:Gl X x)(hm:X.mg x=qb)(hv:bootBuiltins x=pi (.type T))(ha:PA X (e::es) t)(hn:x≠"__name__":=by decide)(hdb:(x==("__debug__":Str))=qe:=by decide)
  (he:starEach (e::es) X.env=(qe,eval e X.env)::starEach es X.env:=by rfl) (hpl:(backTo pos (starEach es X.env)).any (·.1)=qe:=by rfl):PE X (.Call (.Name x p) (e::es) [] pos) (tCB r t):=by
 intro c s b H Q I h;refine wpAny_Call_Name_kw (f9 I hg hm hv ?_ hn hdb);exact dm (thn (ha pos c s b H _ I h) λi f a=>by obtain⟨l,j,g,d,q1⟩:=a;exact hc c f b j l i Q g d q1) he hpl
end
end L2
namespace HT
open PySem PyProof.Rows
section
open PySem.SeqAt
open PySem.AutoSeq1 (wpAny_loadPart')
open PySem.MeetsSeq PySem.MeetsSeq2 PySem.MeetsSeq3
end
end HT
namespace L2
open PySem PySem.Spec PyProof.Rows
abbrev TO:=St->Hp->(L7 Int->Hp->Prop)->Prop
noncomputable def ixN(n:Nat)(i:Int):L7 Nat:=if 0<=i then(if i<n then pi i.toNat else qb)else if -(n:Int)<=i then pi (i+n).toNat else qb
noncomputable def atI{α:Type}(xs:L1 α)(i:Int):L7 α:=(ixN xs.length i).bind λj=>xs[j]?
def yF(h:ixN n i=pi j):seqIndex? i n=pi j/\j<n/\ -(n:Int)<=i/\i<n:=by unfold ixN at h;by_cases b:0<=i;rw[if_pos b]at h;by_cases a:i<n;rw[if_pos a]at h;have e:i.toNat=j:=jw h;exact⟨by rw[seqIndex_of b a,e],by lia,by lia,a⟩;rw[if_neg a]at h;cases h;rw[if_neg b]at h;by_cases a: -(n:Int)<=i;rw[if_pos a]at h;have e:(i+n).toNat=j:=jw h;exact⟨by rw[seqIndex_neg (by lia) a,e],by lia,a,by lia⟩;rw[if_neg a]at h;cases h
def sZ{xs}{v:α}(h:atI xs i=pi v): ∃j,seqIndex? i xs.length=pi j/\xs[j]? =pi v/\j<xs.length/\ -(xs.length:Int)<=i/\i<xs.length:=by unfold atI at h;rcases e:ixN xs.length i with _|j;rw[e]at h;cases h;rw[e]at h;obtain⟨c,d,a,b⟩:=yF e;exact⟨j,c,h,d,a,b⟩
def yG(b:Expr):Prop:= ∀o i,subscripted b qe o i=operate [o,i] (getItem o i)
def IxR(X:Cx)(r:R2):Prop:=
 ∀(value slice:Expr) (cc:cf) (s:Shared) (σ:St) (H:Hp) (x y:V) (v u:Value) (Q:VK),Inv X cc σ H s->bJ x v->bJ y u->r x y H Q->
  subscripted slice qe v u=operate [v,u] (getItem v u)->X.wp (subscriptTail value slice v u) (EP X cc σ Q) X.xe s
def MtR(X:Cx)(id:String)(r:V->L1 V->Hp->VK->Prop):Prop:=
 ∀(cc:cf) (s:Shared) (σ:St) (H:Hp) (x:V) (xs:L1 V) (v:Value) (us:L1 Value) (Q:VK),Inv X cc σ H s->bJ x v->b9 xs us->r x xs H Q->
  X.wp (call (.builtin id) (v::us)) (EP X cc σ Q) X.xe s
section
variable{X:Cx}{o e:Expr}{es:L1 Expr}{to:TE}{t:TA}{name:Str}{apos cpos:Pos}{T id:String}{r:V->L1 V->Hp->VK->Prop}
def NV(K:mj):R2:=λx y H Q=>∃p xs i v,x= .ref p/\y= .int i/\SqL K H p xs/\atI xs i=pi v/\Q v H
def NW(K:mj):R2:=λx y H Q=>∃p xs i v,x= .ref p/\y= .int i/\SqT K H p xs/\atI xs i=pi v/\Q v H
def NX:R2:=λx y H Q=>∃z i c,x= .str z/\y= .int i/\z.length<=sizeLine/\atI z.cps.toList i=pi c/\Q (.str ⟨#[c]⟩) H
def Fv:IxR X (NV X.K):=by
 intro e g n s m H x y v u Q I S J h B;obtain⟨p,T,i,z,rfl,rfl,L,N,q⟩:=h;cases S;obtain⟨t,rfl⟩:=J;obtain⟨c,r,l,Y⟩:=I.list L;obtain⟨j,b,E,W,O,M⟩:=sZ N;obtain⟨w,o,f⟩:=r.get E;have C:=r.length;have U:=mX;have a:EP X n m Q w s:=⟨z,H,I,f,q⟩;by_cases A:0<=i;have d:i.toNat=j:=by
  rw[seqIndex_of A M]at b;exact jw b
 exact item_listR l.isList A (by lia) (by rw[d];simpa using o) a B;have d:(i+(c.toArray.size:Int)).toNat=j:=by
  rw[seqIndex_neg (by lia) O]at b;rw[ax, <-C];exact jw b
 exact subscriptTail_builtinR (x:=w) l.isList.typeIs slot_list_getitem.lookup
  (wpAny_getItem_list_neg (Q:=λr G=>r=w/\EP X n m Q r G) l.isList (by lia) (by rw[ax]<;>lia) (by lia) (by rw[d];simpa using o) ⟨rfl,a⟩) B
def Jt:IxR X (NW X.K):=by
 intro a d f s e H x y v u Q I J A h L;obtain⟨p,M,i,z,rfl,rfl,E,G,q⟩:=h;cases J;obtain⟨t,rfl⟩:=A;refine gzq λRz ez=>?_;obtain⟨l,r,g,T⟩:=I.tuple E;obtain⟨j,B,n,O,U,S⟩:=sZ G;obtain⟨w,C,b⟩:=r.get n;have m:=r.length;have N:=mX;subst ez;have c:EP X f e Q w s:=⟨z,H,I,b,q⟩;exact subscriptTail_builtinR (x:=w) g.typeIs slot_tuple_getitem.lookup
  (getItem_tuple (j:=j) (Q:=λr o=>r=w/\EP X f e Q r o) g (by lia) (by lia) (by rw[ax, <-m];exact B) (by simpa using C) ⟨rfl,c⟩) L
def iC:IxR X NX:=by
 intro a b J s B H x y v u Q I r p h w;obtain⟨z,i,c,rfl,rfl,E,g,q⟩:=h;obtain⟨t,rfl⟩:=r;obtain⟨G,rfl⟩:=p;obtain⟨j,d,o,A,l,f⟩:=sZ g;have m:z.cps.toList.length=z.length:=by simp[Str.length]
 rw[m]at d l f;have C:=mX;exact tail_any (typeIs_str s z t) slot_str_getitem.lookup (getItem_str (c:=c) (by
  have n:decide (i< -(2^63:Int))=qe:=decide_eq_false (by lia);have e:decide (i≥2^63)=qe:=decide_eq_false (by lia);rw[n,e,Bool.or_false]) (by rw[d];simpa using o) ⟨.str ⟨#[c]⟩,H,I.tok _,⟨_,rfl⟩,q⟩) w
def rIx(K:mj):R2:=λx y H Q=>NV K x y H Q\/NW K x y H Q\/NX x y H Q
def wU(its:L1 Value)n j u:oz (·.setIfInBounds j u) {cls:=.type "list",data:=.seq its.toArray n}={cls:=.type "list",data:=.seq (its.set j u).toArray n}:=by simp[oz]
theorem Inv.lst{σ:St}(I:Inv X cc σ H s)(h:H p=pi (.lst xs)):
  ∃(its:L1 Value) (n:Nat),b9 xs its/\s.heap.get? p=pi {cls:=.type "list",data:=.seq its.toArray n}/\xs.length<=sizeLine:=by
 obtain⟨z,its,n,r,e⟩:=I.hok p _ h;exact⟨its,n,r,e,z⟩
def Inv.lstUpd{σ:St}{its its':L1 Value}(I:Inv X cc σ H s)(h:H p=pi (.lst xs))(ho:s.heap.get? p=pi {cls:=.type "list",data:=.seq its.toArray n})(hf:f {cls:=.type "list",data:=.seq its.toArray n}={cls:=.type "list",data:=.seq its'.toArray n'})(r:b9 ys its')(hz:ys.length<=sizeLine)t:
  Inv X cc σ (upd H p (.lst ys)) {s with heap:=s.heap.update p f,toks:=t}:=by
 have e:(s.heap.update p f).get? p=pi {cls:=.type "list",data:=.seq its'.toArray n'}:=by
  rw[fw f ho (by rw[hf]<;>rfl),hf]
 refine I.write (x:=p) (e:=p) (by rw[h];trivial) (.inl rfl) (λb u a q=>(fg _ _ (qa a)).trans q) ⟨_,e⟩ ?_;exact⟨hz,its',n',r,e⟩
def Ju:V->V->V->Hp->(Hp->Prop)->Prop:=λo i v H Q=>∃p xs k j,o= .ref p/\i= .int k/\H p=pi (.lst xs)/\ixN xs.length k=pi j/\Q (upd H p (.lst (xs.set j v)))
def B5:Mt X Ju:=by
 intro z s x H o i v G iv u Q I B y C h;obtain⟨p,A,k,j,rfl,rfl,g,w,q⟩:=h;cases B;obtain⟨t,rfl⟩:=y;refine gzq λRz ez=>?_;obtain⟨a,n,r,d,E⟩:=I.lst g;obtain⟨b,J,f,m⟩:=yF w;have c:=r.length;have K:=mX;subst ez;have e:Inv X z x (upd H p (.lst (A.set j v))) {s with heap:=s.heap.update p (oz (·.setIfInBounds j u))}:=
  I.lstUpd g d (wU a n j u) (r.set C j) (by rw[ke];exact E) s.toks
 by_cases l:0<=k;have hk:k.toNat=j:=by
  rw[seqIndex_of l m]at b;exact jw b
 exact PySem.W.ki_setAt d l (by lia) (by rw[ax, <-c];exact m) (by rw[hk];exact⟨_,e,q⟩);have hk:(k+(a.toArray.size:Int)).toNat=j:=by
  rw[seqIndex_neg (by lia) f]at b;rw[ax, <-c];exact jw b
 exact PySem.W.ki_setBack d (by lia) (by rw[ax, <-c];exact f) (by lia) (by rw[hk];exact⟨_,e,q⟩)
def qJ:kH X (.builtin "len") (λxs H Q=>∃p ys,xs=[.ref p]/\(SqL X.K H p ys\/SqT X.K H p ys)/\Q (.int ys.length) H):=by intro l s i H xs j Q I r h;obtain⟨p,ys,rfl,b,q⟩:=h;obtain⟨u,rfl,g⟩:=lC r;cases g;have m:=mX;rcases b with b|b;obtain⟨d,e,c,f⟩:=I.list b;have a:=e.length;exact Calls.call_len_list c.isList (by simp only[ax]<;>lia) ⟨.int ys.length,H,I.tok _,⟨s.toks+1,by rw[ax,a]⟩,q⟩;obtain⟨d,e,c,f⟩:=I.tuple b;have a:=e.length;exact len_tuple c (by simp only[ax]<;>lia) ⟨.int ys.length,H,I.tok _,⟨s.toks+1,by rw[ax,a]⟩,q⟩
def qK:kH X (.builtin "len") (λxs H Q=>∃z,xs=[.str z]/\z.length<=sizeLine/\Q (.int z.length) H):=by intro d s a H xs b Q I r h;obtain⟨z,rfl,c,q⟩:=h;obtain⟨u,rfl,t,rfl⟩:=lC r;have e:=mX;exact len_str (by lia) ⟨.int z.length,H,I.tok _,⟨_,rfl⟩,q⟩
def gF:kH X (.type "list") (λxs H Q=>∃p ys,xs=[.ref p]/\(SqL X.K H p ys\/SqT X.K H p ys)/\∀l,H l=qb->Q (.ref l) (upd H l (.lst ys))):=by
 intro B s A H xs E Q I r h;obtain⟨p,ys,rfl,t,q⟩:=h;obtain⟨u,rfl,C⟩:=lC r;cases C;have m: ∀(a:L1 Value),b9 ys a->ys.length<=sizeLine->∀(c:Heap) (d:Nat),(∀b o',s.heap.get? b=pi o'->c.get? b=pi o')->
   c.get? s.z=pi {cls:=.type "list",dict:=qb,data:=.seq a.toArray d,slots:= #[]}->EP X B A Q (.ref s.z) {s with heap:=c}:=λa f g c d j e=>
  ⟨.ref s.z,_,I.laid (t':=s.toks) j (aj _) (show ObjOk X.prog X.w _ c _ (.lst ys) from⟨g,a,d,f,e⟩),rfl,q _ (I.hok.fresh (aj _))⟩
 rcases t with t|t;refine gzq λRz ez=>?_;obtain⟨a,f,v,g⟩:=I.list t;have i:=f.length;obtain⟨o,x,z,n,y⟩:=v.isList;subst ez;exact call_list_seq p (.inl rfl) x z y (λc d j e=>m a f g c d j e) (by simp only[ax]<;>lia);refine gzq λRz ez=>?_;obtain⟨a,f,v,g⟩:=I.tuple t;have i:=f.length;obtain⟨o,x,z,n,y⟩:=v;subst ez;exact call_list_seq p (.inr rfl) x z y (λc d j e=>m a f g c d j e) (by simp only[ax]<;>lia)
def iS:kH X (.type "tuple") (λxs H Q=>∃p ys,xs=[.ref p]/\((SqL X.K H p ys/\∀l,H l=qb->Q (.ref l) (upd H l (.tup ys)))\/(SqT X.K H p ys/\Q (.ref p) H))):=by
 intro t s j H xs z Q I r h;obtain⟨p,ys,rfl,h⟩:=h;obtain⟨u,rfl,y⟩:=lC r;cases y;rcases h with ⟨g,q⟩|⟨g,q⟩;obtain⟨a,f,d,m⟩:=I.list g;have n:=f.length;refine call_tuple_list d.isList (λc x=>?_) (by simp only[ax]<;>lia);have i:Inv X t j H {s with heap:=c}:=I.kept (t':=s.toks) x;have v:Inv X t j (upd H c.objs.size (.tup ys)) {s with heap:=c.push {cls:=.type "tuple",data:=.seq a.toArray} }:=
  i.laid (t':=s.toks) (λb o e=>ae _ e) (aj _) (show ObjOk X.prog X.w _ _ _ (.tup ys) from⟨m,a,f,IsTup.new _ _,⟨_,af _ rfl,rfl⟩⟩)
 exact⟨.ref c.objs.size,_,v,rfl,q _ (i.hok.fresh (aj _))⟩;obtain⟨a,f,d,m⟩:=I.tuple g;exact call_tuple_same d ⟨.ref p,H,I,rfl,q⟩
def tyV(K:mj)(T:String)(x:V)(H:Hp):Prop:=match x with
 |.str _=>T="str"
 |.int _=>T="int"
 |.ref p=>(T="list"/\∃xs,SqL K H p xs)\/(T="tuple"/\∃o,K.lookup p=pi o/\o.cls= .type "tuple"/\o.dict=qb)\/
   (T="dict"/\((∃kvs,H p=pi (.dK kvs))\/∃kvs,H p=pi (.dT kvs)))\/(T="set"/\∃S n,H p=pi (.set S n))
 |_=>False
def D5{cc}{σ:St}{H}{s}{T}{x}{v}(I:Inv X cc σ H s)(r:bJ x v)(ty:tyV X.K T x H):
  s.TypeIs v T/\∀a,v= .ref a->∃ob,s.heap.get? a=pi ob/\ob.dict=qb:=by
 cases x with
 |str z=>
  obtain⟨t,rfl⟩:=r;cases (show T="str" from ty);exact⟨typeIs_str s z t,λ_ e=>nomatch e⟩
 |int i=>
  obtain⟨t,rfl⟩:=r;cases (show T="int" from ty);exact⟨typeIs_int s i t,λ_ e=>nomatch e⟩
 |ref p=>
  cases r;rcases ty with ⟨rfl,m,j⟩|⟨rfl,o,hk,l,d⟩|⟨rfl,hk⟩|⟨rfl,S,n,hk⟩;obtain⟨h,_,g,_⟩:=I.list j;refine⟨g.isList.typeIs,λa e=>?_⟩;cases e;obtain⟨o,n,e,c,d,_⟩:=g;exact⟨o,e,d⟩;refine⟨⟨o,I.kIn p o hk,l⟩,λa e=>?_⟩;cases e;exact⟨o,I.kIn _ o hk,d⟩;have z: ∃o,s.heap.get? p=pi o/\o.ExactDict:=by
   rcases hk with ⟨f,hk⟩|⟨f,hk⟩;refine gzq λRz ez=>?_;obtain⟨_,_,_,_,o,_,_,e,ex,_⟩:=I.hok p _ hk;subst ez;exact⟨o,e,ex⟩;refine gzq λRz ez=>?_;obtain⟨_,_,_,_,o,_,_,e,ex,_⟩:=I.hok p _ hk;subst ez;exact⟨o,e,ex⟩
  obtain⟨o,e,ex⟩:=z;refine⟨⟨o,e,ex.1⟩,λa b=>?_⟩;cases b;exact⟨o,e,ex.2.1⟩;refine gzq λRz ez=>?_;obtain⟨o,_,_,_,e,ex,_⟩:=I.hok p _ hk;subst ez;refine⟨⟨o,e,ex.1⟩,λa b=>?_⟩;cases b;exact⟨o,e,ex.2.1⟩
 |_=>exact ba ty
def NY(K:mj)(T:String)(r:V->L1 V->Hp->VK->Prop)(to:TE):TE:=λσ H Q=>to σ H λx H1=>tyV K T x H1/\r x [] H1 Q
def tBM(K:mj)(T:String)(r:V->L1 V->Hp->VK->Prop)(to:TE)(t:TA):TE:=λσ H Q=>to σ H λx H1=>tyV K T x H1/\t σ H1 λxs H2=>r x xs H2 Q
def Jv(pa:PlainAttrs T)(slot:Slot T name id)(hty:typeOf (.builtin id)=pure (.type "method_descriptor"))(hm:MtR X id r)(ho:PE X o to)
  (hbase:attributeBase o name X.env (eval o X.env)=eval o X.env:=by rfl) (hline:(apos.endLine==cpos.line)=qc:=by rfl):PE X (.Call (.Attribute o name apos) [] [] cpos) (NY X.K T r to):=by
 intro e s d H Q I h;refine wpAny_Call_method0_late hbase hline (thn (ho e s d H _ I h) λv f a=>?_);refine gzq λRz ez=>?_;obtain⟨x,i,c,b,ty,q1⟩:=a;obtain⟨j,g⟩:=D5 c b ty;subst ez;exact⟨T,id,pa,slot,hty,j,g,fh rfl (PySem.evalArgs_none (hm e f d i x [] v [] Q c b .nil q1))⟩
def MH(pa:PlainAttrs T)(slot:Slot T name id)(hty:typeOf (.builtin id)=pure (.type "method_descriptor"))(hm:MtR X id r)(ho:PE X o to)(ha:PA X (e::es) t)
  (hbase:attributeBase o name X.env (eval o X.env)=eval o X.env:=by rfl)
  (hfew:((backTo cpos (starEach (e::es) X.env)).all (λx=> !x.1)&&(backToKw cpos (keywordEach [] X.env)).all (λx=>x.1.isSome)
   &&decide ((e::es).length+([]:L1 Keyword).length+(if([]:L1 Keyword).isEmpty then 0 else 1)<30))=qc:=by rfl)
  (hline:(apos.endLine==cpos.line)=qc:=by rfl) (hs:starEach (e::es) X.env=(qe,eval e X.env)::starEach es X.env:=by rfl) (hplain:(backTo cpos (starEach es X.env)).any (·.1)=qe:=by rfl):
  PE X (.Call (.Attribute o name apos) (e::es) [] cpos) (tBM X.K T r to t):=by
 intro d s a H Q I h;refine wpAny_Call_method_late hbase hfew hline rfl (thn (ho d s a H _ I h) λv m c=>?_)
 refine gzq λRz ez=>?_;obtain⟨x,y,f,g,ty,q1⟩:=c;obtain⟨z,w⟩:=D5 f g ty;subst ez;refine⟨T,id,pa,slot,hty,z,w,?_⟩;have i:=ha cpos d m a y _ f q1;rw[hs]at i ⊢;refine fh (by show(qe||(backTo cpos (starEach es X.env)).any (·.1))=qe;rw[hplain]<;>rfl) (gf ?_)
 exact thn i λn q b=>by obtain⟨A,u,p,l,j⟩:=b;exact hm d q a u x A v n Q p g l j
end
def MtM(X:Cx)(id:String)(r:V->L1 V->Hp->VK->Prop):Prop:=
 ∀(cc:cf) (s:Shared) (σ:St) (H:Hp) (x:V) (xs:L1 V) (v:Value) (us:L1 Value) (Q:VK),Inv X cc σ H s->bJ x v->b9 xs us->r x xs H Q->
  X.wp (call (.builtin id) (v::us)) (EP X cc σ Q) X.xe s
def b9.one: ∀{x} {us},b9 [x] us->∃u,us=[u]/\bJ x u:=by
 intro x us h;cases h with
 |cons r t=>
  cases t;exact⟨_,rfl,r⟩
def b9.two: ∀{x y} {us},b9 [x,y] us->∃u v,us=[u,v]/\bJ x u/\bJ y v:=by
 intro x y us h;cases h with
 |cons r t=>
  cases t with
  |cons q t=>
   cases t;exact⟨_,_,rfl,r,q⟩
def b9.zero: ∀{us},b9 [] us->us=[]
 |_,.nil=>rfl
theorem b9.dropLast(h:b9 xs us):b9 xs.dropLast us.dropLast:=by
 induction h with
 |nil=>exact .nil
 |cons r t a=>
  rcases t with _|⟨q,b⟩;exact .nil;exact .cons r a
theorem b9.reverse(h:b9 xs us):b9 xs.reverse us.reverse:=by
 induction h with
 |nil=>exact .nil
 |cons r t a=>rw[ja,ja];exact b9.append a (.cons r .nil)
theorem b9.rep{xs}{us}(h:b9 xs us): ∀k,b9 (ao k xs).flatten (ao k us).flatten
 |0=>.nil
 |k+1=>by
  rw[gz,gz,jb,jb];exact b9.append h (b9.rep h k)
def wV{α:Type}(l:L1 α):l.eraseIdx (l.length-1)=l.dropLast:=by
 induction l with
 |nil=>rfl
 |cons a r c=>
  rcases r with _|⟨b,r⟩;rfl;have e:(a::b::r).length-1=((b::r).length-1)+1:=by
   have d:(a::b::r).length=r.length+2:=rfl;have f:(b::r).length=r.length+1:=rfl;lia
  rw[e,List.eraseIdx_cons_succ,c];all_goals rfl
theorem qM(its:L1 Value): ∀k acc,
  List.foldl (λx1 x2=>x1++x2) acc.toArray (ao k its.toArray)=(acc++(ao k its).flatten).toArray
 |0,acc=>by simp
 |k+1,acc=>by
  have e:acc.toArray++its.toArray=(acc++its).toArray:=by simp
  have a:(acc++its)++(ao k its).flatten=acc++(ao (k+1) its).flatten:=by
   rw[gz,jb,jc]
  rw[<-a, <-qM its k (acc++its), <-e,gz,List.foldl_cons]
section
variable{σ:St}
def Inv.lset{its its':L1 Value}(I:Inv X cc σ H s)(hH:H l=pi (.lst xs))(e:s.heap.get? l=pi {cls:=.type "list",data:=.seq its.toArray n})(hf:f its.toArray=its'.toArray)(hv:b9 ys its')(hz:ys.length<=sizeLine):
  Inv X cc σ (upd H l (.lst ys)) {s with heap:=s.heap.update l (oz f),toks:=t'}:=by
 have q:=PySem.IsL.update e f;rw[hf]at q;refine I.write (x:=l) (e:=l) (by rw[hH];exact trivial) (.inl rfl) (λc u a b=>(fg s.heap (oz f) (qa a)).trans b) ⟨_,q⟩ ?_;exact⟨hz,its',_,hv,q⟩
def Inv.lnew(I:Inv X cc σ H s)(hv:b9 ys its)(hz:ys.length<=sizeLine):
  Inv X cc σ (upd H s.z (.lst ys)) {s with heap:=s.heap.push {cls:=.type "list",data:=.seq its.toArray},toks:=t'}:=
 I.laid (λ_ _ q=>ae _ q) (aj _) ⟨hz,its,0,hv,af _ rfl⟩
theorem Inv.fresh(I:Inv X cc σ H s):H s.z=qb:=I.hok.fresh (aj _)
def Inv.lstM(I:Inv X cc σ H s)(hH:H l=pi (.lst xs)):xs.length<=sizeLine/\∃its n,b9 xs its/\xs.length=its.length/\s.heap.get? l=pi {cls:=.type "list",data:=.seq its.toArray n}:=by obtain⟨z,its,n,r,e⟩:=I.hok l _ hH;exact⟨z,its,n,r,r.length,e⟩
def B6(h:n<=sizeLine):ee n=qe:=by unfold ee;exact decide_eq_false (by lia)
end
def Fw:V->L1 V->Hp->VK->Prop:=λx vs H Q=>∃l xs y,x= .ref l/\vs=[y]/\H l=pi (.lst xs)/\xs.length<sizeLine/\Q .non (upd H l (.lst (xs++[y])))
def qN:MtM X "list.append" Fw:=by intro o s g H x t v i Q I f c h;obtain⟨l,p,y,rfl,rfl,b,j,q⟩:=h;cases f;obtain⟨u,rfl,d⟩:=c.one;obtain⟨z,a,n,r,m,e⟩:=I.lstM b;refine call_meets F.slot_list_append ⟨_,e,rfl⟩ F.entry_list_append (F.args_list_append_2 _ _) (PySem.list_append l a.toArray n u (by rw[ax];lia)) ⟨e,?_⟩;refine⟨.non,_,I.lset (its':=a++[u]) b e (by simp) (r.append (.cons d .nil)) ?_,rfl,q⟩;rw[bo,List.length_singleton];lia
def OC:V->L1 V->Hp->VK->Prop:=λx vs H Q=>∃l xs y,x= .ref l/\vs=[]/\H l=pi (.lst xs)/\xs[xs.length-1]? =pi y/\Q y (upd H l (.lst xs.dropLast))
def Jw:MtM X "list.pop" OC:=by
 intro w s p H x B v t Q I o g h;obtain⟨l,A,y,rfl,rfl,d,f,q⟩:=h;cases o;have c:=g.zero;subst c;obtain⟨z,a,n,r,m,e⟩:=I.lstM d;obtain⟨u,j,i⟩:=r.get f;have b:a.toArray[a.toArray.size-1]? =pi u:=by
  show a.toArray[a.length-1]? =pi u;rw[<-Array.getElem?_toList, <-m];exact j
 refine call_meets F.slot_list_pop ⟨_,e,rfl⟩ F.entry_list_pop (F.args_list_pop_1 _) (MeetsSeq.list_pop_last l a.toArray n u b (by rw[ax];lia)) ⟨e,?_⟩;refine⟨y,_,I.lset (its':=a.dropLast) d e ?_ r.dropLast ?_,i,q⟩;show a.toArray.eraseIdxIfInBounds (a.toArray.size-1)=a.dropLast.toArray;rw[ax,List.eraseIdxIfInBounds_toArray,wV];rw[List.length_dropLast];lia
def Fx{α:Type}(xs:L1 α)k:(ao k xs).flatten.length=k*xs.length:=by
 induction k with
 |zero=>simp
 |succ k a=>rw[gz,jb,bo,a,Nat.succ_mul,Nat.add_comm]
end L2
namespace Att
open PySem PySem.W PySem.Calls PyProof.Rows
def lI: ∀ns vs,WellAll P h vs (ns.map WData.int)->IntsAre vs ns:=by
 intro ns;induction ns with
 |nil=>
  intro vs w;rw[nj]at w;cases w;exact .nil
 |cons n ns c=>
  intro vs w;rw[lm]at w;cases w with
  |cons a b=>
   cases a;exact .cons _ _ (c _ b)
def yH{l:OpenLaw}(hn:l.most=pi n)(hpre:l.row.toRowW.claim.pre args=qc)(hwl:WellAll P h vals args):
  ∃a vs ns,vals=[pf a]/\args=[WData.list (ns.map WData.int)]/\h.get? a=pi {cls:=.type "list",data:=.seq vs.toArray}/\IntsAre vs ns/\ns.length<=n:=by
 have hsh:WShape.hasAll [] args [.list .int]=qc:=(pre_splitW hpre).1;have g:l.pre.holds [] {args:=args}=qc:=(pre_splitW hpre).2;obtain⟨d,r,rfl,t,o⟩:=hasAllW_cons hsh;obtain rfl:=hasAllW_nil o;obtain⟨u,rfl,i⟩:=hasW_list t;obtain⟨ns,rfl⟩:=items_int i;have b:ns.length<=n:=by
  unfold OpenLaw.pre at g;have f:(WTm.not (.lt (.lit (.int (n:Int))) (.len (.arg 0)))).holds [] {args:=[.list (ns.map .int)]}=qc:=by
   have f:=(holds_andW g).1;rw[hn]at f;exact f
  have e:=condW_of f (w_not (w_lt w_lit (w_len_list (w_arg rfl))));rw[aq]at e;refine Nat.le_of_not_lt λq=>?_;have p:(n:Int)<((ns.length:Nat):Int):=by lia
  first
   |(rw[decide_eq_true p]at e;exact absurd e rfl)
   |(simp at e;lia)
 cases hwl with
 |cons s j=>
  cases j;cases s with
  |list m c=>exact⟨_,_,ns,rfl,rfl,m,lI ns _ c,b⟩
def yI(l:OpenLaw)args:l.row.toRowW.claim.post args (.bool qc) args=qc:=
 postW_of (r:=l.row.toRowW) (X:=(qc==qc))
  (show WShape.has [] (.bool qc) .bool=qc by first|rfl|decide|simp[WShape.has,WShape.arms,WShape.armsAll])
  (show(WTm.eq .res (.lit (.bool qc))).value [] {args:=args,res:=pi (.bool qc),after:=args}=pi (.bool (qc==qc)) from w_eq_bool (w_res rfl) w_lit) rfl
def attach_call{l:OpenLaw}(hn:l.most=pi n)(hdf:d.params.defaults=[])(call: ∀w s₀ s₁ mg mb fa o pm cd doc a vs ns,
   Ground q loose [] XP w s₀ mg mb s₁.heap->YP w s₁.heap->
   s₁.heap.get? fa=pi o->o.data= .func (docDef d.name d.params d.body d.scope pm cd doc)->s₁.heap.CodeRec cd d.name->mg d.name=pi (.ref fa)->
   s₁.heap.get? a=pi {cls:=.type "list",data:=.seq vs.toArray}->IntsAre vs ns->ns.length<=n->s₁.gens= #[]->
   codeAny (model l.prog w) callerA (.call (.ref fa) ⟨[.ref a],[]⟩) (λr s'=>r= .ok (.ret (.bool qc))/\OldK s₁.heap s'.heap/\s'.os=s₁.os/\AllBare s'.gens) s₁):
  WalkO q loose XP YP l.row.toRowW d [] (λf vs=>PySem.call f vs):=by
 intro w s₀ s₁ mg mb G Y fa o pm cd doc z kV A C i hD j E args m H g p y h t;obtain rfl:z= .none:=Dflts.none hD hdf;obtain rfl:kV= .none:=Dflts.noKw hD;obtain⟨a,vs,ns,rfl,rfl,e,b,c⟩:=yH hn g h;refine enter_call (codeAny_mono (call w s₀ s₁ mg mb fa o pm cd doc a vs ns G Y A (fd_plain C) i j e b c E) λr s' v=>?_)
 obtain⟨rfl,u,x,B⟩:=v;exact⟨.inl ⟨.bool qc,.bool qc,[],rfl,λ_=>rfl,.bool qc,yI l _,λ_=>⟨List.Pairwise.nil,λ_ s=>(nomatch s)⟩⟩,u,x,B⟩
noncomputable def NZ(h:Heap)(L d:Addr):cf:=(oo h.objs.size).filterMap λa=>if a=L\/a=d then qb else(h.get? a).map λo=>(a,o)
end Att
namespace L2
open PySem PySem.Spec PyProof.Rows
theorem qO: ∀{vs} {ns},IntsAre vs ns->b9 (ns.map V.int) vs
 |_,_,.nil=>.nil
 |_,_,.cons n t h=>.cons ⟨t,rfl⟩ (qO h)
def MJ(H:Hp):Prop:= ∀b,H b=qb\/∃o xs,H b=pi (.frz o (.lst xs))
noncomputable abbrev KOf{K:mj}{h:Heap}(_:K.In h):mj:=K
structure Fun(K:mj)(x qual:Str)(st:Stmt)(f:Addr)(fd:FuncData):Prop where
 ex: ∃(oc:Value) (od:Option Addr) (kV doc pm:Value) (an:Option Addr) (cdv ct:Value) (osl:Array (Option Value)),
  fd=ni x qual (defArgs st) (defBody st) (defScope st) .none kV doc pm an cdv ct/\K.lookup f=pi ⟨oc,od,.func fd,osl⟩/\ky K cdv qual=qc
 kp:ku K (.ref f)=qc
section
variable{K:mj}
def Fun.binds{st}(F:Fun K x qual st f fd)(h: ∀kV doc pm an cdv ct us,us.length=ps.length->bindArgs (ni x qual (defArgs st) (defBody st) (defScope st) .none kV doc pm an cdv ct) ⟨us,[]⟩=pure (ps.zip us)):dO K fd ps []:=by obtain⟨d,c,kV,doc,pm,an,cdv,ct,b,rfl,lk,a⟩:=F.ex;exact .all (h kV doc pm an cdv ct)
def lJ{st}{kV doc pm cdv ct}(l:K.lookup f=pi ⟨oc,od,.func (ni x qual (defArgs st) (defBody st) (defScope st) .none kV doc pm an cdv ct),osl⟩)(c:ky K cdv qual=qc)(k:ku K (.ref f)=qc):Fun K x qual st f (ni x qual (defArgs st) (defBody st) (defScope st) .none kV doc pm an cdv ct):=⟨⟨oc,od,kV,doc,pm,an,cdv,ct,osl,rfl,l,c⟩,k⟩
end
def yJ{A B:Prop}(h:B):if qe=qc then A else B:=by rw[if_neg bf];exact h
def xR{A B:Prop}(h:A):if qc=qc then A else B:=by rw[if_pos rfl];exact h
def Same(H H':Hp):Prop:= ∀b o,H b=pi o->H' b=pi o
def Same.refl H:Same H H:=λ_ _ h=>h
def Same.trans(a:Same H H1)(b:Same H1 H2):Same H H2:=λc o h=>b c o (a c o h)
def Same.free(e:Same H H')(h:H' l=Option.none):H l=Option.none:=by rcases q:H l with _|o;rfl;rw[e l o q]at h;cases h
def Same.seq{K}(e:Same H H')(h:SqL K H a xs):SqL K H' a xs:=by rcases h with (h|⟨o,h⟩)|h;exact .inl (.inl (e _ _ h));exact .inl (.inr ⟨o,e _ _ h⟩);exact .inr h
end L2
namespace SK
open PySem PySem.Spec PyProof.Rows L2
open PySem.AutoSeq1 (wpAny_loadPart' idx_int)
def mM a t l items n T dd sl(hT:T="list"\/T="tuple"):
  Meets (Builtin.«int.__rmul__» ⟨[.int a t,.ref l],[]⟩) (λ_ R s=>s.heap.get? l=pi {cls:=.type T,dict:=dd,data:=.seq items n,slots:=sl}/\R (.ok (.ret Value.notImplemented)) s):=
 .of_wp λb w A R s h=>by
  refine gzq λRz ez=>?_;obtain⟨f,g,d,i,e⟩:=s;obtain⟨c,h⟩:=h;subst ez;rcases hT with rfl|rfl<;>(wp_walk using wpAny_loadPart' c;exact⟨_,rfl,h⟩)
def yK l items n x u dd sl(hc0: ¬(!Builtin.List.listFitsIndex x)=qc)(hc1: ¬items.size*x.toNat > (2^63-1)/8)(hc2: ¬ee (items.size*x.toNat)=qc):
  Meets (Builtin.«list.__mul__» ⟨[.ref l,.int x u],[]⟩) (λ_ R s=>s.heap.get? l=pi {cls:=.type "list",dict:=dd,data:=.seq items n,slots:=sl}/\R (.ok (.ret (pf s.z))) {s with heap:=s.heap.push {cls:=ox "list",data:=Data.seq (List.foldl (λx1 x2=>x1++x2) #[] (ao (if items.isEmpty=qc then 0 else x.toNat) items))},toks:=s.toks}):=
 .of_wp λb w A R s h=>by
  obtain⟨f,g,d,i,e⟩:=s;obtain⟨c,h⟩:=h;have a:=AutoListH.joined_fits hc2;wp_walk using wpAny_loadPart' c;refine wpAny_ite_false (decide_eq_false (o0.mpr a)) ?_;wp_walk;exact⟨_,rfl,h⟩
open PySem.AutoSeq1 (wpAny_loadPart' idx_int)
set_option genInjectivity true in
inductive D where
 |non|bl (b:Bool)|int (i:Int)|str (x:Str)
 |tup (xs:List D)|lst (xs:List D)
 |exc (c:Nat)|fn (f:Nat)|dct (ks:List Str) (vs:List D)
 deriving Inhabited
noncomputable def b2i(b:Bool):Int:=if b then 1 else 0
mutual
noncomputable def deq:D->D->Bool
 |.non,.non=>qc
 |.bl a,.bl b=>a==b
 |.bl a,.int j=>b2i a==j
 |.int i,.bl b=>i==b2i b
 |.int i,.int j=>i==j
 |.str x,.str y=>x==y
 |.tup xs,.tup ys=>xS xs ys
 |.lst xs,.lst ys=>xS xs ys
 |_,_=>qe
noncomputable def xS:L1 D->L1 D->Bool
 |[],[]=>qc
 |x::xs,y::ys=>deq x y&&xS xs ys
 |_,_=>qe
end
mutual
noncomputable def plain:D->Bool
 |.non=>qc
 |.bl _=>qc
 |.int _=>qc
 |.str x=>x.cps.all (· <0x110000)
 |.tup xs=>cE xs
 |.lst xs=>cE xs
 |.exc _=>qe
 |.fn _=>qe
 |.dct _ _=>qe
noncomputable def cE:L1 D->Bool
 |[]=>qc
 |x::xs=>plain x&&cE xs
end
mutual
noncomputable def dep:D->Nat
 |.tup xs=>xT xs+1
 |.lst xs=>xT xs+1
 |_=>0
noncomputable def xT:L1 D->Nat
 |[]=>0
 |x::xs=>max (dep x) (xT xs)
end
def iO(x y:D):Bool:=plain x&&plain y&&decide (min (dep x) (dep y)<=60)
set_option genInjectivity true in
inductive R where
 |ok (d:D)|ow (xs:List D)|ex (c:Nat)|bad
noncomputable def R.bind(r:R)(k:D->R):R:=match r with
 |.ok d=>k d
 |.ow xs=>k (.lst xs)
 |.ex c=>.ex c
 |.bad=>.bad
structure Rk where
 held:List (Str×D)
 done:List D
 undone:List D
set_option genInjectivity true in
inductive RM where
 |pure (x:R)|chg (x:D) (r:Rk)
abbrev FM:=Rk->L1 D->RM
noncomputable def RM.told:RM->R
 |.pure x=>x
 |.chg _ _=>.bad
inductive Slot where
 |no|sh (d:D)|ow (xs:List D)|dc (kvs:List (Str×D))|sd (kvs:List (Str×D))|rk (C:Nat) (r:Rk)
noncomputable def Slot.isRk:Slot->Bool
 |.rk _ _=>qc
 |_=>qe
noncomputable def Slot.owns:Slot->Bool
 |.ow _=>qc
 |.dc _=>qc
 |.sd _=>qc
 |_=>qe
abbrev Rho:=L1 Slot
abbrev F:=Rho->R
inductive Out where
 |nx (ρ:Rho)|rt (r:R)|bk (ρ:Rho)|ct (ρ:Rho)|ex (c:Nat) (ρ:Rho)
abbrev FS:=Rho->Out
abbrev Fn:=L1 D->R
def LIM:Nat:=100000
noncomputable def sml(i:Int):Bool:=decide (-18446744073709551616<i)&&decide (i<18446744073709551616)
noncomputable def d8(op:Operator)(i j:Int):R:=match op with
 |.Add=>.ok (.int (i+j))
 |.Sub=>.ok (.int (i-j))
 |.Mult=>if sml i||sml j then .ok (.int (i*j))else .bad
 |.FloorDiv=>if 0<j/\j<1073741824 then .ok (.int (i/j))else .bad
 |.Mod=>if 0<j then .ok (.int (i % j))else .bad
 |.LShift=>if 0<=j/\j<=1000/\sml i=qc then .ok (.int (i*2^j.toNat))else .bad
 |_=>.bad
noncomputable def MP(xs:L1 D)(k:Int):L1 D:=(ao k.toNat xs).flatten
noncomputable def iQ(op:Operator)(x y:D):R:=match x,y with
 |.int i,.int j=>(match op with
  |.BitAnd=>.ok (.int (Builtin.bitAnd i j))
  |.BitOr=>.ok (.int (Builtin.bitOr i j))
  |.BitXor=>.ok (.int (Builtin.bitXor i j))
  |op=>d8 op i j)
 |.lst xs,.lst ys=>(match op with
  |.Add=>if xs.length+ys.length<=LIM then .ow (xs++ys)else .bad
  |_=>.bad)
 |.lst xs,.int k=>(match op with
  |.Mult=>if -1000000<k/\k<1000000/\xs.length*k.toNat<=LIM then .ow (MP xs k)else .bad
  |_=>.bad)
 |_,_=>.bad
noncomputable def items:D->L7 (L1 D)
 |.tup xs=>pi xs
 |.lst xs=>pi xs
 |_=>qb
noncomputable def wW(x:Str):L1 D:=x.cps.toList.map λc=>D.str ⟨#[c]⟩
noncomputable def j9:D->L7 (L1 D)
 |.tup xs=>pi xs
 |.lst xs=>pi xs
 |.str x=>if x.cps.size<=1000 then pi (wW x)else qb
 |.dct ks _=>if ks.length<=1000 then pi (ks.map D.str)else qb
 |_=>qb
noncomputable def n6:D->Bool
 |.non=>qc
 |_=>qe
noncomputable def OY(b:Bool):D->Bool
 |.bl a=>a==b
 |_=>qe
def uU(x:D)(ys:L1 D):Bool:=ys.all λy=>iO y x
noncomputable def inS(x y:D)(neg:Bool):R:=match x,y with
 |.str a,.dct ks _=>.ok (.bl (neg != ks.contains a))
 |_,_=>.bad
noncomputable def bC(kvs:L1 (Str×D))(x:Str):L7 D:=(kvs.find? λp=>decide (p.1=x)).map (·.2)
noncomputable def D6(a b:L1 (Str×D)):Bool:=a.length==b.length&&a.all λp=>match bC b p.1 with|some w=>deq p.2 w|none=>qe
noncomputable def n9(neg:Bool)(x y:D):R:=match x,y with
 |.dct ks vs,.dct ls ws=>if(vs.all λd=>ws.all λe=>iO d e)=qc then .ok (.bl (neg != D6 (ks.zip vs) (ls.zip ws)))else .bad
 |_,_=>.bad
noncomputable def dR(op:CmpOp)(x y:D):R:=match op with
 |.Eq=>if iO x y then .ok (.bl (deq x y))else n9 qe x y
 |.NotEq=>if iO x y then .ok (.bl (!deq x y))else n9 qc x y
 |.Lt=>(match x,y with|.int i,.int j=>.ok (.bl (decide (i<j)))|_,_=>.bad)
 |.LtE=>(match x,y with|.int i,.int j=>.ok (.bl (decide (i<=j)))|.str i,.str j=>.ok (.bl (!decide (j.cps.toList<i.cps.toList)))|_,_=>.bad)
 |.Gt=>(match x,y with|.int i,.int j=>.ok (.bl (decide (j<i)))|_,_=>.bad)
 |.GtE=>(match x,y with|.int i,.int j=>.ok (.bl (decide (j<=i)))|_,_=>.bad)
 |.Is=>(match y with
  |.non=>.ok (.bl (n6 x))
  |_=>.bad)
 |.IsNot=>(match y with
  |.non=>.ok (.bl (!n6 x))
  |_=>.bad)
 |.In=>inS x y qe
 |.NotIn=>(match items y with|some ys=>if uU x ys then .ok (.bl (!ys.any λy=>deq y x))else .bad|none=>inS x y qc)
noncomputable def ixD(n:Nat)(i:Int):L7 Nat:=if 0<=i then(if i<n then pi i.toNat else qb)else if -(n:Int)<=i then pi (i+n).toNat else qb
noncomputable def ixS(x y:D):R:=match x,y with
 |.str z,.int i=>if z.length<=LIM then(match(ixD z.cps.toList.length i).bind λj=>z.cps.toList[j]? with|some c=>.ok (.str ⟨#[c]⟩)|none=>.bad)else .bad
 |.dct ks vs,.str k=>(match bC (ks.zip vs) k with|some d=>.ok d|none=>.bad)
 |_,_=>.bad
noncomputable def dIx(x y:D):R:=match items x,y with
 |some xs,.int i=>(match(ixD xs.length i).bind λj=>xs[j]? with|some d=>.ok d|none=>.bad)
 |some _,_=>.bad
 |none,_=>ixS x y
noncomputable def N0:D->(Int->R)->R
 |.int i,k=>k i
 |_,_=>.bad
noncomputable def aB(i:Nat):F:=λρ=>match ρ[i]? with|some (.sh d)=>.ok d|_=>.bad
noncomputable def aE(i:Nat):F:=λρ=>match ρ[i]? with|some (.sh d)=>.ok d|some (.ow xs)=>.ok (.lst xs)|_=>.bad
noncomputable def rK(d:D):F:=λ_=>.ok d
def aV(op:Operator)(a b:F):F:=λρ=>(a ρ).bind λx=>(b ρ).bind λy=>iQ op x y
noncomputable def BN(a:F):F:=λρ=>(a ρ).bind λx=>match x with|.int i=>.ok (.int (-i))|_=>.bad
def qP(a:F):F:=λρ=>(a ρ).bind λx=>match x with|.bl b=>.ok (.bl (!b))|_=>.bad
def kO(a b:F):F:=λρ=>(a ρ).bind λx=>match x with|.bl qc=>b ρ|.bl qe=>.ok (.bl qe)|_=>.bad
def rOr(a b:F):F:=λρ=>(a ρ).bind λx=>match x with|.bl qc=>.ok (.bl qc)|.bl qe=>b ρ|_=>.bad
def bH(op:CmpOp)(a b:F):F:=λρ=>(a ρ).bind λx=>(b ρ).bind λy=>dR op x y
def kA(op op':CmpOp)(a b c:F):F:=λρ=>(a ρ).bind λx=>(b ρ).bind λy=>(dR op x y).bind λz=>match z with
 |.bl qc=>(c ρ).bind λw=>dR op' y w
 |.bl qe=>.ok (.bl qe)
 |_=>.bad
inductive RA where
 |ok (ds:List D)|ex (c:Nat)|bad
noncomputable def RA.cons(x:D):RA->RA
 |.ok ds=>.ok (x::ds)
 |.ex c=>.ex c
 |.bad=>.bad
noncomputable def RA.then(r:RA)(k:L1 D->R):R:=match r with
 |.ok ds=>k ds
 |.ex c=>.ex c
 |.bad=>.bad
noncomputable def args:L1 F->Rho->RA
 |[],_=>.ok []
 |f::fs,ρ=>match f ρ with
  |.ok x=>(args fs ρ).cons x
  |.ow xs=>(args fs ρ).cons (.lst xs)
  |.ex c=>.ex c
  |.bad=>.bad
def mO(fs:L1 F)(ρ:Rho)(k:L1 D->R):R:=(args fs ρ).then k
def dD(fs:L1 F):F:=λρ=>mO fs ρ λxs=>.ok (.tup xs)
def gG(fs:L1 F):F:=λρ=>mO fs ρ λxs=>.ow xs
def rIx(a b:F):F:=λρ=>(a ρ).bind λx=>(b ρ).bind λy=>dIx x y
def aH(f:Fn)(fs:L1 F):F:=λρ=>mO fs ρ f
noncomputable def tD(r:Fn)(a b:F):F:=λρ=>(a ρ).bind λx=>match x with|.lst ds=>(b ρ).bind λy=>r [.lst ds,y]|_=>.bad
noncomputable def rIs(p:D->L7 Bool)(a:F):F:=λρ=>(a ρ).bind λx=>match p x with|some b=>.ok (.bl b)|none=>.bad
noncomputable def bM(f:D->L7 (L7 D)):L1 D->L7 (L1 D)
 |[]=>pi []
 |d::r=>match f d with
  |none=>qb
  |some qb=>bM f r
  |some (pi x)=>(bM f r).map (x:: ·)
noncomputable def tgt(n:Nat)(d:D):L7 (L1 Slot):=match n with
 |0=>pi [.sh d]
 |n=>match d with
  |.tup ds=>if ds.length=n then pi (ds.map Slot.sh)else qb
  |_=>qb
noncomputable def mP(cs:L1 Nat)(ρ:Rho):L1 Slot:=cs.map λi=>(ρ[i]?).getD .no
noncomputable def dN(n:Nat)(cs:L1 Slot)(c:L7 F)(e:F)(d:D):L7 (L7 D):=match tgt n d with
 |none=>qb
 |some ts=>match c with
  |none=>(match e (ts++cs)with|.ok x=>pi (pi x)|.ow xs=>pi (pi (.lst xs))|_=>qb)
  |some c=>match c (ts++cs)with
   |.ok (.bl qc)=>(match e (ts++cs)with|.ok x=>pi (pi x)|.ow xs=>pi (pi (.lst xs))|_=>qb)
   |.ok (.bl qe)=>pi qb
   |_=>qb
def bS(n:Nat)(cs:L1 Nat)(it:F)(c:L7 F)(e:F):F:=λρ=>(it ρ).bind λx=>match j9 x with
 |some ds=>(match bM (dN n (mP cs ρ) c e) ds with|some xs=>.ow xs|none=>.bad)
 |none=>.bad
noncomputable def qQ(n:Nat):L1 D:=(oo n).map λ(i:Nat)=>D.int (i:Int)
def bX(a:F):F:=λρ=>(a ρ).bind λx=>N0 x λi=>if -100000<=i/\i<=100000 then .ok (.lst (qQ i.toNat))else .bad
def OD(a:F):F:=λρ=>(a ρ).bind λx=>match items x with
 |some xs=>.ok (.lst (xs.zipIdx.map λp=>D.tup [.int (p.2:Nat),p.1]))
 |none=>.bad
noncomputable def qR(a b:F):F:=λρ=>(a ρ).bind λx=>(b ρ).bind λy=>match x,y with
 |.tup xs,.tup ys=>.ok (.lst ((xs.zip ys).map λp=>D.tup [p.1,p.2]))
 |.lst xs,.lst ys=>.ok (.lst ((xs.zip ys).map λp=>D.tup [p.1,p.2]))
 |.lst xs,.tup ys=>.ok (.lst ((xs.zip ys).map λp=>D.tup [p.1,p.2]))
 |.tup xs,.lst ys=>.ok (.lst ((xs.zip ys).map λp=>D.tup [p.1,p.2]))
 |_,_=>.bad
noncomputable def N1:D->R|.str z=>if z.length<=100000 then .ok (.int z.length)else .bad|_=>.bad
noncomputable def qU:Fn|[x]=>(match items x with|some xs=>.ok (.int xs.length)|none=>N1 x)|_=>.bad
noncomputable def sS:Fn|[.int i]=>.ok (.int i)|[.bl b]=>.ok (.int (b2i b))|[.str x]=>(match x.cps.toList with|[c]=>if 48<=c/\c<58 then .ok (.int ((c-48:Nat):Int))else .bad|_=>.bad)|_=>.bad
def iD:Fn|[x]=>(match items x with|some xs=>.ok (.tup xs)|none=>.bad)|_=>.bad
def wX:Fn|[x]=>(match items x with|some xs=>.ow xs|none=>.bad)|_=>.bad
noncomputable def jJ:L1 D->L7 (L1 Int)
 |[]=>pi []
 |.int i::r=>(jJ r).map (i:: ·)
 |_::_=>qb
noncomputable def fI:L1 D->L7 (L1 Bool)
 |[]=>pi []
 |.bl b::r=>(fI r).map (b:: ·)
 |_::_=>qb
def BO:Fn|[x]=>(match(items x).bind jJ with|some xs=>.ok (.int xs.sum)|none=>.bad)|_=>.bad
def IG:Fn|[x]=>(match(items x).bind fI with|some xs=>.ok (.bl (xs.all id))|none=>.bad)|_=>.bad
def OZ:Fn|[x]=>(match(items x).bind fI with|some xs=>.ok (.bl (xs.any id))|none=>.bad)|_=>.bad
noncomputable def O0:Fn|[.int i,.int j]=>.ok (.int (if j > i then j else i))|_=>.bad
noncomputable def O1:Fn|[.int i,.int j]=>.ok (.int (if j<i then j else i))|_=>.bad
noncomputable def O2:Fn|[.int i]=>.ok (.int (if i<0 then -i else i))|_=>.bad
mutual
noncomputable def same:D->D->Bool
 |.int _,.int _=>qc
 |.tup xs,.tup ys=>Jx xs ys
 |_,_=>qe
noncomputable def Jx:L1 D->L1 D->Bool
 |[],[]=>qc
 |x::xs,y::ys=>same x y&&Jx xs ys
 |_,_=>qe
end
mutual
noncomputable def OE:D->L1 Int
 |.int i=>[i]
 |.tup xs=>Jy xs
 |_=>[]
noncomputable def Jy:L1 D->L1 Int
 |[]=>[]
 |x::xs=>OE x++Jy xs
end
noncomputable def OF(ns:L1 Int):L1 Int:=((oo 17).filter λ(k:Nat)=>ns.contains (k:Int)).map λ(k:Nat)=>(k:Int)
noncomputable def OG(ns:L1 Int):Bool:=ns.all λn=>decide (0<=n/\n<17)
def OH(ds:L1 D):R:=match jJ ds with|some ns=>if OG ns then .ok (.int ((OF ns).length:Nat))else .bad|none=>.bad
def dLS:Fn|[x]=>(match x with|.lst ds=>OH ds|_=>.bad)|_=>.bad
def yL:Fn|[.lst ys,x]=>if uU x ys then .ok (.int ((ys.countP λy=>deq y x):Nat))else .bad|_=>.bad
def yM:Fn|[.lst ys,x]=>if uU x ys then(match ys.findIdx? λy=>deq y x with|some k=>.ok (.int (k:Nat))|none=>.bad)else .bad|_=>.bad
noncomputable def Jz(x:D):R:=match x with|.lst xs=>.ow xs.reverse|_=>.bad
def JA(a:F):F:=λρ=>(a ρ).bind Jz
noncomputable def orP(p q:D->L7 Bool):D->L7 Bool:=λd=>match p d,q d with|some a,pi b=>pi (a||b)|_,_=>qb
noncomputable def OI(kvs:L1 (D×D))(k:D):Bool:=kvs.any λp=>deq p.1 k
noncomputable def putK(kvs:L1 (D×D))(k d:D):L1 (D×D):=if OI kvs k then kvs.map (λp=>if deq p.1 k then(p.1,d)else p)else kvs++[(k,d)]
noncomputable def inK(op:CmpOp)(b:Bool):R:=match op with
 |.In=>.ok (.bl b)
 |.NotIn=>.ok (.bl !b)
 |_=>.bad
noncomputable def put(ρ:Rho)(i:Nat)(s:Slot):Rho:=ρ.set i s
noncomputable def frz1(i:Nat)(ρ:Rho):Rho:=match ρ[i]? with|some (.ow xs)=>ρ.set i (.sh (.lst xs))|some (.dc kvs)=>ρ.set i (.sh (.dct (kvs.map (·.1)) (kvs.map (·.2))))|_=>ρ
noncomputable def frz(is:L1 Nat)(ρ:Rho):Rho:=is.foldl (λρ i=>frz1 i ρ) ρ
noncomputable def LW(is:L1 Nat)(s:FS):FS:=λρ=>s (frz is ρ)
noncomputable def fU(ρ:Rho)(r:R)(k:D->Out):Out:=match r with
 |.ok d=>k d
 |.ow xs=>k (.lst xs)
 |.ex c=>.ex c ρ
 |.bad=>.rt .bad
def fS(i:Nat)(e:F):FS:=λρ=>fU ρ (e ρ) λd=>.nx (ρ.set i (.sh d))
noncomputable def wY(i:Nat)(e:F):FS:=λρ=>match e ρ with
 |.ok d=>.nx (ρ.set i (.sh d))
 |.ow xs=>.nx (ρ.set i (.ow xs))
 |.ex c=>.ex c ρ
 |.bad=>.rt .bad
noncomputable def OJ(j i:Nat):FS:=λρ=>match ρ[j]? with
 |some (.ow xs)=>.nx ((ρ.set j .no).set i (.ow xs))
 |_=>.rt .bad
noncomputable def setN:L1 Nat->L1 D->Rho->Rho
 |i::is,d::ds,ρ=>setN is ds (ρ.set i (.sh d))
 |_,_,ρ=>ρ
def eT(is:L1 Nat)(e:F):FS:=λρ=>fU ρ (e ρ) λd=>match d with
 |.tup ds=>if ds.length=is.length then .nx (setN is ds ρ)else .rt .bad
 |.lst ds=>if ds.length=is.length then .nx (setN is ds ρ)else .rt .bad
 |_=>.rt .bad
def O3(i:Nat)(op:Operator)(e:F):FS:=λρ=>match ρ[i]? with
 |some (.sh (.int a))=>fU ρ (e ρ) λd=>(match d,op with
  |.int b,.Add=>.nx (ρ.set i (.sh (.int (a+b))))
  |.int b,.Sub=>.nx (ρ.set i (.sh (.int (a-b))))
  |_,_=>.rt .bad)
 |_=>.rt .bad
def kJ(e:F):FS:=λρ=>fU ρ (e ρ) λ_=>.nx ρ
noncomputable def dW(e:F):FS:=λρ=>match e ρ with
 |.ok d=>.rt (.ok d)
 |.ow xs=>.rt (.ow xs)
 |.ex c=>.ex c ρ
 |.bad=>.rt .bad
def aU:FS:=λρ=>.nx ρ
noncomputable def aR(a b:FS):FS:=λρ=>match a ρ with|.nx ρ'=>b ρ'|o=>o
noncomputable def sIf(c:F)(a b:FS):FS:=λρ=>match c ρ with
 |.ok (.bl qc)=>a ρ
 |.ok (.bl qe)=>b ρ
 |.ex c=>.ex c ρ
 |_=>.rt .bad
def mZ(c:Nat):FS:=λρ=>.ex c ρ
noncomputable def fJ(kvs:L1 (Str×D))(x:Str)(d:D):L1 (Str×D):=if(kvs.any λp=>decide (p.1=x))=qc then kvs.map (λp=>if p.1=x then(p.1,d)else p)else kvs++[(x,d)]
noncomputable def xU(i:Nat)(k e:F):FS:=λρ=>fU ρ (e ρ) λd=>match ρ[i]? with
 |some (.ow xs)=>fU ρ (k ρ) λy=>(match y with
  |.int j=>(match ixD xs.length j with|some m=>.nx (ρ.set i (.ow (xs.set m d)))|none=>.rt .bad)
  |_=>.rt .bad)
 |some (.dc kvs)=>fU ρ (k ρ) λy=>(match y with
  |.str x=>if kvs.length<LIM then .nx (ρ.set i (.dc (fJ kvs x d)))else .rt .bad
  |_=>.rt .bad)
 |_=>.rt .bad
noncomputable def m7(i:Nat)(e:F):FS:=λρ=>fU ρ (e ρ) λd=>match d with
 |.dct ks vs=>.nx (ρ.set i (.dc (ks.zip vs)))
 |_=>.rt .bad
noncomputable def OL:L1 D->L7 (D×D)
 |[a,b]=>pi (a,b)
 |_=>qb
def OM:D->L7 (D×D)
 |.tup ds=>OL ds
 |_=>qb
def ON(i:Nat)(k l e:F):FS:=λρ=>fU ρ (e ρ) λd=>(match OM d with
 |some (d1,d2)=>(match ρ[i]? with
  |some (.ow xs)=>fU ρ (k ρ) λy=>(match y with
   |.int j=>(match ixD xs.length j with
    |some m=>fU (ρ.set i (.ow (xs.set m d1))) (l (ρ.set i (.ow (xs.set m d1)))) λz=>(match z with
     |.int j2=>(match ixD (xs.set m d1).length j2 with
      |some m2=>.nx ((ρ.set i (.ow (xs.set m d1))).set i (.ow ((xs.set m d1).set m2 d2)))
      |none=>.rt .bad)
     |_=>.rt .bad)
    |none=>.rt .bad)
   |_=>.rt .bad)
  |_=>.rt .bad)
 |none=>.rt .bad)
def OO(i:Nat)(k e:F):FS:=λρ=>match ρ[i]? with
 |some (.ow xs)=>fU ρ (k ρ) λy=>(match y with
  |.int j=>(match ixD xs.length j with
   |some m=>(match xs[m]? with
    |some (.int a)=>fU ρ (e ρ) λd=>(match d with
     |.int b=>.nx (ρ.set i (.ow (xs.set m (.int (a+b)))))
     |_=>.rt .bad)
    |_=>.rt .bad)
   |none=>.rt .bad)
  |_=>.rt .bad)
 |_=>.rt .bad
def m8:D->L7 (L1 D)
 |.dct ks _=>if ks.length<=1000 then pi (ks.map D.str)else qb
 |x=>items x
noncomputable def uV(is:L1 Nat)(one:Bool)(d:D)(ρ:Rho):L7 Rho:=match one,is with
 |true,[i]=>pi (ρ.set i (.sh d))
 |false,is=>(match d with
  |.tup ds=>if ds.length=is.length then pi (setN is ds ρ)else qb
  |_=>qb)
 |_,_=>qb
noncomputable def jK(t:D->Rho->L7 Rho)(b:FS):L1 D->Rho->Out
 |[],ρ=>.nx ρ
 |d::r,ρ=>match t d ρ with
  |none=>.rt .bad
  |some ρ1=>match b ρ1 with
   |.nx ρ2=>jK t b r ρ2
   |.ct ρ2=>jK t b r ρ2
   |.bk ρ2=>.nx ρ2
   |.rt r=>.rt r
   |.ex c ρ2=>.ex c ρ2
def wZ(is:L1 Nat)(one:Bool)(it:F)(b:FS):FS:=λρ=>fU ρ (it ρ) λx=>match m8 x with
 |some ds=>jK (uV is one) b ds ρ
 |none=>.rt .bad
noncomputable def LY:FS:=λ_=>.rt .bad
noncomputable def O4(i j:Nat)(hit:Nat->Bool)(b:FS):FS:=λρ=>match b ρ with
 |.ex c ρ'=>if hit c then .nx ((ρ'.set i .no).set j (.sh (.exc c)))else .ex c ρ'
 |o=>o
noncomputable def fnOf(n:Nat)(b:FS):Fn:=λds=>match b (ds.map Slot.sh++ao (n-ds.length) .no)with
 |.rt (.ok d)=>.ok d
 |.rt (.ow xs)=>.ow xs
 |.rt _=>.bad
 |.nx _=>.ok .non
 |.ex c _=>.ex c
 |_=>.bad
inductive Py where
 |len|range|enum|zip|isin|int|bool|str|tuple|list|sum|all|any|sorted|min|max|abs|set|dict
 deriving DecidableEq
inductive Gl where
 |fn (k n:Nat) (f:Fn)|exc (c:Nat)|verr|val (d:D)|py (p:Py)|tbl (kvs:List (Str×D))|cls (a:Nat) (ms:List (Str×Nat×FM))
noncomputable def hit(c e:Nat):Bool:=c==e||c==0||c==100
structure Ctx where
 tab:List (Str×Gl)
 fns:List (Nat×Fn)
 sc:Scope
 N:List Str
 bs:List Str
noncomputable def idx(x:Str):L1 Str->L7 Nat
 |[]=>qb
 |y::r=>if x=y then pi 0 else(idx x r).map (· +1)
noncomputable def loc(C:Ctx)(x:Str):L7 Nat:=match C.sc.names.lookup x with
 |some .local=>idx x C.N
 |some .cell=>idx x C.N
 |some .free=>idx x C.N
 |_=>qb
noncomputable def fK(C:Ctx)(x:Str):L7 Nat:=match C.sc.names.lookup x with
 |some .cell=>idx x C.N
 |some .free=>idx x C.N
 |_=>qb
noncomputable def glo(C:Ctx)(x:Str):L7 Gl:=match C.sc.names.lookup x with
 |some .globalImplicit=>C.tab.lookup x
 |_=>qb
def isP:Gl->L7 (D->L7 Bool)
 |.py .int=>pi λd=>match d with|.int _=>pi qc|.bl _=>pi qc|.exc _=>qb|.fn _=>qb|.dct _ _=>qb|_=>pi qe
 |.py .bool=>pi λd=>match d with|.bl _=>pi qc|.exc _=>qb|.fn _=>qb|.dct _ _=>qb|_=>pi qe
 |.py .tuple=>pi λd=>match d with|.tup _=>pi qc|.exc _=>qb|.fn _=>qb|.dct _ _=>qb|_=>pi qe
 |.py .list=>pi λd=>match d with|.lst _=>pi qc|.exc _=>qb|.fn _=>qb|.dct _ _=>qb|_=>pi qe
 |.py .str=>pi λd=>match d with|.str _=>pi qc|.exc _=>qb|.fn _=>qb|.dct _ _=>qb|_=>pi qe
 |.exc c=>pi λd=>match d with|.exc e=>pi (hit c e)|_=>qb
 |.verr=>pi λd=>match d with|.exc e=>pi (hit 100 e)|_=>qb
 |_=>qb
noncomputable def kD:Const->L7 D
 |.int i=>pi (.int i)
 |.bool b=>pi (.bl b)
 |.none=>pi .non
 |.str x=>pi (.str x)
 |_=>qb
noncomputable def eG{α β:Type}(f:α->L7 β):L1 α->L7 (L1 β)
 |[]=>pi []
 |x::r=>match f x with
  |none=>qb
  |some y=>(eG f r).map (y:: ·)
noncomputable def cF:Expr->L7 (L1 Str×Nat)
 |.Name x _=>pi ([x],0)
 |.Tuple es _ _=>(eG (λ(e:Expr)=>match e with|.Name x _=>pi x|_=>qb) es).bind λxs=>if 2<=xs.length then pi (xs,xs.length)else qb
 |_=>qb
noncomputable def bF(sc:Scope):L1 Str:=(sc.names.filter λp=>p.2== .free).map (·.1)
noncomputable def qV(sc:Scope):L1 Str:=(sc.names.filter λp=>p.2== .cell).map (·.1)
def lK(sc:Scope)(xs:L1 Str):Bool:=
 sc.kind== .function&&((qV sc).isEmpty||(decide (qV sc=xs)&&decide (xs.length=1)))&&xs.all (λx=>sc.names.lookup x==pi (if(qV sc).isEmpty then .local else .cell))&&
  sc.names.all (λp=>p.2 != .local||sc.names.lookup p.1==pi .local)&&decide (xs++bF sc).Nodup&&(xs++bF sc).all (λx=>x != "__debug__"&&x != "__classdict__")&&(bF sc).all (λx=>sc.names.lookup x==pi .free)
noncomputable def one:L1 Expr->L7 Expr
 |[a]=>pi a
 |_=>qb
noncomputable def two:L1 Expr->L7 (Expr×Expr)
 |[a,b]=>pi (a,b)
 |_=>qb
noncomputable def bY:Expr->L7 (Str×Pos)
 |.Name x p=>pi (x,p)
 |_=>qb
noncomputable def Fy:Expr->L7 (L1 Expr×Nat×Pos)
 |.Tuple es k p=>pi (es,k,p)
 |_=>qb
noncomputable def N2:Expr->L7 (L7 Expr×L7 Expr)
 |.Slice lo hi st _=>(match st with|none=>pi (lo,hi)|some _=>qb)
 |_=>qb
noncomputable def Fz:Expr->Bool
 |.Constant c _ _=>(match c with|.int i=>i==1|_=>qe)
 |_=>qe
noncomputable def N3:Expr->Bool
 |.UnaryOp op e _=>(match op with|.USub=>Fz e|_=>qe)
 |_=>qe
noncomputable def FA:Expr->Bool
 |.Name _ _=>qc
 |_=>qe
noncomputable def N4:Expr->Bool
 |.Subscript _ _ _=>qc
 |_=>qe
noncomputable def N5:Expr->Bool
 |.Slice lo hi st _=>lo.isNone&&hi.isNone&&(match st with|none=>qe|some e=>N3 e)
 |_=>qe
noncomputable def OP(e:Expr):L7 (Str×Str):=(Fy e).bind λ(es,_)=>(two es).bind λ(u,v)=>(bY u).bind λ(x,_)=>(bY v).map λ(y,_)=>(x,y)
noncomputable def FD:Expr->Bool
 |.Constant c _ _=>(match c with|.str _=>qc|_=>qe)
 |_=>qe
noncomputable def JB(dE:Expr->L7 F)(C:Ctx)(a:Expr):L7 F:=match a with
 |.Call f as kws _=>if kws.isEmpty then(bY f).bind λ(x,_)=>(one as).bind λb=>(match loc C x,glo C x with
  |none,pi (.py .range)=>dE b
  |_,_=>qb)else qb
 |_=>qb
noncomputable def FE(dE:Expr->L7 F)(C:Ctx)(a:Expr):L7 F:=match a with
 |.Call f as kws _=>if kws.isEmpty then(bY f).bind λ(x,_)=>(two as).bind λ(b,c)=>(match loc C x,glo C x with
  |none,pi (.py .zip)=>(dE b).bind λf=>(dE c).map λg=>qR f g
  |_,_=>qb)else qb
 |_=>qb
noncomputable def BP(b:Bool)(r:Rk):L1 D:=if b then r.done else r.undone
noncomputable def B7(A i:Nat)(k:Rk->R):F:=λρ=>match ρ[i]? with
 |some (.rk C r)=>if C=A then k r else .bad
 |_=>.bad
def D7(A i:Nat)(b:Bool):F:=B7 A i λr=>.ok (.lst (BP b r))
def IH(neg:Bool)(A i:Nat)(f:F):F:=λρ=>(f ρ).bind λd=>B7 A i (λr=>match d with
 |.str x=>.ok (.bl (neg != (bC r.held x).isSome))
 |_=>.bad) ρ
def B8(A i:Nat)(f:F):F:=λρ=>B7 A i (λr=>(f ρ).bind λd=>match d with
 |.str x=>(match bC r.held x with|some d=>.ok d|none=>.bad)
 |_=>.bad) ρ
def B9(A i:Nat)(f:F):F:=λρ=>B7 A i (λr=>(f ρ).bind λd=>match d with
 |.str x=>.ok ((bC r.held x).getD .non)
 |_=>.bad) ρ
def eU(A i:Nat)(m:FM)(fs:L1 F):F:=λρ=>B7 A i (λr=>mO fs ρ λds=>(m r ds).told) ρ
noncomputable def ltS(x y:Str):Bool:=decide (x.cps.toList<y.cps.toList)
noncomputable def Ca(x:Str):L1 Str->L1 Str
 |[]=>[x]
 |y::l=>if ltS y x then y::Ca x l else x::y::l
noncomputable def iA:L1 Str->L1 Str
 |[]=>[]
 |x::l=>Ca x (iA l)
noncomputable def uW:Fn
 |[.dct ks _]=>if ks.length<64 then .ow ((iA ks).map D.str)else .bad
 |_=>.bad
def uX(k1 k2:Str)(f1 f2:F):F:=λρ=>(f1 ρ).bind λx=>(f2 ρ).bind λy=>if k1=k2 then .bad else .ok (.dct [k1,k2] [x,y])
noncomputable def iT:F:=λ_=>.ok (.dct [] [])
def uY(k:Str)(f:F):F:=λρ=>(f ρ).bind λx=>.ok (.dct [k] [x])
def qW(f g h:F):F:=λρ=>(f ρ).bind λx=>match x with
 |.dct ks vs=>(g ρ).bind λy=>(h ρ).bind λz=>(match y with
  |.str k=>.ok ((bC (ks.zip vs) k).getD z)
  |_=>.bad)
 |_=>.bad
def FF(A i:Nat):F:=B7 A i λr=>if r.held.length<64 then .ow ((iA (r.held.map (·.1))).map D.str)else .bad
noncomputable def Cb:Expr->L7 (Expr×Str×Pos)
 |.Attribute o f p=>pi (o,f,p)
 |_=>qb
def atF(C:Ctx)(f:Str)(e:Expr):L7 Nat:=(Cb e).bind λ(o,g,_)=>if g=f then(bY o).bind λ(x,_)=>loc C x else qb
def II(C:Ctx)(e:Expr):L7 (Nat×Bool):=match atF C "done" e with
 |some i=>pi (i,qc)
 |none=>(atF C "undone" e).map λi=>(i,qe)
noncomputable def rkc(C:Ctx):L7 (Nat×L1 (Str×Nat×FM)):=match C.tab.lookup ("Rack":Str)with
 |some (.cls a ms)=>pi (a,ms)
 |_=>qb
noncomputable def MQ:CmpOp->L7 Bool
 |.In=>pi qe
 |.NotIn=>pi qc
 |_=>qb
def JC(dE:Expr->L7 F)(C:Ctx)(A:Nat)(op:CmpOp)(a b:Expr):L7 F:=match MQ op with
 |some neg=>(atF C "held" b).bind λi=>(dE a).map λf=>IH neg A i f
 |none=>(II C a).bind λ(i,bb)=>(dE b).map λg=>bH op (D7 A i bb) g
noncomputable def JD(dE:Expr->L7 F)(C:Ctx)(A:Nat)(ms:L1 (Str×Nat×FM))(o:Expr)(m:Str)(as:L1 Expr):L7 F:=match bY o with
 |some (x,_)=>(loc C x).bind λi=>(ms.lookup m).bind λ(n,M)=>if as.length<20 then(eG dE as).bind λfs=>if fs.length=n then pi (eU A i M fs)else qb else qb
 |none=>if m="get" then(atF C "held" o).bind λi=>(one as).bind λa=>(dE a).map λg=>B9 A i g else qb
noncomputable def N6(C:Ctx)(A:Nat)(x:Str)(a:Expr):L7 F:=match glo C x with
 |some (.py .sorted)=>(atF C "held" a).map λi=>FF A i
 |some (.py .len)=>(II C a).map λ(i,bb)=>aH qU [D7 A i bb]
 |_=>qb
noncomputable def LZ(dE:Expr->L7 F)(C:Ctx)(e:Expr):L7 F:=match rkc C with
 |none=>qb
 |some (A,ms)=>(match e with
  |.Compare a [op] cs _=>(one cs).bind λb=>JC dE C A op a b
  |.Subscript a b _=>(atF C "held" a).bind λi=>(dE b).map λg=>B8 A i g
  |.Call f as kws cp=>if kws.isEmpty then(match f with
   |.Attribute o m ap=>if(ap.endLine==cp.line)=qc then JD dE C A ms o m as else qb
   |.Name x _=>(one as).bind λa=>N6 C A x a
   |_=>qb)else qb
  |_=>qb)
noncomputable def kB:L1 D->L7 (L1 (Str×D))
 |[]=>pi []
 |d::r=>match d with
  |.tup [.str k,x]=>(kB r).map ((k,x):: ·)
  |_=>qb
def tF(ps:L1 (Str×D)):L1 (Str×D):=ps.foldl (λacc p=>fJ acc p.1 p.2) []
def m9(x:D):R:=match x with
 |.lst ds=>(match kB ds with
  |some ps=>if ps.length<=1000 then .ok (.dct ((tF ps).map (·.1)) ((tF ps).map (·.2)))else .bad
  |none=>.bad)
 |_=>.bad
def nA(f:F):F:=λρ=>(f ρ).bind m9
noncomputable def JE(o:L7 Expr):L7 Str:=o.bind λe=>match e with
 |.Constant c _ _=>(match c with|.str x=>pi x|_=>qb)
 |_=>qb
noncomputable def MR:L1 (L7 Expr)->L7 (L7 Expr×L7 Expr)
 |[a,b]=>pi (a,b)
 |_=>qb
def dkD(dE:Expr->L7 F)(ks:L1 (L7 Expr))(vs:L1 Expr):L7 F:=if ks.isEmpty&&vs.isEmpty then pi iT else if ks.length=1 then ks.head?.bind λk=>(one vs).bind λv=>(JE k).bind λx=>(dE v).map λf=>uY x f else
 (MR ks).bind λ(k1,k2)=>(two vs).bind λ(v1,v2)=>(JE k1).bind λx=>(JE k2).bind λy=>(dE v1).bind λf=>(dE v2).map λg=>uX x y f g
noncomputable def dkE(dE:Expr->L7 F)(C:Ctx)(e:Expr):L7 F:=match e with
 |.Call f as kws cp=>if kws.isEmpty then(match f with
  |.Attribute o m ap=>if m="get"/\FA o=qc/\(ap.endLine==cp.line)=qc then(two as).bind λ(a,b)=>(dE o).bind λf=>(dE a).bind λg=>(dE b).map λh=>qW f g h else qb
  |.Name x _=>(one as).bind λa=>(match loc C x,glo C x with
   |none,pi (.py .dict)=>(dE a).map λf=>nA f
   |_,_=>qb)
  |_=>qb)else qb
 |_=>qb
noncomputable def rkE(dE:Expr->L7 F)(C:Ctx)(e:Expr):L7 F:=match LZ dE C e with
 |some f=>pi f
 |none=>dkE dE C e
def Cc(C:Ctx)(e:Expr):L7 Expr:=match e with
 |.Call f as kws _=>if kws.isEmpty then(bY f).bind λ(x,_)=>(one as).bind λa=>(match loc C x,glo C x with
  |none,pi (.py .dict)=>pi a
  |_,_=>qb)else qb
 |_=>qb
noncomputable def bsN(C:Ctx)(e:Expr):Bool:=match e with|.Name x _=>C.bs.contains x|_=>qe
noncomputable def FG(dE dL:Expr->L7 F)(C:Ctx)(p:Py)(as:L1 Expr):L7 F:=match p with
 |.len=>(one as).bind λa=>(dL a).map λf=>aH qU [f]
 |.int=>(one as).bind λa=>(dL a).map λf=>aH sS [f]
 |.tuple=>(one as).bind λa=>(dL a).map λf=>aH iD [f]
 |.list=>(one as).bind λa=>(match dL a with
  |some f=>pi (aH wX [f])
  |none=>(FE dE C a).map λf=>aH wX [f])
 |.sum=>(one as).bind λa=>(dL a).map λf=>aH BO [f]
 |.all=>(one as).bind λa=>(dL a).map λf=>aH IG [f]
 |.any=>qb
 |.abs=>qb
 |.sorted=>qb
 |.min=>qb
 |.max=>qb
 |.isin=>(two as).bind λ(a,b)=>(bY b).bind λ(t,_)=>(if bsN C a then dL a else dE a).bind λf=>(glo C t).bind λg=>(isP g).map λP=>rIs P f
 |_=>qb
noncomputable def yN(dE:Expr->L7 F)(C:Ctx)(tt:Bool)(x:Str)(as:L1 Expr):L7 F:=match glo C x,as with
 |some (.py .range),[a]=>(dE a).map bX
 |some (.py .zip),[a,b]=>if tt then(dE a).bind λf=>(dE b).map λg=>qR f g else qb
 |_,_=>qb
noncomputable def D8(x:Str):Str:=x++"{}"
mutual
noncomputable def bZ:Nat->Ctx->Expr->L7 F
 |0,_,_=>qb
 |n+1,C,e=>match e with
  |.Name x _=>(match loc C x with
   |some i=>pi (aB i)
   |none=>match glo C x with
    |some (.val d)=>pi (rK d)
    |some (.fn k _ _)=>pi (rK (.fn k))
    |_=>qb)
  |.Constant c _ _=>(kD c).map rK
  |.BinOp a op b _=>(bZ n C a).bind λf=>(bZ n C b).map λg=>aV op f g
  |.UnaryOp op a _=>(bZ n C a).bind λf=>(match op with|.Not=>pi (qP f)|.USub=>pi (BN f)|_=>qb)
  |.BoolOp op es p=>(match es with
   |[a,b]=>(bZ n C a).bind λf=>(bZ n C b).map λg=>(match op with|.And=>kO f g|.Or=>rOr f g)
   |a::b::c::r=>(bZ n C a).bind λf=>(bZ n C (.BoolOp op (b::c::r) p)).map λg=>(match op with|.And=>kO f g|.Or=>rOr f g)
   |_=>qb)
  |.Compare a ops cs q=>(match rkE (bZ n C) C (.Compare a ops cs q)with
   |some f=>pi f
   |none=>match ops with
   |[op]=>(one cs).bind λb=>(bZ n C a).bind λf=>(bZ n C b).map λg=>bH op f g
   |[op,op']=>(two cs).bind λ(b,c)=>(bZ n C a).bind λf=>(bZ n C b).bind λg=>(bZ n C c).map λh=>kA op op' f g h
   |_=>qb)
  |.Dict ks vs _=>dkD (bZ n C) ks vs
  |.Tuple es _ _=>if es.length<=1000 then(eG (bZ n C) es).map dD else qb
  |.List es _=>if es.length<=1000 then(eG (bZ n C) es).map gG else qb
  |.Subscript a b q=>(match rkE (bZ n C) C (.Subscript a b q)with
   |some f=>pi f
   |none=>(BQ n C a).bind λf=>(bZ n C b).map λg=>rIx f g)
  |.ListComp elt gens sc _=>(match gens with
   |[⟨tg,it,ifs,as⟩]=>if as=0 then(cF tg).bind λ(xs,k)=>(FH n C (k != 0) it).bind λfi=>if lK sc xs then
     (eG (λx=>fK C x) (bF sc)).bind λcs=>(match ifs with
     |[]=>pi qb
     |[c]=>(bZ n {C with sc:=sc,N:=xs++bF sc} c).map pi
     |_=>qb).bind λc=>(bZ n {C with sc:=sc,N:=xs++bF sc} elt).map λe=>bS k cs fi c e
    else qb else qb
   |_=>qb)
  |.Call f as kws cp=>(match rkE (bZ n C) C (.Call f as kws cp)with
   |some f=>pi f
   |none=>(if kws.isEmpty then(match f with
   |.Name x _=>(match loc C x with
    |some _=>qb
    |none=>(match glo C x with
     |some (.fn _ k f)=>if as.isEmpty then qb else(eG (bZ n C) as).bind λfs=>if fs.length=k then pi (aH f fs)else qb
     |some (.py p)=>FG (bZ n C) (BQ n C) C p as
     |_=>qb))
   |_=>qb)else qb))
  |_=>qb
noncomputable def BQ:Nat->Ctx->Expr->L7 F
 |0,_,_=>qb
 |n+1,C,e=>match e with
  |.Name x p=>(match loc C x with
   |some i=>pi (aE i)
   |none=>bZ n C (.Name x p))
  |e=>bZ n C e
noncomputable def FH:Nat->Ctx->Bool->Expr->L7 F
 |0,_,_,_=>qb
 |n+1,C,tt,e=>match e with
  |.Call f as kws q=>(match f with
   |.Name x p=>(match loc C x,glo C x,kws with
    |none,pi (.py .range),[]=>yN (bZ n C) C tt x as
    |none,pi (.py .zip),[]=>yN (bZ n C) C tt x as
    |none,pi (.py .enum),[]=>yN (bZ n C) C tt x as
    |_,_,_=>bZ n C (.Call (.Name x p) as kws q))
   |f=>bZ n C (.Call f as kws q))
  |e=>BQ n C e
end
def gv:Nat->Expr->L1 Str
 |0,_=>[]
 |n+1,e=>match e with
  |.Name x _=>[x]
  |.BinOp a _ b _=>gv n a++gv n b
  |.UnaryOp _ a _=>gv n a
  |.BoolOp _ as _=>as.flatMap (gv n)
  |.Compare a [_] [b] _=>(if FA a then []else gv n a)++(if FA b then []else gv n b)
  |.Compare a _ bs _=>gv n a++bs.flatMap (gv n)
  |.IfExp a b c _=>gv n a++gv n b++gv n c
  |.Tuple es _ _=>es.flatMap (gv n)
  |.List es _=>es.flatMap (gv n)
  |.Slice lo hi _ _=>(lo.map (gv n)).getD []++(hi.map (gv n)).getD []
  |.Subscript (.Name _ _) b _=>gv n b
  |.Subscript a b _=>gv n a++gv n b
  |.ListComp elt [⟨_,.Name _ _,ifs,_⟩] _ _=>ifs.flatMap (gv n)++gv n elt
  |.ListComp elt [⟨_,it,ifs,_⟩] _ _=>gv n it++ifs.flatMap (gv n)++gv n elt
  |.Call (.Name x _) as _ _=>if x="len"\/x="tuple"\/x="list"\/x="sum"\/x="sorted"\/x="all"\/x="any"\/x="isinstance" then
    as.flatMap λa=>match a with|.Name _ _=>[]|a=>gv n a else x::as.flatMap (gv n)
  |.Call (.Attribute (.Name _ _) _ _) as _ _=>as.flatMap (gv n)
  |.Call (.Attribute o _ _) as _ _=>gv n o++as.flatMap (gv n)
  |.Call f as _ _=>gv n f++as.flatMap (gv n)
  |_=>[]
def mQ(C:Ctx)(e:Expr):L1 Nat:=match C.bs with
 |[]=>[]
 |_=>((gv 50 e).filter λx=>C.bs.contains x).filterMap λx=>loc C x
noncomputable def fE(is:L1 Nat)(s:FS):FS:=match is with
 |[]=>s
 |is=>LW is s
def yO:Nat->L1 Stmt->L1 Str
 |0,_=>[]
 |n+1,ss=>ss.flatMap λs=>match s with
  |.Assign [.Subscript (.Name x _) _ _] _ _=>[x]
  |.Assign [.Name x _] (.Dict [] [] _) _=>[D8 x]
  |.Assign [.Tuple [_,.Name x _] _ _] (.Tuple [_,.Dict [] [] _] _ _) _=>[D8 x]
  |.AugAssign (.Subscript (.Name x _) _ _) _ _ _=>[x]
  |.Assign [.Tuple [.Subscript (.Name x _) _ _,_] _ _] _ _=>[x]
  |.Expr (.Call (.Attribute (.Name x _) m _) _ _ _) _=>if m="append"\/m="extend"\/m="remove" then [x]else []
  |.If _ a b _=>yO n a++yO n b
  |.For _ _ b _ _=>yO n b
  |.While _ b _ _=>yO n b
  |.Return (pi (.Name x _)) _=>if x="numbers" then [x]else []
  |_=>[]
noncomputable def yP:Expr->Bool
 |.Call _ _ _ _=>qc
 |.Name _ _=>qc
 |.Subscript _ _ _=>qc
 |.ListComp _ _ _ _=>qc
 |_=>qe
noncomputable def w4(C:Ctx)(x y:Str)(px py:Pos)(a b:Expr):Bool:=
 C.sc.names.lookup x==pi .local&&C.sc.names.lookup y==pi .local&&x != y&&px.line==py.line&& !([a,b].all (foldedForSure 8))&& !([a,b].all (constantsAlone 8))&& !C.bs.contains x&& !C.bs.contains y
noncomputable def yQ(C:Ctx)(x y:Str):Bool:=(C.sc.names.lookup x==pi .cell||C.sc.names.lookup y==pi .cell)&& !C.bs.contains x&& !C.bs.contains y
noncomputable def O5:Operator->Bool
 |.Add=>qc
 |_=>qe
noncomputable def N7:Operator->Bool
 |.Add=>qc
 |.Sub=>qc
 |_=>qe
structure Par where
 x:Str
 px:Pos
 y:Str
 py:Pos
 a:Expr
 b:Expr
def L4(es:L1 Expr)(e:Expr):L7 Par:=(two es).bind λ(u,v)=>(bY u).bind λ(x,px)=>(bY v).bind λ(y,py)=>(Fy e).bind λ(vs,_)=>(two vs).map λ(a,b)=>⟨x,px,y,py,a,b⟩
structure Par3 where
 x:Str
 px:Pos
 y:Str
 py:Pos
 z:Str
 pz:Pos
 a:Expr
 b:Expr
 c:Expr
noncomputable def Cd:L1 Expr->L7 (Expr×Expr×Expr)
 |[a,b,c]=>pi (a,b,c)
 |_=>qb
def O6(es:L1 Expr)(e:Expr):L7 Par3:=(Cd es).bind λ(u,v,w)=>(bY u).bind λ(x,px)=>(bY v).bind λ(y,py)=>(bY w).bind λ(z,pz)=>(Fy e).bind λ(vs,_)=>(Cd vs).map λ(a,b,c)=>⟨x,px,y,py,z,pz,a,b,c⟩
noncomputable def N8(C:Ctx)(q:Par3):Bool:=
 C.sc.names.lookup q.x==pi .local&&C.sc.names.lookup q.y==pi .local&&C.sc.names.lookup q.z==pi .local&&q.x != q.y&&q.x != q.z&&q.y != q.z&&q.px.line==q.py.line&&q.px.line==q.pz.line&& !([q.a,q.b,q.c].all (foldedForSure 8))&& !([q.a,q.b,q.c].all (constantsAlone 8))&& !C.bs.contains q.x&& !C.bs.contains q.y&& !C.bs.contains q.z
def N9:Expr->L7 (Str×Expr)
 |.Subscript o k _=>(bY o).map λ(x,_)=>(x,k)
 |_=>qb
def O7(es:L1 Expr)(e:Expr):L7 (Str×Expr×Expr):=(two es).bind λ(u,v)=>(N9 u).bind λ(x,k)=>(N9 v).bind λ(y,l)=>(Fy e).bind λ(vs,_)=>(two vs).bind λ_=>if x=y then pi (x,k,l)else qb
noncomputable def JF:L1 Stmt->L7 Stmt
 |[s]=>pi s
 |_=>qb
noncomputable def OR:Stmt->L7 (Str×Str)
 |.Assign ts e _=>(one ts).bind λt=>(bY t).bind λ(x,_)=>(bY e).map λ(y,_)=>(x,y)
 |_=>qb
noncomputable def O8(C:Ctx)(hs:L1 ExceptHandler):L7 (Nat×Nat):=match hs with
 |[.ExceptHandler ty nm b _]=>ty.bind λte=>nm.bind λe=>(bY te).bind λ(cx,_)=>(JF b).bind λs=>(OR s).bind λ(x,e')=>(match loc C cx,glo C cx with
  |none,pi (.exc c)=>if c=0/\e=e' then(loc C e).bind λi=>(loc C x).bind λj=>if C.sc.names.lookup e==pi .local&&i != j&&C.bs.isEmpty then pi (i,j)else qb else qb
  |_,_=>qb)
 |_=>qb
mutual
noncomputable def D9:Nat->Bool->Ctx->Stmt->L7 FS
 |0,_,_,_=>qb
 |n+1,t,C,s=>match s with
  |.Pass _=>pi aU
  |.Return v _=>(match v with
   |none=>qb
   |some e=>(match bY e with
    |some (x,_)=>(match loc C x with
     |some i=>pi (dW (aB i))
     |none=>(bZ 50 C e).map dW)
    |none=>(bZ 50 C e).map λf=>fE (mQ C e) (dW f)))
  |.Assign ts e _=>(one ts).bind λtg=>(match tg with
   |.Name x _=>(loc C x).bind λi=>(match if C.bs.contains x then Cc C e else qb with
    |some a=>(bZ 50 C a).map λf=>fE (mQ C a) (m7 i f)
    |none=>(bZ 50 C e).map λf=>fE (mQ C e) (if C.bs.contains x then wY i f else fS i f))
   |.Tuple es a b=>(match L4 es e with
    |some ⟨x,px,y,py,a,b⟩=>if w4 C x y px py a b then(loc C x).bind λi=>(loc C y).bind λj=>(bZ 50 C a).bind λf=>(bZ 50 C b).map λg=>fE (mQ C e) (eT [i,j] (dD [f,g]))else if yQ C x y then(loc C x).bind λi=>(loc C y).bind λj=>(bZ 50 C e).map λf=>fE (mQ C e) (eT [i,j] f)else qb
    |none=>(if yP e then pi ()else qb).bind λ_=>(cF (.Tuple es a b)).bind λ(xs,_)=>(eG (λx=>loc C x) xs).bind λis=>if xs.all (λx=> !C.bs.contains x)then
     (bZ 50 C e).map λf=>fE (mQ C e) (eT is f)else qb)
   |.Subscript o k _=>(bY o).bind λ(x,_)=>(loc C x).bind λi=>if C.bs.contains x then(bZ 50 C e).bind λf=>(bZ 50 C k).map λg=>fE (mQ C e++mQ C k) (xU i g f)else qb
   |_=>qb)
  |.Expr e _=>(match e with
   |.Call f as kws cp=>if kws.isEmpty then(match f with
    |.Name x p=>(bZ 50 C (.Call (.Name x p) as [] cp)).map λf=>fE (mQ C (.Call (.Name x p) as [] cp)) (kJ f)
    |_=>qb)else qb
   |_=>qb)
  |.If c a b _=>(bZ 50 C c).bind λf=>(oA n t C a).bind λg=>(oA n t C b).map λh=>fE (mQ C c) (sIf f g h)
  |.Raise x c _=>if t||c.isSome then qb else x.bind λe=>(match e with
   |.Call f as kws _=>if kws.isEmpty then(bY f).bind λ(x,_)=>(one as).bind λa=>if FD a then(match loc C x,glo C x with
    |none,pi (.exc c)=>pi (mZ c)
    |_,_=>qb)else qb else qb
   |_=>qb)
  |_=>qb
noncomputable def oA:Nat->Bool->Ctx->L1 Stmt->L7 FS
 |0,_,_,_=>qb
 |n+1,t,C,ss=>match ss with
  |[]=>pi aU
  |[a]=>pi ((D9 n t C a).getD LY)
  |a::r=>(oA n t C r).map λg=>aR ((D9 n t C a).getD LY) g
end
noncomputable def d9(a:Arguments):L7 (L1 Str):=if a.posonlyargs.isEmpty&&a.vararg.isNone&&a.kwonlyargs.isEmpty&&a.kwarg.isNone&&a.defaults.isEmpty then pi (a.args.map (·.arg))else qb
noncomputable def aC(sc:Scope):L1 Str:=(sc.names.filter λp=>p.2== .local||p.2== .cell).map (·.1)
noncomputable def bW(N P:L1 Str)(sc:Scope):Bool:=
 sc.kind== .function&& !sc.isCoroutine&& !sc.isGenerator&&decide N.Nodup&&decide (N.take P.length=P)&&
  P.all (λx=>sc.names.lookup x==pi .local||sc.names.lookup x==pi .cell)&&sc.names.all (λp=>p.2 != .free)&&N.all (λx=>x != "__debug__"&&x != "__classdict__")
def FI(tab:L1 (Str×Gl))(fns:L1 (Nat×Fn))(s:Stmt):L7 (Nat×Fn):=match s with
 |.FunctionDef _ as b _ _ _ sc _ _ _=>(d9 as).bind λP=>if bW (aC sc) P sc then
   (oA 100 qe ⟨tab,fns,sc,aC sc,yO 50 b⟩ b).map λg=>(P.length,fnOf (aC sc).length g)else qb
 |_=>qb
def IJ(g:Gl):D->L7 Bool:=(isP g).getD λ_=>qb
def JG:D->L7 Bool:=IJ (.py .int)
def FJ:D->L7 Bool:=IJ (.py .bool)
def oB:D->L7 Bool:=IJ (.py .tuple)
def JH:D->L7 Bool:=IJ (.py .str)
def mT:Nat->D->L7 Bool
 |100=>IJ .verr
 |c=>IJ (.exc c)
mutual
noncomputable def eJ:D->PyData
 |.non=>.none
 |.bl b=>.bool b
 |.int i=>.int i
 |.str x=>.str x
 |.tup xs=>.tuple (gA xs)
 |.lst xs=>.list (gA xs)
 |.exc _=>.none
 |.fn _=>.none
 |.dct _ _=>.none
noncomputable def gA:L1 D->L1 PyData
 |[]=>[]
 |x::xs=>eJ x::gA xs
end
mutual
theorem kC: ∀{d:D},plain d=qc->(eJ d).canLay0=qc
 |.non,_=>by simp[eJ,kz]
 |.bl _,_=>by simp[eJ,kz]
 |.int _,_=>by simp[eJ,kz]
 |.str x,h=>by
  unfold plain at h;simp only[eJ,kz];exact h
 |.tup xs,h=>by
  simp only[eJ,kz];exact tG (by simpa[plain]using h)
 |.lst xs,h=>by
  simp only[eJ,kz];exact tG (by simpa[plain]using h)
 |.exc _,h=>by simp[plain]at h
 |.fn _,h=>by simp[plain]at h
 |.dct _ _,h=>by simp[plain]at h
theorem tG: ∀{ds:L1 D},cE ds=qc->jd (gA ds)=qc
 |[],_=>by simp[gA,jd]
 |d::ds,h=>by
  have a:plain d=qc/\cE ds=qc:=by simpa[cE]using h
  simp only[gA,jd,kC a.1,tG a.2,Bool.and_self]
end
mutual
theorem lL: ∀(d:D),(eJ d).depth=dep d
 |.non=>by simp[eJ,nr,dep]
 |.bl _=>by simp[eJ,nr,dep]
 |.int _=>by simp[eJ,nr,dep]
 |.str x=>by simp[eJ,nr,dep]
 |.tup a=>by simp[eJ,nr,dep,tH a]
 |.lst a=>by simp[eJ,nr,dep,tH a]
 |.exc _=>by simp[eJ,nr,dep]
 |.fn _=>by simp[eJ,nr,dep]
 |.dct _ _=>by simp[eJ,nr,dep]
theorem tH: ∀(ds:L1 D),PyData.depthAll (gA ds)=xT ds
 |[]=>by simp[gA,PyData.depthAll,xT]
 |d::ds=>by simp[gA,PyData.depthAll,xT,lL d,tH ds]
end
def Ea b:b2i b=if b then 1 else 0:=rfl
mutual
theorem lM: ∀(x y:D),plain x=qc->plain y=qc->pb (eJ x) (eJ y)=deq x y
 |.non,y,_,h=>by cases y<;>simp[plain]at h<;>simp[eJ,pb,deq]
 |.bl a,y,_,h=>by cases y<;>simp[plain]at h<;>simp[eJ,pb,deq,Ea]
 |.int a,y,_,h=>by cases y<;>simp[plain]at h<;>simp[eJ,pb,deq,Ea]
 |.str a,y,_,h=>by cases y<;>simp[plain]at h<;>simp[eJ,pb,deq]
 |.tup xs,y,g,h=>by
  cases y with
  |tup b=>simpa[eJ,pb,deq]using oC xs b (by simpa[plain]using g) (by simpa[plain]using h)
  |_=>simp[plain]at h<;>simp[eJ,pb,deq]
 |.lst xs,y,g,h=>by
  cases y with
  |lst b=>simpa[eJ,pb,deq]using oC xs b (by simpa[plain]using g) (by simpa[plain]using h)
  |_=>simp[plain]at h<;>simp[eJ,pb,deq]
 |.exc _,_,g,_=>by simp[plain]at g
 |.fn _,_,g,_=>by simp[plain]at g
 |.dct _ _,_,g,_=>by simp[plain]at g
theorem oC: ∀(xs ys:L1 D),cE xs=qc->cE ys=qc->ln (gA xs) (gA ys)=xS xs ys
 |[],[],_,_=>by simp[gA,ln,xS]
 |[],_::_,_,_=>by simp[gA,ln,xS]
 |_::_,[],_,_=>by simp[gA,ln,xS]
 |x::xs,y::ys,g,h=>by
  have b:plain x=qc/\cE xs=qc:=by simpa[cE]using g
  have a:plain y=qc/\cE ys=qc:=by simpa[cE]using h
  simp only[gA,ln,xS,lM x y b.1 a.1,oC xs ys b.2 a.2]
end
abbrev St:=L2.St
structure Ad where
 cls:Nat->Addr
 fnA:Nat->Addr
 nb:Nat
def oE(h:Heap)(x C:Addr):Prop:= ∃o vs,h.get? x=pi o/\o.cls= .ref C/\o.data= .fields vs
noncomputable def Eb(C a:Addr):HO:=.ext λh=>oE h a C
section
variable (K:mj) (ad:Ad)
mutual
noncomputable def Rep(G:Hp):D->V->Prop
 |.non,v=>v= .non
 |.bl b,v=>v= .bl b
 |.int i,v=>v= .int i
 |.str x,v=>v= .str x
 |.tup ds,v=>∃a vs,v= .ref a/\SqT K G a vs/\aK G ds vs
 |.lst ds,v=>∃a vs,v= .ref a/\SqL K G a vs/\aK G ds vs
 |.exc c,v=>∃a,v= .ref a/\G a=pi (Eb (ad.cls c) a)
 |.fn k,v=>v= .ref (ad.fnA k)
 |.dct ks ds,v=>∃a o es,v= .ref a/\G a=pi (.frz o (.dK es))/\es.map (·.1)=ks.map pu/\aK G ds (es.map (·.2))
noncomputable def aK(G:Hp):L1 D->L1 V->Prop
 |[],vs=>vs=[]
 |d::ds,vs=>∃v r,vs=v::r/\Rep G d v/\aK G ds r
end
end
section
variable{K:mj}{ad:Ad}{G G' H H':Hp}
def _root_.L2.Same.seqT{K}{H H'}(e:Same H H')(h:SqT K H a xs):SqT K H' a xs:=by rcases h with (h|⟨o,h⟩)|h;exact .inl (.inl (e _ _ h));exact .inl (.inr ⟨o,e _ _ h⟩);exact .inr h
mutual
theorem Rep.mono(e:Same G G'): ∀{d:D} {v:V},Rep K ad G d v->Rep K ad G' d v
 |.non,_,h=>h
 |.bl _,_,h=>h
 |.int _,_,h=>h
 |.str _,_,h=>h
 |.tup ds,v,h=>by
  unfold Rep at h ⊢;obtain⟨a,g,c,b,f⟩:=h;exact⟨a,g,c,e.seqT b,aK.mono e f⟩
 |.lst ds,v,h=>by
  unfold Rep at h ⊢;obtain⟨a,g,c,b,f⟩:=h;exact⟨a,g,c,e.seq b,aK.mono e f⟩
 |.exc _,_,h=>by
  unfold Rep at h ⊢;obtain⟨a,c,b⟩:=h;exact⟨a,c,e _ _ b⟩
 |.fn _,_,h=>h
 |.dct ks ds,v,h=>by
  unfold Rep at h ⊢;refine gzq λRz ez=>?_;obtain⟨a,o,i,c,b,f,j⟩:=h;subst ez;exact⟨a,o,i,c,e _ _ b,f,aK.mono e j⟩
theorem aK.mono(e:Same G G'): ∀{ds:L1 D} {vs:L1 V},aK K ad G ds vs->aK K ad G' ds vs
 |[],_,h=>h
 |d::ds,vs,h=>by
  unfold aK at h ⊢;obtain⟨v,r,b,c,a⟩:=h;exact⟨v,r,b,Rep.mono e c,aK.mono e a⟩
end
theorem aK.length: ∀{ds} {vs},aK K ad G ds vs->vs.length=ds.length
 |[],_,h=>by
  unfold aK at h;subst h;rfl
 |d::ds,vs,h=>by
  unfold aK at h;obtain⟨v,r,rfl,_,a⟩:=h;simp[aK.length a]
def aK.nil:aK K ad G [] []:=by unfold aK;rfl
def aK.cons{d}{v}{ds}{vs}(h:Rep K ad G d v)(t:aK K ad G ds vs):aK K ad G (d::ds) (v::vs):=by unfold aK;exact⟨v,vs,rfl,h,t⟩
theorem aK.get: ∀{ds} {vs} {i:Nat} {d},aK K ad G ds vs->ds[i]? =pi d->∃v,vs[i]? =pi v/\Rep K ad G d v
 |[],_,_,_,_,e=>by simp at e
 |d::ds,vs,i,d',h,e=>by
  unfold aK at h;obtain⟨v,r,rfl,f,c⟩:=h;cases i with
  |zero=>
   simp at e;subst e;exact⟨v,rfl,f⟩
  |succ i=>
   obtain⟨w,a,b⟩:=aK.get (i:=i) (d:=d') c (by simpa using e);exact⟨w,by simpa using a,b⟩
theorem aK.append: ∀{ds es} {vs ws},aK K ad G ds vs->aK K ad G es ws->aK K ad G (ds++es) (vs++ws)
 |[],_,_,_,h,t=>by
  unfold aK at h;subst h;exact t
 |d::ds,es,vs,ws,h,t=>by
  unfold aK at h;obtain⟨v,r,rfl,b,a⟩:=h;exact aK.cons b (aK.append a t)
theorem aK.take: ∀n {ds} {vs},aK K ad G ds vs->aK K ad G (ds.take n) (vs.take n)
 |0,_,_,_=>aK.nil
 |n+1,[],_,h=>by
  unfold aK at h;subst h;exact aK.nil
 |n+1,d::ds,vs,h=>by
  unfold aK at h;obtain⟨v,r,rfl,b,a⟩:=h;exact aK.cons b (aK.take n a)
theorem aK.set{d}{v}(q:Rep K ad G d v): ∀n {ds} {vs},aK K ad G ds vs->aK K ad G (ds.set n d) (vs.set n v)
 |_,[],_,h=>by
  unfold aK at h;subst h;exact aK.nil
 |0,_::ds,vs,h=>by
  unfold aK at h;obtain⟨w,r,rfl,b,a⟩:=h;exact aK.cons q a
 |n+1,e::ds,vs,h=>by
  unfold aK at h;obtain⟨w,r,rfl,b,a⟩:=h;exact aK.cons b (aK.set q n a)
theorem aK.rep{ds}{vs}(h:aK K ad G ds vs): ∀k,aK K ad G (ao k ds).flatten (ao k vs).flatten
 |0=>aK.nil
 |k+1=>by
  simp only[gz,jb];exact aK.append h (aK.rep h k)
theorem aK.map_int: ∀{ns:L1 Int},aK K ad G (ns.map D.int) (ns.map V.int)
 |[]=>aK.nil
 |_::_=>aK.cons (by unfold Rep;rfl) aK.map_int
structure Step(G H G' H':Hp):Prop where
 sg:Same G G'
 gh:Same G' H'
 sh:Same H H'
 nw: ∀b,G b=qb->G' b≠qb->H b=qb
def qY(e:Same H H')(h:H' b=qb):H b=qb:=e.free h
theorem Step.refl(h:Same G H):Step G H G H:=⟨Same.refl _,h,Same.refl _,λb a c=>absurd a c⟩
theorem Step.trans(a:Step G H G1 H1)(b:Step G1 H1 G2 H2):Step G H G2 H2:=
 ⟨a.sg.trans b.sg,b.gh,a.sh.trans b.sh,λx c d=>by
  rcases q:G1 x with _|o;exact a.sh.free (b.nw x q d);exact a.nw x c (by rw[q];exact λz=>nomatch z)⟩
def Same.upd_new(h:H p=qb):Same H (upd H p o):=λb u e=>by rw[aA (aJ e h)];exact e
def Step.new(h:Same G H)(n:H p=qb):Step G H (upd G p o) (upd H p o):=by have gn:G p=qb:=h.free n;refine⟨Same.upd_new gn,λb u e=>?_,Same.upd_new n,λb c a=>?_⟩;by_cases q:b=p;subst q;rw[aD]at e ⊢;exact e;rw[aA q]at e ⊢;exact h b u e;by_cases q:b=p;subst q;exact n;rw[aA q]at a;exact absurd c a
def Step.own(h:Same G H)(n:H p=qb):Step G H G (upd H p o):=
 ⟨Same.refl _,h.trans (Same.upd_new n),Same.upd_new n,λb a c=>absurd a c⟩
def Step.shareO(s:Step G H G' H')(n:H p=qb)(m:G' p=qb)(e:H' p=pi o):Step G H (upd G' p o) H':=by refine⟨s.sg.trans (Same.upd_new m),λb u q=>?_,s.sh,λb c a=>?_⟩;by_cases z:b=p;subst z;rw[aD]at q;rw[e];exact q;rw[aA z]at q;exact s.gh b u q;by_cases z:b=p;subst z;exact n;rw[aA z]at a;exact s.nw b c a
def Step.share(s:Step G H G' H')(n:H p=qb)(m:G' p=qb)(e:H' p=pi (.lst vs)):Step G H (upd G' p (.lst vs)) H':=s.shareO n m e
mutual
noncomputable def hD:D->Int
 |.non=>0xFCA86420
 |.int i=>hashInt i
 |.tup xs=>reduceHash (Builtin.Tuple.tupleHashOf (hDs xs))
 |_=>0
noncomputable def hDs:L1 D->L1 Int
 |[]=>[]
 |x::xs=>hD x::hDs xs
end
def HR(K:mj)(ad:Ad)(G:Hp):L1 (Str×D)->L1 (Key×V)->Prop:=Paired λp q=>q.1=pu p.1/\Rep K ad G p.2 q.2
noncomputable def dcO(_:Addr)(es:L1 (Key×V)):HO:=.dK es
noncomputable def sdO(_:Addr)(es:Obj×L1 (Key×V)):HO:=.frz es.1 (.dK es.2)
abbrev DR:=HR
def KOk(_:L1 (Str×D)):Prop:=True
theorem HR.mono{K}{ad}{G G'}(h:HR K ad G ps qs)(e:Same G G'):HR K ad G' ps qs:=Paired.mapP h λ_ _ z=>⟨z.1,z.2.mono e⟩
structure RackIn(K:mj)(ad:Ad)(C:Addr)(G H:Hp)(p:Addr)(r:Rk)(dx d l1 l2:Addr):Prop where
 ins:H p=pi (.ins C dx [("held",.ref d),("done",.ref l1),("undone",.ref l2)])
 own:H dx=pi (.own p)
 held: ∃kvs,H d=pi (.dK kvs)/\HR K ad G r.held kvs
 done: ∃vs,H l1=pi (.lst vs)/\aK K ad G r.done vs
 undone: ∃vs,H l2=pi (.lst vs)/\aK K ad G r.undone vs
 ne:l1≠l2
 gp:G p=qb
 gx:G dx=qb
 gd:G d=qb
 g1:G l1=qb
 g2:G l2=qb
def Step.gnone{G H G' H'}(st:Step G H G' H')(g:G b=qb)(h:H b=pi o):G' b=qb:=by rcases q:G' b with _|a;rfl;have:=st.nw b g (by rw[q];exact λz=>nomatch z);rw[h]at this;cases this
def RackIn.step{K}{ad}{G H G' H'}(h:RackIn K ad C G H p r dx d l1 l2)(st:Step G H G' H'):RackIn K ad C G' H' p r dx d l1 l2:=by obtain⟨a,e,i⟩:=h.held;obtain⟨f,b,l⟩:=h.done;obtain⟨g,c,j⟩:=h.undone;exact⟨st.sh _ _ h.ins,st.sh _ _ h.own,⟨a,st.sh _ _ e,i.mono st.sg⟩,⟨f,st.sh _ _ b,l.mono st.sg⟩,⟨g,st.sh _ _ c,j.mono st.sg⟩,h.ne,st.gnone h.gp h.ins,st.gnone h.gx h.own,st.gnone h.gd e,st.gnone h.g1 b,st.gnone h.g2 c⟩
def RackIn.up{K}{ad}{G H H'}(h:RackIn K ad C G H p r dx d l1 l2)(s:Same H H'):RackIn K ad C G H' p r dx d l1 l2:=by obtain⟨a,j,g⟩:=h.held;obtain⟨c,b,l⟩:=h.done;obtain⟨f,e,i⟩:=h.undone;exact⟨s _ _ h.ins,s _ _ h.own,⟨a,s _ _ j,g⟩,⟨c,s _ _ b,l⟩,⟨f,s _ _ e,i⟩,h.ne,h.gp,h.gx,h.gd,h.g1,h.g2⟩
def SLi(K:mj)(ad:Ad)(G H:Hp):Slot->L7 V->Prop
 |.no,_=>True
 |.sh d,ov=>∃v,ov=pi v/\Rep K ad G d v
 |.ow xs,ov=>∃a vs,ov=pi (.ref a)/\G a=qb/\H a=pi (.lst vs)/\aK K ad G xs vs
 |.dc kvs,ov=>∃a es,ov=pi (.ref a)/\G a=qb/\H a=pi (dcO a es)/\DR K ad G kvs es/\KOk kvs
 |.sd kvs,ov=>∃a es,ov=pi (.ref a)/\G a=qb/\H a=pi (sdO a es)/\DR K ad G kvs es.2/\KOk kvs
 |.rk C r,ov=>∃p dx d l1 l2,ov=pi (.ref p)/\RackIn K ad C G H p r dx d l1 l2
structure SL(K:mj)(ad:Ad)(G H:Hp)(ρ:Rho)(σ:St):Prop where
 len:ρ.length=σ.length
 at_: ∀(i:Nat) (s:Slot),ρ[i]? =pi s->∃ov,σ[i]? =pi ov/\SLi K ad G H s ov
theorem SLi.step(st:Step G H G' H'): ∀{s} {ov},SLi K ad G H s ov->SLi K ad G' H' s ov
 |.no,_,_=>trivial
 |.sh d,_,⟨v,h1,h2⟩=>⟨v,h1,h2.mono st.sg⟩
 |.ow xs,_,⟨a,vs,h1,h2,h3,h4⟩=>by
  refine⟨a,vs,h1,?_,st.sh _ _ h3,h4.mono st.sg⟩;rcases q:G' a with _|o;rfl;have:=st.nw a h2 (by rw[q];exact λz=>nomatch z);rw[h3]at this;cases this
 |.dc kvs,_,⟨a,es,h1,h2,h3,h4,h5⟩=>by
  refine⟨a,es,h1,?_,st.sh _ _ h3,h4.mono st.sg,h5⟩;rcases q:G' a with _|o;rfl;have:=st.nw a h2 (by rw[q];exact λz=>nomatch z);rw[h3]at this;cases this
 |.sd kvs,_,⟨a,es,h1,h2,h3,h4,h5⟩=>by
  refine⟨a,es,h1,?_,st.sh _ _ h3,h4.mono st.sg,h5⟩;rcases q:G' a with _|o;rfl;have:=st.nw a h2 (by rw[q];exact λz=>nomatch z);rw[h3]at this;cases this
 |.rk C r,_,⟨p,dx,d,l1,l2,h1,h2⟩=>⟨p,dx,d,l1,l2,h1,h2.step st⟩
theorem SL.step(h:SL K ad G H ρ σ)(st:Step G H G' H'):SL K ad G' H' ρ σ:=
 ⟨h.len,λi s e=>let ⟨ov,h1,h2⟩:=h.at_ i s e;⟨ov,h1,h2.step st⟩⟩
theorem SL.sh{i:Nat}(h:SL K ad G H ρ σ)(e:ρ[i]? =pi (.sh d)): ∃v,σ[i]? =pi (pi v)/\Rep K ad G d v:=by obtain⟨c,b,v,rfl,a⟩:=h.at_ i _ e;exact⟨v,b,a⟩
theorem SL.ow{i:Nat}(h:SL K ad G H ρ σ)(e:ρ[i]? =pi (.ow xs)): ∃a vs,σ[i]? =pi (pi (.ref a))/\G a=qb/\H a=pi (.lst vs)/\aK K ad G xs vs:=by obtain⟨d,c,a,vs,rfl,b⟩:=h.at_ i _ e;exact⟨a,vs,c,b⟩
theorem SL.dc{i:Nat}(h:SL K ad G H ρ σ)(e:ρ[i]? =pi (.dc kvs)): ∃a es,σ[i]? =pi (pi (.ref a))/\G a=qb/\H a=pi (dcO a es)/\DR K ad G kvs es/\KOk kvs:=by obtain⟨d,c,a,es,rfl,b⟩:=h.at_ i _ e;exact⟨a,es,c,b⟩
theorem SL.rk{i C:Nat}(h:SL K ad G H ρ σ)(e:ρ[i]? =pi (.rk C r)): ∃p dx d l1 l2,σ[i]? =pi (pi (.ref p))/\RackIn K ad C G H p r dx d l1 l2:=by obtain⟨c,b,p,dx,d,l1,l2,rfl,a⟩:=h.at_ i _ e;exact⟨p,dx,d,l1,l2,b,a⟩
def RK(K:mj)(ad:Ad)(G H:Hp)(r:R)(Q:VK)(E:Nat->Hp->Prop):Prop:=match r with
 |.ok d=>∀v G' H',Step G H G' H'->Rep K ad G' d v->Q v H'
 |.ow xs=>∀p vs G' H',Step G H G' H'->H p=qb->G' p=qb->H' p=pi (.lst vs)->aK K ad G' xs vs->Q (.ref p) H'
 |.ex c=>∀G' H',Step G H G' H'->E c H'
 |.bad=>False
def RK.step(h:RK K ad G H r Q E)(st:Step G H G' H'):RK K ad G' H' r Q E:=by
 cases r with
 |ok d=>exact λv b a f q=>h v b a (st.trans f) q
 |ow i=>exact λp g b a f n m e q=>h p g b a (st.trans f) (st.sh.free n) m e q
 |ex c=>exact λb a f=>h b a (st.trans f)
 |bad=>exact h
def RK.ok_now(h:RK K ad G H (.ok d) Q E)(e:Same G H)(q:Rep K ad G d v):Q v H:=h v G H (Step.refl e) q
def RK.ow_new(h:RK K ad G H (.ow xs) Q E)(e:Same G H)(q:aK K ad G xs vs)(n:H p=qb):Q (.ref p) (upd H p (.lst vs)):=
 h p vs G (upd H p (.lst vs)) (Step.own e n) n (e.free n) aD q
def RK.tup_new(h:RK K ad G H (.ok (.tup xs)) Q E)(e:Same G H)(q:aK K ad G xs vs)(n:H p=qb):Q (.ref p) (upd H p (.tup vs)):=by refine h (.ref p) (upd G p (.tup vs)) (upd H p (.tup vs)) (Step.new e n) ?_;unfold Rep;exact⟨p,vs,rfl,SqT.of aD,q.mono (Same.upd_new (e.free n))⟩
end
def CXe(P:Program)(w:World):CXT:=λouter H s E e s'=>
 ∃(ea:Addr) (cls a0:Value) (H':Hp) (B:Heap),e= .ref ea/\s'.os=s.os/\AllBare s'.gens/\Heap.FlyingW B outer ea cls a0 s'.heap/\Un (frs outer) [] H H' s.heap s'.heap/\
  HOk P w H' s'.heap/\H' ea=qb/\(∀b o,s.heap.get? b=pi o->b∉frs outer->∃o',B.get? b=pi o')/\(∀b o,H' b=pi o->∃o',B.get? b=pi o')/\E cls qb H'
def xk(ad:Ad)(E:Nat->Hp->Prop):XK:=λcls _ H'=>∃c,cls= .ref (ad.cls c)/\E c H'
def XP(X:Cx)(ad:Ad)(σ:St)(E:Nat->Hp->Prop):Prop:=
 ∀(cc:cf) (H:Hp) (s:Shared) (e:Value) (s':Shared),Inv X cc σ H s->CXe X.prog X.w X.stack H s (xk ad E) e s'->X.xe e s'
def tE(X:Cx)(ad:Ad)(f:F):TE:=λσ H Q=>∃G ρ E,Same G H/\SL X.K ad G H ρ σ/\XP X ad σ E/\RK X.K ad G H (f ρ) Q E
abbrev ME(X:Cx)(ad:Ad)(e:Expr)(f:F):Prop:=PE X e (tE X ad f)
def lN(r:R):Prop:=(∃b,r= .ok (.bl b))\/∃c,r= .ex c
def tT(X:Cx)(ad:Ad)(f:F):TT:=λσ H Q=>∃G ρ E,Same G H/\SL X.K ad G H ρ σ/\XP X ad σ E/\lN (f ρ)/\RK X.K ad G H (f ρ) (λv H'=>∃b,v= .bl b/\Q b H') E
def tE.el{ad}{σ:St}{P:Prop}(h:tE X ad f σ H Q)(k: ∀G ρ E,Same G H->SL X.K ad G H ρ σ->XP X ad σ E->RK X.K ad G H (f ρ) Q E->P):P:=by obtain⟨G,ρ,E,c,d,a,b⟩:=h;exact k G ρ E c d a b
def tT.el{ad}{σ:St}{P:Prop}(h:tT X ad f σ H Q)(k: ∀G ρ E,Same G H->SL X.K ad G H ρ σ->XP X ad σ E->lN (f ρ)->RK X.K ad G H (f ρ) (λv H'=>∃b,v= .bl b/\Q b H') E->P):P:=by obtain⟨G,ρ,E,g,d,a,e,c⟩:=h;exact k G ρ E g d a e c
abbrev MT(X:Cx)(ad:Ad)(e:Expr)(f:F):Prop:=PT X e (tT X ad f)
abbrev MW(X:Cx)(ad:Ad)(e:Expr)(f:F):Prop:=PW X e (tT X ad f)
def AK(K:mj)(ad:Ad)(G H:Hp)(r:RA)(Q:L1 V->Hp->Prop)(E:Nat->Hp->Prop):Prop:=match r with
 |.ok ds=>∀vs G' H',Step G H G' H'->aK K ad G' ds vs->Q vs H'
 |.ex c=>∀G' H',Step G H G' H'->E c H'
 |.bad=>False
def tA(X:Cx)(ad:Ad)(fs:L1 F):TA:=λσ H Q=>∃G ρ E,Same G H/\SL X.K ad G H ρ σ/\XP X ad σ E/\AK X.K ad G H (args fs ρ) Q E
abbrev MA(X:Cx)(ad:Ad)(es:L1 Expr)(fs:L1 F):Prop:=PA X es (tA X ad fs)
section
variable{X:Cx}{ad:Ad}{cc:cf}{s:Shared}{σ:St}{H G:Hp}{ρ:Rho}{Q:VK}{E:Nat->Hp->Prop}{pos:Pos}{a:Expr}{f:F}
def dG(st:Step G H G1 H1)(n:H p=qb)(m:G1 p=qb)(e:H1 p=pi (.lst vs))(q:aK X.K ad G1 xs vs):
  ∃G2,Step G H G2 H1/\Rep X.K ad G2 (.lst xs) (.ref p):=by
 refine⟨upd G1 p (.lst vs),st.share n m e,?_⟩;unfold Rep;exact⟨p,vs,rfl,SqL.of aD,q.mono (Same.upd_new m)⟩
theorem ME.thn(ha:ME X ad a f)(I:Inv X cc σ H s)(hG:Same G H)(hS:SL X.K ad G H ρ σ)(hx:XP X ad σ E)(hr:RK X.K ad G H ((f ρ).bind k) Q E):
  X.wp (eval a X.env) (λu s1=>∃v d G1 H1,Inv X cc σ H1 s1/\bJ v u/\Step G H G1 H1/\Rep X.K ad G1 d v/\RK X.K ad G1 H1 (k d) Q E) X.xe s:=by
 cases e:f ρ with
 |ok d=>
  rw[e]at hr;refine L2.thn (ha cc s σ H (λv H1=>∃G1,Step G H G1 H1/\Rep X.K ad G1 d v) I ⟨G,ρ,E,hG,hS,hx,by rw[e];exact λv G1 H1 g q=>⟨G1,g,q⟩⟩) λu s1 b=>?_;refine gzq λRz ez=>?_;obtain⟨v,H1,h,i,G1,g,q⟩:=b;subst ez;exact⟨v,d,G1,H1,h,i,g,q,RK.step hr g⟩
 |ow j=>
  rw[e]at hr;refine L2.thn (ha cc s σ H (λv H1=>∃G1,Step G H G1 H1/\Rep X.K ad G1 (.lst j) v) I ⟨G,ρ,E,hG,hS,hx,by rw[e];exact λp o G1 H1 g n m l q=>dG g n m l q⟩) λu s1 b=>?_;refine gzq λRz ez=>?_;obtain⟨v,H1,h,i,G1,g,q⟩:=b;subst ez;exact⟨v,.lst j,G1,H1,h,i,g,q,RK.step hr g⟩
 |ex c=>
  rw[e]at hr;refine L2.thn (ha cc s σ H (λv H1=>False) I ⟨G,ρ,E,hG,hS,hx,by rw[e];exact hr⟩) λu s1 b=>by obtain⟨v,H1,h,i,q⟩:=b;exact q.elim
 |bad=>
  rw[e]at hr;exact ba hr
def bT:Rep X.K ad G (.int i) (.int i):=by unfold Rep;rfl
def cS:Rep X.K ad G (.bl i) (.bl i):=by unfold Rep;rfl
def FK:Rep X.K ad G .non .non:=by unfold Rep;rfl
def yR:Rep X.K ad G (.str i) (.str i):=by unfold Rep;rfl
def yS(hN:X.N[i]? =pi x)(hv:Vis X.env.scope x)(hd:(x==("__debug__":Str))=qe)(hcd:(x==("__classdict__":Str))=qe):ME X ad (.Name x pos) (aB i):=by
 refine λn s g H Q I f=>f.el λG j E m c p a=>?_;unfold aB at a;rcases e:j[i]? with _|h;rw[e]at a;exact a.elim;rw[e]at a;cases h with
 |no=>exact a.elim
 |dc b=>exact a.elim
 |sd b=>exact a.elim
 |rk _ _=>exact a.elim
 |ow q=>exact a.elim
 |sh d=>
  obtain⟨v,o,l⟩:=c.sh e;exact bO hN hv hd hcd n s g H Q I ⟨v,o,a.ok_now m l⟩
def MLk(X:Cx)(ad:Ad)(e:Expr)(f:F):Prop:=
 ∀(cc:cf) (s:Shared) (σ:St) (H G:Hp) (ρ:Rho) (k:D->R) (Q:VK) (E:Nat->Hp->Prop),Inv X cc σ H s->Same G H->SL X.K ad G H ρ σ->XP X ad σ E->RK X.K ad G H ((f ρ).bind k) Q E->
  X.wp (eval e X.env) (λu s1=>∃v d G1 H1,Inv X cc σ H1 s1/\bJ v u/\Step G H G1 H1/\(Rep X.K ad G1 d v\/∃a vs ds,d= .lst ds/\v= .ref a/\G1 a=qb/\H1 a=pi (.lst vs)/\aK X.K ad G1 ds vs)/\RK X.K ad G1 H1 (k d) Q E) X.xe s
def ME.look(ha:ME X ad a f):MLk X ad a f:=by intro t s p H G r k Q E I m c e l;exact L2.thn (ha.thn I m c e l) λu o b=>by obtain⟨v,d,j,n,g,h,i,q,z⟩:=b;exact⟨v,d,j,n,g,h,i,.inl q,z⟩
def JI(hN:X.N[i]? =pi x)(hv:Vis X.env.scope x)(hd:(x==("__debug__":Str))=qe)(hcd:(x==("__classdict__":Str))=qe):MLk X ad (.Name x pos) (aE i):=by
 intro t s q H G J k Q E I r o L a;unfold aE at a;rcases e:J[i]? with _|C;rw[e]at a;exact a.elim;rw[e]at a;cases C with
 |no=>exact a.elim
 |dc j=>exact a.elim
 |sd j=>exact a.elim
 |rk _ _=>exact a.elim
 |ow y=>
  obtain⟨p,K,n,m,z,B⟩:=o.ow e;refine L2.thn (bO hN hv hd hcd t s q H (λv c=>v= .ref p/\c=H) I ⟨.ref p,n,rfl,rfl⟩) λu A b=>?_;obtain⟨v,c,g,l,h,f⟩:=b;subst h;subst f;exact⟨.ref p,.lst y,G,c,g,l,Step.refl r,.inr ⟨p,K,y,rfl,rfl,m,z,B⟩,a⟩
 |sh d=>
  obtain⟨w,n,m⟩:=o.sh e;refine L2.thn (bO hN hv hd hcd t s q H (λv c=>v=w/\c=H) I ⟨w,n,rfl,rfl⟩) λu A b=>?_;obtain⟨v,c,g,l,h,f⟩:=b;subst h;subst f;exact⟨v,d,G,c,g,l,Step.refl r,.inl m,a⟩
def gX(e:kD k=pi d):ME X ad (.Constant k j pos) (rK d):=by
 refine λf s b H Q I g=>g.el λG m E c h l a=>?_;cases k with
 |int i=>cases e;exact x6 f s b H Q I (a.ok_now c bT)
 |bool i=>cases e;exact Mo f s b H Q I (a.ok_now c cS)
 |none=>cases e;exact IW f s b H Q I (a.ok_now c FK)
 |str i=>cases e;exact IX f s b H Q I (a.ok_now c yR)
 |float _=>cases e
 |complex _ _=>cases e
 |bytes _=>cases e
 |ellipsis=>cases e
def yT{x}{d}{u}{v}(hg:L2.Gl X x)(hm:X.mg x=pi u)(r:bJ v u)(q: ∀G,Rep X.K ad G d v)(hd:(x==("__debug__":Str))=qe):ME X ad (.Name x pos) (rK d):=by refine λf s c H Q I b=>b.el λG i E e g h a=>?_;exact Fg hg hm r hd f s c H Q I (a.ok_now e (q G))
def DOp(X:Cx)(ad:Ad)(t:Value->Value->Sem Value)(r:D->D->R):Prop:=
 ∀(cc:cf) (s:Shared) (σ:St) (H G:Hp) (x y:D) (v w:V) (u z:Value) (Q:VK) (E:Nat->Hp->Prop),Inv X cc σ H s->Same G H->Rep X.K ad G x v->Rep X.K ad G y w->bJ v u->bJ w z->
  RK X.K ad G H (r x y) Q E->X.wp (t u z) (EP X cc σ Q) X.xe s
def yU(ho:DOp X ad t r)(ha:ME X ad a f)(hb:ME X ad b g)(I:Inv X cc σ H s)(hG:Same G H)(hS:SL X.K ad G H ρ σ)(hx:XP X ad σ E)(hr:RK X.K ad G H ((f ρ).bind λx=>(g ρ).bind λy=>r x y) Q E):
  X.wp (eval a X.env) (λv s₁=>X.wp (eval b X.env) (λu s₂=>X.wp (t v u) (EP X cc σ Q) X.xe s₂) X.xe s₁) X.xe s:=by
 refine L2.thn (ha.thn I hG hS hx hr) λu C c=>?_;refine gzq λRz ez=>?_;obtain⟨v,d,J,L,m,q,st1,q1,h⟩:=c;subst ez;refine L2.thn (hb.thn m st1.gh (hS.step st1) hx h) λz p c=>?_;refine gzq λRz ez=>?_;obtain⟨w,e,n,B,o,j,st2,l,i⟩:=c;subst ez;exact ho cc p σ B n d e v w u z Q E o st2.gh (q1.mono st2.sg) l q j i
end
section
variable{ad:Ad}{σ:St}
def Ec(h:n<=LIM):n<=sizeLine:=mq h (by decide)
def tJ(h:sml i=qc): -(2^64)<i/\i<2^64:=by unfold sml at h;rw[aw]at h;exact⟨of_decide_eq_true h.1,of_decide_eq_true h.2⟩
def oF(h:sml i=qc):i.natAbs<2^64:=by obtain⟨a,b⟩:=tJ h;lia
def w5(its:L1 Value)m:List.foldl (λx1 x2=>x1++x2) #[] (ao m its.toArray)=(ao m its).flatten.toArray:=by have:=qM its m [];rw[kg]at this;exact this
def FL(I:Inv X cc σ H s)(hl:SqL X.K H l xs)(hb:SqL X.K H b ys)(hz:xs.length+ys.length<=sizeLine)(q: ∀p,H p=qb->Q (.ref p) (upd H p (.lst (xs++ys)))):
  X.wp (binaryOp .Add (.ref l) (.ref b)) (EP X cc σ Q) X.xe s:=by
 obtain⟨c,y,⟨⟨E,dd,x,C⟩,n,t,z,i,v⟩,_⟩:=I.list hl;obtain⟨a,r,⟨⟨u,o,m,j⟩,B,g,h,f,d⟩,_⟩:=I.list hb;simp only at z v h d i f;subst z v h d;have e:c.toArray++a.toArray=(c++a).toArray:=by simp
 refine concat_meets ⟨_,t,rfl⟩ ⟨_,g,rfl⟩ noFill_list_add seq_list_add PySem.F.slot_list_add PySem.F.entry_list_add (PySem.F.args_list_add_2 _ _)
   (list_addW l b c.toArray a.toArray n B dd o C j (by rw[ax,ax, <-y.length, <-r.length];exact hz)) ⟨t,g,?_⟩
 rw[e];exact⟨.ref _,_,I.lnew (t':=s.toks) (y.append r) (by rw[bo];exact hz),rfl,q _ I.fresh⟩
def FN(I:Inv X cc σ H s)(hl:SqL X.K H l xs)(h0: -1000000<k)(h1:k<1000000)(hz:xs.length*k.toNat<=sizeLine)(q: ∀p,H p=qb->Q (.ref p) (upd H p (.lst (ao k.toNat xs).flatten))):
  X.wp (binaryOp .Mult (.ref l) (.int k u)) (EP X cc σ Q) X.xe s:=by
 obtain⟨b,r,⟨⟨z,dd,o,m⟩,n,e,t,i,j⟩,_⟩:=I.list hl;simp only at t j i;subst t j;have f:b.toArray.size*k.toNat<=sizeLine:=by rw[ax, <-r.length];exact hz
 have h: ¬b.toArray.size*k.toNat > (2^63-1)/8:=by
  have:(sizeLine:Nat)<=(2^63-1)/8:=by decide
  lia
 have g: ¬(!Builtin.List.listFitsIndex k)=qc:=by
  rw[fitsIndex_both (by lia) (by lia)];exact bf
 have c: ¬ee (b.toArray.size*k.toNat)=qc:=by
  rw[B6 f];exact bf
 have d:List.foldl (λv x=>v++x) #[] (ao (if b.toArray.isEmpty=qc then 0 else k.toNat) b.toArray)=(ao k.toNat b).flatten.toArray:=by
  rw[w5];rcases b with _|⟨a,B⟩;simp;rw[if_neg (by simp)]
 refine wpAny_binaryOp_repeat_ref (T:="list") (U:="int") rfl ⟨_,e,rfl⟩ (λy=>typeIs_int y k u) noFill_list_mul F.fills_int_mul F.slot_int_rmul repeat_list F.slot_int_index.lookup
  (call_meets F.slot_int_rmul (typeIs_int s k u) F.entry_int_rmul (F.args_int_rmul_2 _ _) (mM k u l b.toArray n "list" dd m (.inl rfl))
   ⟨e,rfl,⟨_,e,rfl⟩,call_meets F.slot_list_mul ⟨_,e,rfl⟩ F.entry_list_mul (F.args_list_mul_2 _ _) (yK l b.toArray n k u dd m g h c) ⟨e,?_⟩⟩)
 rw[d];exact⟨.ref _,_,I.lnew (t':=s.toks) (r.rep k.toNat) (by rw[Fx,Nat.mul_comm];exact hz),rfl,q _ I.fresh⟩
def zDbq:iQ op x y= .bad\/(∃i j,x=.int i/\y=.int j)\/(∃o B,x=.lst o/\y=.lst B)\/∃o k,x=.lst o/\y=.int k:=by
 cases x<;>try exact .inl rfl
 all_goals cases y<;>try exact .inl rfl
 exact .inr (.inl ⟨_,_,rfl,rfl⟩)
 exact .inr (.inr (.inr ⟨_,_,rfl,rfl⟩))
 exact .inr (.inr (.inl ⟨_,_,rfl,rfl⟩))
def FO op:DOp X ad (binaryOp op) (iQ op):=by
 intro m s l H G x y v w u z Q E I e A n f g d;rcases zDbq (op:=op) (x:=x) (y:=y) with b|⟨i,j,rfl,rfl⟩|⟨o,B,rfl,rfl⟩|⟨o,k,rfl,rfl⟩
 rw[b]at d;exact d.elim
 unfold Rep at A n;subst A;subst n;cases op with
 |Add=>exact Ji m s l H _ _ u z Q I f g ⟨i,j,rfl,rfl,d.ok_now e bT⟩
 |Sub=>exact Jj m s l H _ _ u z Q I f g ⟨i,j,rfl,rfl,d.ok_now e bT⟩
 |Mult=>
  have b:RK X.K ad G H (if sml i||sml j then R.ok (.int (i*j))else .bad) Q E:=d;by_cases c:(sml i||sml j)=qc;rw[if_pos c]at b;refine Jk m s l H _ _ u z Q I f g ⟨i,j,rfl,rfl,?_,b.ok_now e bT⟩;rcases(Bool.or_eq_true _ _).mp c with h|h;exact .inl (tJ h);exact .inr (tJ h);rw[if_neg c]at b;exact b.elim
 |FloorDiv=>
  have b:RK X.K ad G H (if 0<j/\j<1073741824 then R.ok (.int (i/j))else .bad) Q E:=d;by_cases c:0<j/\j<1073741824;rw[if_pos c]at b;exact Fm m s l H _ _ u z Q I f g ⟨i,j,rfl,rfl,c,b.ok_now e bT⟩;rw[if_neg c]at b;exact b.elim
 |Mod=>
  have b:RK X.K ad G H (if 0<j then R.ok (.int (i % j))else .bad) Q E:=d;by_cases c:0<j;rw[if_pos c]at b;exact Jl m s l H _ _ u z Q I f g ⟨i,j,rfl,rfl,c,b.ok_now e bT⟩;rw[if_neg c]at b;exact b.elim
 |LShift=>
  have b:RK X.K ad G H (if 0<=j/\j<=1000/\sml i=qc then R.ok (.int (i*2^j.toNat))else .bad) Q E:=d;by_cases c:0<=j/\j<=1000/\sml i=qc;rw[if_pos c]at b;exact Jm m s l H _ _ u z Q I f g ⟨i,j,rfl,rfl,⟨c.1,by lia,oF c.2.2⟩,b.ok_now e bT⟩;rw[if_neg c]at b;exact b.elim
 |BitAnd=>exact Jn m s l H _ _ u z Q I f g ⟨i,j,rfl,rfl,d.ok_now e bT⟩
 |BitOr=>exact Mz m s l H _ _ u z Q I f g ⟨i,j,rfl,rfl,d.ok_now e bT⟩
 |BitXor=>exact Jo m s l H _ _ u z Q I f g ⟨i,j,rfl,rfl,d.ok_now e bT⟩
 |_=>exact ba d
 unfold Rep at A;obtain⟨p,O,rfl,J,r⟩:=A;unfold Rep at n;obtain⟨q,N,rfl,M,L⟩:=n;cases op with
 |Add=>
  have b:RK X.K ad G H (if o.length+B.length<=LIM then R.ow (o++B)else .bad) Q E:=d;by_cases c:o.length+B.length<=LIM;rw[if_pos c]at b;cases (show u=pf p from f);cases (show z=pf q from g);exact FL I (e.seq J) (e.seq M) (by rw[r.length,L.length];exact Ec c) λa C=>b.ow_new e (r.append L) C;rw[if_neg c]at b;exact b.elim
 |_=>exact ba d
 unfold Rep at A;obtain⟨p,O,rfl,J,r⟩:=A;unfold Rep at n;subst n;cases op with
 |Mult=>
  have b:RK X.K ad G H (if -1000000<k/\k<1000000/\o.length*k.toNat<=LIM then R.ow (MP o k)else .bad) Q E:=d;by_cases c: -1000000<k/\k<1000000/\o.length*k.toNat<=LIM;rw[if_pos c]at b;cases (show u=pf p from f);obtain⟨t,rfl⟩:=g;exact FN I (e.seq J) c.1 c.2.1 (by rw[r.length];exact Ec c.2.2) λa C=>b.ow_new e (r.rep k.toNat) C;rw[if_neg c]at b;exact b.elim
 |_=>exact ba d
def Ed(ha:ME X ad a f)(hb:ME X ad b g):ME X ad (.BinOp a op b pos) (aV op f g):=by refine λl s j H Q I h=>h.el λG m E i c d e=>?_;exact wpAny_BinOp (yU (FO op) ha hb I i c d e)
end
end SK
namespace L2
open PySem PySem.Spec PyProof.Rows
section
variable {κ:Type} [DecidableEq κ]
noncomputable def lO(kvs:L1 (κ×V))(k:κ):L7 V:=(kvs.find? λkv=>decide (kv.1=k)).map (·.2)
noncomputable def putK(kvs:L1 (κ×V))(k:κ)(v:V):L1 (κ×V):=
 if(kvs.any λkv=>decide (kv.1=k))=qc then kvs.map (λkv=>if kv.1=k then(kv.1,v)else kv)else kvs++[(k,v)]
noncomputable def dropK(kvs:L1 (κ×V))(k:κ):L1 (κ×V):=kvs.filter λkv=>decide (kv.1≠k)
def Ce{k:κ}:lO ([]:L1 (κ×V)) k=qb:=rfl
def iU{p:κ×V}{r:L1 (κ×V)}{k:κ}(e:p.1=k):lO (p::r) k=pi p.2:=by simp[lO,kh,e]
def gY{p:κ×V}{r:L1 (κ×V)}{k:κ}(e: ¬p.1=k):lO (p::r) k=lO r k:=by simp[lO,kh,e]
theorem uZ(k:κ): ∀kvs:L1 (κ×V),(kvs.any λkv=>decide (kv.1=k))=(lO kvs k).isSome
 |[]=>rfl
 |p::r=>by
  rw[lr];by_cases e:p.1=k;simp only[iU e,decide_eq_true e,Bool.true_or,Option.isSome_some];rw[gY e,decide_eq_false e,Bool.false_or];exact uZ k r
def fV(kvs:L1 (κ×V))(k:κ)(v:V):(putK kvs k v).length<=kvs.length+1:=by unfold putK;split;rw[aq];lia;rw[bo,bq,ki];lia
def mL.isSome_eq{o}{u}(r:mL o u):o.isSome=u.isSome:=by rcases o with _|_;rcases u with _|_;rfl;exact(show False from r).elim;rcases u with _|_;exact(show False from r).elim;rfl
theorem mL.getD{o}{u}{d}{d'}(r:mL o u)(rd:bJ d d'):bJ (o.getD d) (u.getD d'):=by rcases o with _|_;rcases u with _|_;exact rd;exact(show False from r).elim;rcases u with _|_;exact(show False from r).elim;exact r
def KV.val{kvs:L1 (κ×V)}{vs:L1 (κ×Value)}(r:KV kvs vs)(k:κ):mL (lO kvs k) (valueAt vs k):=by
 unfold KV at r;induction r with
 |nil=>exact oy
 |@cons p q i a h t g=>
  obtain⟨d,f⟩:=h;by_cases e:p.1=k;have c:q.1=k:=d.symm.trans e;have b:valueAt (q::a) k=pi q.2:=by simp[valueAt,kh,c]
  rw[iU e,b];exact f;have c: ¬q.1=k:=λz=>e (d.trans z);have b:valueAt (q::a) k=valueAt a k:=by simp[valueAt,kh,c]
  rw[gY e,b];exact g
theorem KV.any{kvs:L1 (κ×V)}{vs:L1 (κ×Value)}(r:KV kvs vs)(k:κ):(kvs.any λkv=>decide (kv.1=k))=vs.any λkv=>decide (kv.1=k):=by
 unfold KV at r;induction r with
 |nil=>rfl
 |cons h t a=>rw[lr,lr,a,h.1]
def KV.repl{kvs:L1 (κ×V)}{vs:L1 (κ×Value)}(r:KV kvs vs)(k:κ){y:V}{u:Value}(ry:bJ y u):
  KV (kvs.map λkv=>if kv.1=k then(kv.1,y)else kv) (vs.map λkv=>if kv.1=k then(kv.1,u)else kv):=by
 unfold KV at r ⊢;induction r with
 |nil=>exact .nil
 |@cons p q f d h t c=>
  rw[lm,lm];refine .cons ?_ c;obtain⟨a,b⟩:=h;by_cases e:p.1=k;rw[if_pos e,if_pos (a.symm.trans e)];exact⟨a,ry⟩;rw[if_neg e,if_neg (λz=>e (a.trans z))];exact⟨a,b⟩
def KV.put{kvs:L1 (κ×V)}{vs:L1 (κ×Value)}(r:KV kvs vs)(k:κ){y:V}{u:Value}(ry:bJ y u):KV (putK kvs k y) (stored vs k u):=by unfold putK stored;rw[r.any k];by_cases e:(vs.any λa=>decide (a.1=k))=qc;rw[if_pos e,if_pos e];exact r.repl k ry;rw[if_neg e,if_neg e];exact Paired.snoc r ⟨rfl,ry⟩
def KV.drop{kvs:L1 (κ×V)}{vs:L1 (κ×Value)}(r:KV kvs vs)(k:κ):KV (dropK kvs k) (without vs k):=by
 unfold KV at r ⊢;unfold dropK without;induction r with
 |nil=>exact .nil
 |@cons p q j i h t d=>
  obtain⟨c,f⟩:=h;rw[jn,jn];by_cases e:p.1=k;have a: ¬decide (p.1≠k)=qc:=by simp[e]
  have b: ¬decide (q.1≠k)=qc:=by simp[c.symm.trans e]
  rw[if_neg a,if_neg b];exact d;have g: ¬q.1=k:=λz=>e (c.trans z);have a:decide (p.1≠k)=qc:=by simp[e]
  have b:decide (q.1≠k)=qc:=by simp[g]
  rw[if_pos a,if_pos b];exact .cons ⟨c,f⟩ d
def KV.keys{kvs:L1 (κ×V)}{vs}(r:KV kvs vs):kvs.map (·.1)=vs.map (·.1):=by
 unfold KV at r;induction r with
 |nil=>rfl
 |cons h t a=>rw[lm,lm,a,h.1]
theorem KV.length{kvs:L1 (κ×V)}{vs}(r:KV kvs vs):kvs.length=vs.length:=li r
def Cf(kvs:L1 (κ×V))(k:κ):(dropK kvs k).length<=kvs.length:=List.length_filter_le _ _
end
def mU(r:bJ (kV k) u):(bE P w).is k u=qc:=by rcases k with i|x;obtain⟨t,e⟩:=(show ∃t,u=pd i t from r);subst e;exact sV P w i t;obtain⟨t,e⟩:=(show ∃t,u=pe x t from r);subst e;exact kY P w x t
theorem qZ{P}{w}: ∀{ks} {us},b9 (ks.map kV) us->ItemsAre (bE P w) ks us
 |[],_,r=>by rw[nj]at r;cases r;exact .nil
 |k::ks,_,r=>by
  rw[lm]at r;cases r with
  |cons h t=>exact .cons (mU h) (qZ t)
abbrev KT(H:Hp):L1 (L1 Key×V)->L1 (L1 Key×Addr×Value)->Prop:=Paired λp q=>p.1=q.1/\H q.2.1=pi (.tup (p.1.map kV))/\bJ p.2 q.2.2
def KT.val(r:KT H kvs xs)k:mL (lO kvs k) ((atKey xs k).map (·.2)):=by
 induction r with
 |nil=>exact oy
 |@cons p q i a h t g=>
  obtain⟨d,_,f⟩:=h;by_cases e:p.1=k;have c:q.1=k:=d.symm.trans e;have b:atKey (q::a) k=pi q.2:=by simp[atKey,kh,c]
  rw[iU e,b];exact f;have c: ¬q.1=k:=λz=>e (d.trans z);have b:atKey (q::a) k=atKey a k:=by simp[atKey,kh,c]
  rw[gY e,b];exact g
def KT.repl(r:KT H kvs xs)k(ry:bJ y u):
  KT H (kvs.map λkv=>if kv.1=k then(kv.1,y)else kv) (xs.map (putAt k u)):=by
 induction r with
 |nil=>exact .nil
 |@cons p q g f h t d=>
  rw[lm,lm];refine .cons ?_ d;obtain⟨a,b,c⟩:=h;unfold putAt;by_cases e:p.1=k;rw[if_pos e,if_pos (a.symm.trans e)];exact⟨a,b,ry⟩;rw[if_neg e,if_neg (λz=>e (a.trans z))];exact⟨a,b,c⟩
def KT.put(r:KT H kvs xs)k(hb:H b=pi (.tup (k.map kV)))(ry:bJ y u):
  KT H (putK kvs k y) (storedH xs k b u):=by
 have e:(kvs.any λa=>decide (a.1=k))=(atKey xs k).isSome:=by
  rw[uZ,(r.val k).isSome_eq,je]
 unfold putK storedH;rw[e];by_cases q:(atKey xs k).isSome=qc;rw[if_pos q,if_pos q];exact r.repl k ry;rw[if_neg q,if_neg q];exact Paired.snoc r ⟨rfl,hb,ry⟩
def KT.keeps(r:KT H kvs xs)(ht: ∀b ys,H b=pi (.tup ys)->H' b=pi (.tup ys)):KT H' kvs xs:=
 Paired.mapP r λ_ _ z=>⟨z.1,ht _ _ z.2.1,z.2.2⟩
def JJ(ok:HOk P w H h)(e:Rd H a u):ObjOk P w H h a u:=e.ok ok
def jL(ok:HOk P w H h)(e:Rd H a (.dK kvs)):kvs.length<=sizeLine/\(a==sysModules)=qe/\∃vs,KV kvs vs/\h.DictOf (bE P w) a vs:=
 show ObjOk P w H h a (.dK kvs) from JJ ok e
def yV(ok:HOk P w H h)(e:H a=pi (.dK kvs)):kvs.length<=sizeLine/\(a==sysModules)=qe/\∃vs,KV kvs vs/\h.DictOf (bE P w) a vs:=jL ok (.inl e)
def lP(ok:HOk P w H h)(e:H a=pi (.tup (ks.map kV))):(tupleKind (bE P w)).is h ks a:=by obtain⟨_,b,r,⟨o,f,d,n,c⟩,_⟩:=(show ObjOk P w H h a (.tup (ks.map kV)) from ok a _ e);exact⟨o,b.toArray,n,f,d,c,by simpa using qZ r⟩
def q8(ok:HOk P w H h)(e:Rd H a (.dT kvs)):kvs.length<=sizeLine/\(a==sysModules)=qe/\
  ∃xs,KT H kvs xs/\h.DictOfH (tupleKind (bE P w)) a xs:=by
 obtain⟨z,y,xs,r,o,f,s,u,j,d,i,g⟩:=(show ObjOk P w H h a (.dT kvs) from JJ ok e);refine⟨z,y,xs,r,o,f,s,u,j,d,i,λx b=>?_,g⟩;have all: ∀{l:L1 (L1 Key×V)} {m:L1 (L1 Key×Addr×Value)},KT H l m->∀x∈m,(tupleKind (bE P w)).is h x.1 x.2.1:=by
  intro l m q;induction q with
  |nil=>intro x b;exact nomatch b
  |@cons p q A v c t n=>
   intro x b;rcases av.mp b with e|b;subst e;exact lP ok (by rw[<-c.1];exact c.2.1);exact n x b
 exact all r x b
def MU(ok:HOk P w H h)(e:H a=pi (.dT kvs)):kvs.length<=sizeLine/\(a==sysModules)=qe/\
  ∃xs,KT H kvs xs/\h.DictOfH (tupleKind (bE P w)) a xs:=q8 ok (.inl e)
def pW(H:Hp)(a:Addr)(y:V)(r:L7 V):Prop:=
 (∃kvs k,Rd H a (.dK kvs)/\y=kV k/\r=lO kvs k)\/∃kvs k b,Rd H a (.dT kvs)/\y= .ref b/\H b=pi (.tup (k.map kV))/\r=lO kvs k
def IL(H:Hp)(a:Addr)(y v:V)(H':Hp):Prop:=
 (∃kvs k,H a=pi (.dK kvs)/\y=kV k/\kvs.length<sizeLine/\H'=upd H a (.dK (putK kvs k v)))\/
 ∃kvs k b,H a=pi (.dT kvs)/\y= .ref b/\H b=pi (.tup (k.map kV))/\kvs.length<sizeLine/\H'=upd H a (.dT (putK kvs k v))
theorem pW.k{k}(e:H a=pi (.dK kvs)):pW H a (kV k) (lO kvs k):=.inl ⟨kvs,k,.inl e,rfl,rfl⟩
theorem IL.k{k}(e:H a=pi (.dK kvs))(hl:kvs.length<sizeLine):IL H a (kV k) v (upd H a (.dK (putK kvs k v))):=.inl ⟨kvs,k,e,rfl,hl,rfl⟩
section
variable{σ:St}{E:ce}
def Inv.bigK(I:Inv X cc σ H s):sysModules<s.z:=by have h:mainGlobals<s.z:=(I.mod.glob.keeps I.bk).lt;exact Nat.lt_trans (by decide) h
def yW{Q:ce}(hu:A.units+1<cLine)(I:Inv X cc σ H s)(g:pW H a y (pi v))(ry:bJ y u)(h: ∀w' s',Inv X cc σ H s'->bJ v w'->Q w' s'):
  wpAny (model X.prog X.w) A (getItem (.ref a) u) Q E s:=by
 rcases g with ⟨j,k,e,i,l⟩|⟨j,k,b,e,i,n,l⟩;subst i;refine gzq λRz ez=>?_;obtain⟨z,r,t,c,dd⟩:=jL I.hok e;obtain⟨w',m,d⟩:=mL.some_of (v:=v) (o:=valueAt t k) (by rw[l];exact c.val k);subst ez;exact wpAny_getItem_of (mU ry) dd.mapOf m (h w' _ (I.tok _) d);subst i;cases (show u=pf b from ry);refine gzq λRz ez=>?_;obtain⟨z,r,x,c,dd⟩:=q8 I.hok e;obtain⟨w',m,d⟩:=mL.some_of (v:=v) (o:=(atKey x k).map (·.2)) (by rw[l];exact c.val k);obtain⟨p,q,f⟩:=zMd m;subst ez;refine wpAny_getItem_heap (tupleKind_room_in1 hu) (lP I.hok n) dd q ?_;rw[f];exact h w' _ (I.tok _) d
def Oa{Q:ce}(hu:A.units+1<cLine)(I:Inv X cc σ H s)(g:pW H a y o)(ry:bJ y u)(h: ∀s',Inv X cc σ H s'->Q (.bool o.isSome) s'):
  wpAny (model X.prog X.w) A (compareOp .In u (.ref a)) Q E s:=by
 rcases g with ⟨f,k,e,d,l⟩|⟨f,k,b,e,d,j,l⟩;subst d;obtain⟨z,i,m,c,dd⟩:=jL I.hok e;refine wpAny_in_of (mU ry) i dd.mapOf ?_;rw[<-(c.val k).isSome_eq, <-l];exact h _ (I.tok _);subst d;cases (show u=pf b from ry);obtain⟨z,i,n,c,dd⟩:=q8 I.hok e;refine wpAny_in_heap (tupleKind_room_in1 hu) (lP I.hok j) i dd ?_;have q:=(c.val k).isSome_eq;rw[je]at q;rw[<-q, <-l];exact h _ (I.tok _)
def yX{Q:ce}(hu:A.units+1<cLine)(I:Inv X cc σ H s)(g:pW H a y o)(ry:bJ y u)(h: ∀s',Inv X cc σ H s'->Q (.bool (!o.isSome)) s'):
  wpAny (model X.prog X.w) A (compareOp .NotIn u (.ref a)) Q E s:=by
 rcases g with ⟨f,k,e,d,l⟩|⟨f,k,b,e,d,j,l⟩;subst d;obtain⟨z,i,m,c,dd⟩:=jL I.hok e;refine wpAny_notIn_of (mU ry) i dd.mapOf ?_;rw[<-(c.val k).isSome_eq, <-l];exact h _ (I.tok _);subst d;cases (show u=pf b from ry);obtain⟨z,i,n,c,dd⟩:=q8 I.hok e;refine wpAny_notIn_heap (tupleKind_room_in1 hu) (lP I.hok j) i dd ?_;have q:=(c.val k).isSome_eq;rw[je]at q;rw[<-q, <-l];exact h _ (I.tok _)
def jM(I:Inv X cc σ H s)(mu:Mut (H a))(hs:mz a s.heap h')(he: ∃q,h'.get? a=pi q)(new:ObjOk X.prog X.w (upd H a ob) h' a ob):
  Inv X cc σ (upd H a ob) {s with heap:=h',toks:=t'}:=
 I.write (x:=a) (e:=a) mu (.inl rfl) (λb q c z=>(hs.2 b c).trans z) he new
def nB(z:kvs.length<=sizeLine)(hd:(a==sysModules)=qe)(rel:KV kvs vs)(dd:h'.DictOf (bE P w) a vs):
  ObjOk P w H' h' a (.dK kvs):=⟨z,hd,vs,rel,dd⟩
def q9(hu:A.units+1<cLine)(I:Inv X cc σ H s)(g:IL H a y v H')(ry:bJ y u)(rv:bJ v r)(h: ∀s',Inv X cc σ H' s'->Q () s'):
  wpAny (model X.prog X.w) A (setItem (.ref a) u r) Q E s:=by
 rcases g with ⟨f,k,e,p,l,m⟩|⟨f,k,b,e,p,B,l,m⟩;subst p m;obtain⟨z,n,L,d,dd⟩:=yV I.hok e;have o:L.length<=sizeLine:=by rw[<-d.length];exact z
 have t:(putK f k v).length<=sizeLine:=by have:=fV f k v;lia
 refine wpAny_setItem_pairs (hsz:=o) (mU ry) dd λG i x=>h _ ?_;have N: ∃q,G.get? a=pi q:=let ⟨q,_,_,j,_⟩:=i;⟨q,j⟩;exact jM I (by rw[e];exact oy) x N (nB t n (d.put k rv) i);subst p m;cases (show u=pf b from ry);obtain⟨z,n,T,d,dd⟩:=MU I.hok e;have o:T.length<=sizeLine:=by rw[<-li d];exact z
 have t:(putK f k v).length<=sizeLine:=by have:=fV f k v;lia
 refine wpAny_setItem_heap (hsz:=o) (tupleKind_room_in1 hu) (lP I.hok B) dd λG i x=>h _ ?_;refine gzq λRz ez=>?_;obtain⟨q,K,U,j,S,J,O,_,M⟩:=i;subst ez;refine jM I (by rw[e];exact oy) x ⟨q,j⟩ ⟨t,n,_,(d.put k B rv).keeps λc W C=>?_,q,K,U,j,S,J,O,M⟩;rw[aA (Mm C e (λz=>nomatch z))];exact C
end
section
variable{σ:St}{E:ce}
def MV{Q:ce}(I:Inv X cc σ H s)(e:H a=pi (.dK kvs))(ry:bJ (kV k) u)(l:lO kvs k=pi v)(hm:more=[]\/∃x,more=[x])(h: ∀w' s',Inv X cc σ (upd H a (.dK (dropK kvs k))) s'->bJ v w'->Q w' s'):wpAny (model X.prog X.w) A (call (.builtin "dict.pop") (.ref a::u::more)) Q E s:=by
 obtain⟨z,n,f,b,dd⟩:=yV I.hok e;obtain⟨w',r,d⟩:=mL.some_of (v:=v) (o:=valueAt f k) (by rw[<-l];exact b.val k);have g:(keyPart u).isSome=qc:=by
  rcases k with i|x;obtain⟨t,q⟩:=(show ∃t,u=pd i t from ry);subst q;rfl;obtain⟨t,q⟩:=(show ∃t,u=pe x t from ry);subst q;rfl
 have y:argsOk "dict.pop" ⟨.ref a::u::more,[]⟩:=by
  rcases hm with q|⟨x,q⟩;subst q;exact PySem.F.args_dict_pop_2 _ _;subst q;exact PySem.F.args_dict_pop_3 _ _ _
 refine call_meetsIn PySem.F.slot_dict_pop dd.typeIs PySem.F.entry_dict_pop y (meets_dict_pop_there (bE X.prog X.w) a (mU ry) more hm g)
  ⟨f,w',dd,by rw[<-b.length];exact z,r,λj c p=>h w' _ ?_ d⟩
 have m: ∃q,j.get? a=pi q:=let ⟨q,_,_,hq,_⟩:=c;⟨q,hq⟩;exact jM I (by rw[e];exact oy) p m (nB (mq (Cf kvs k) z) n (b.drop k) c)
end
def MX(i:Expr):Prop:= ∀ov iv,subscripted i qe ov iv=operate [ov,iv] (getItem ov iv)
def FP{E:ce}{T id}{Q:ce}(hl:typeLookup (.type T) "__getitem__"=pure (pi (.builtin id)))(hs:MX slice)(h:wpAny (model prog w) A (eval value env) (λo s₁=>wpAny (model prog w) A (eval slice env) (λi s₂=>s₂.TypeIs o T/\wpAny (model prog w) A (getItem o i) Q E s₂) E s₁) E s):
  wpAny (model prog w) A (eval (.Subscript value slice pos) env) Q E s:=by
 refine Subscript_ (wpAny_mono h (λo s₁ d=>wpAny_mono d (λi s₂ a=>?_) λ_ _ x=>x) λ_ _ x=>x);obtain⟨f,a⟩:=a;unfold subscriptTail;refine aa ?_;rw[getitemInPython_of_ne f.not_modules];refine aa (wpAny_specialOf f hl ?_);have c:wpAny (model prog w) A (subscripted slice qe o i) (λr b=>wpAny (model prog w) A (letTemporaryGo value o r >>= λ_=>pure r) Q E b) E s₂:=by
  rw[hs o i];exact wpAny_operating (wpAny_mono a (λr b e=>aa (wpAny_letTemporaryGo (ac e))) λ_ _ x=>x)
 first
  |exact ac (aa c)
  |exact aa (ac (aa c))
  |exact aa c
def tK{σ:St}(I:Inv X cc σ H s)(g:pW H a y o):s.TypeIs (.ref a) "dict":=by rcases g with ⟨c,k,e,_,_⟩|⟨c,k,b,e,_,_,_⟩;obtain⟨_,_,f,_,dd⟩:=jL I.hok e;exact dd.typeIs;obtain⟨_,_,d,_,dd⟩:=q8 I.hok e;exact dd.typeIs
def MY(td ty:TE):TE:=λσ H Q=>td σ H λx H1=>ty σ H1 λy H2=>∃a v,x= .ref a/\pW H2 a y (pi v)/\Q v H2
def OS(ty td:TE):TE:=λσ H Q=>ty σ H λy H1=>td σ H1 λx H2=>∃a o,x= .ref a/\pW H2 a y o/\Q (.bl o.isSome) H2
def FQ(ty td:TE):TE:=λσ H Q=>ty σ H λy H1=>td σ H1 λx H2=>∃a o,x= .ref a/\pW H2 a y o/\Q (.bl (!o.isSome)) H2
def MZ(td ty tv:TE):TS:=λD σ H=>tv σ H λv H1=>td σ H1 λx H2=>ty σ H2 λy H3=>∃a H4,x= .ref a/\IL H3 a y v H4/\D.nx σ H4
def FT(hu:X.A.units+1<cLine)(ho:PE X o td)(hi:PE X i ty)(hs:MX i):PE X (.Subscript o i pos) (MY td ty):=by intro e s c H Q I h;refine FP PySem.F.slot_dict_getitem.lookup hs (thn (ho e s c H _ I h) λu j ⟨x,q,l,r,q1⟩=>thn (hi e j c q _ l q1) λiv z ⟨y,n,d,p,a,v,ex,g,f⟩=>?_);subst ex;obtain rfl:u=pf a:=r;exact⟨tK d g,yW hu d g p λt w m b=>⟨v,n,m,b,f⟩⟩
def JK(hu:X.A.units+1<cLine)(hi:PE X i ty)(ho:PE X o td):PC X .In i o (OS ty td):=by intro c s b H Q I h;refine thn (hi c s b H _ I h) λiv e ⟨y,r,f,q,q1⟩=>thn (ho c e b r _ f q1) λu v ⟨x,p,m,j,a,l,ex,g,d⟩=>?_;subst ex;obtain rfl:u=pf a:=j;exact Oa hu m g q λt n=>⟨.bl l.isSome,p,n,rfl,d⟩
def yY(hu:X.A.units+1<cLine)(hi:PE X i ty)(ho:PE X o td):PC X .NotIn i o (FQ ty td):=by intro c s b H Q I h;refine thn (hi c s b H _ I h) λiv e ⟨y,r,f,q,q1⟩=>thn (ho c e b r _ f q1) λu v ⟨x,p,m,j,a,l,ex,g,d⟩=>?_;subst ex;obtain rfl:u=pf a:=j;exact yX hu m g q λt n=>⟨.bl (!l.isSome),p,n,rfl,d⟩
def FU(hu:X.A.units+1<cLine)(ho:PE X o td)(hi:PE X i ty)(hv:PE X value tv)(hs:swapsWith value (pi (.Subscript o i pos')) pos.line X.env=pure qe):
  PS X (.Assign [.Subscript o i pos'] value pos) (MZ td ty tv):=by
 intro c s b H D I h;refine wpAny_Assign_Subscript (thn (hv c s b H _ I h) λr e ⟨v,C,j,l,q1⟩=>thn (ho c e b C _ j q1) λu p ⟨x,w,q,m,d⟩=>thn (hi c p b w _ q d) λiv G ⟨y,E,t,B,a,z,ex,g,f⟩=>?_) hs;subst ex;obtain rfl:u=pf a:=m;exact q9 hu t g B l λJ n=>⟨b,z,n,f⟩
def oG(h:Heap)(hb:sysModules<h.objs.size):ObjOk P w H (h.push {cls:=.type "dict",data:=.dict #[]}) h.objs.size (.dK []):=
 ⟨bu _,beq_eq_false_iff_ne.mpr (qa (bh hb)),[],.nil,Heap.DictOf.new h⟩
def JL:TE:=λ_ H Q=>∀p,H p=qb->Q (.ref p) (upd H p (.dK []))
def u4:PE X (.Dict [] [] pos) JL:=λc s b H Q I h=>
 wpAny_Dict_empty ⟨.ref s.z,_,I.laid (a:=s.z) (o:=.dK []) (t':=s.toks) (λ_ _ q=>ae _ q) (aj _) (oG s.heap I.bigK),rfl,h _ (I.hok.fresh (aj _))⟩
def yZ:L1 (TE×TE)->St->Hp->(L1 (V×V)->Hp->Prop)->Prop
 |[],_,H,Q=>Q [] H
 |(tk,tv)::r,σ,H,Q=>tk σ H λx H1=>tv σ H1 λy H2=>yZ r σ H2 λps H3=>Q ((x,y)::ps) H3
abbrev VV:L1 (V×V)->L1 (Value×Value)->Prop:=Paired λp q=>bJ p.1 q.1/\bJ p.2 q.2
def PPs(X:Cx)(pos:Pos)(keys:L1 (L7 Expr))(values:L1 Expr)(trs:L1 (TE×TE)):Prop:=
 ∀(cc:cf) (s:Shared) (σ:St) (H:Hp) (Q:L1 (V×V)->Hp->Prop),Inv X cc σ H s->yZ trs σ H Q->
  X.wp (evalPairs (pairTrees keys values X.env pos)) (λvs s'=>∃ps H',Inv X cc σ H' s'/\VV ps vs/\Q ps H') X.xe s
def y0:PPs X pos [] [] []:=λb s a H Q I h=>pairTrees_nil_walk ⟨[],H,I,.nil,h⟩
def oH(hk:PE X k tk)(hv:PE X v tv)(hr:PPs X pos ks vs trs):
  PPs X pos (pi k::ks) (v::vs) ((tk,tv)::trs):=λd s b H Q I h=>
 pairTrees_cons_walk (thn (hk d s b H _ I h) λu g ⟨x,r,i,t,q1⟩=>thn (hv d g b r _ i q1) λw m ⟨y,p,n,q,e⟩=>
  thn (hr d m b p _ n e) λA z c=>by obtain⟨l,j,o,a,f⟩:=c;exact⟨(x,y)::l,j,o,.cons ⟨t,q⟩ a,f⟩)
noncomputable def iE(kvs more:L1 (Key×V)):L1 (Key×V):=more.foldl (λacc kv=>putK acc kv.1 kv.2) kvs
def KV.merge: ∀{more} {rs} {kvs} {vs},KV more rs->KV kvs vs->KV (iE kvs more) (merged vs rs):=by
 intro more rs kvs vs r;unfold KV at r;induction r generalizing kvs vs with
 |nil=>intro q;exact q
 |@cons p q c d h t a=>
  intro b;have e:KV (putK kvs p.1 p.2) (stored vs q.1 q.2):=by
   have:=b.put p.1 h.2;rw[<-h.1];exact this
  exact a e
theorem iV: ∀more kvs,(iE kvs more).length<=kvs.length+more.length
 |[],kvs=>by show kvs.length<=kvs.length+0;lia
 |p::r,kvs=>by
  have a:=iV r (putK kvs p.1 p.2);have b:=fV kvs p.1 p.2;show(iE (putK kvs p.1 p.2) r).length<=_;rw[bq];lia
theorem nC{P}{w}: ∀{kvs} {ws},VV (kvs.map λkv=>(kV kv.1,kv.2)) ws->∃rs,Carries (bE P w) ws rs/\KV kvs rs
 |[],_,r=>by rw[nj]at r;cases r;exact⟨[],oy,.nil⟩
 |p::kvs,_,r=>by
  rw[lm]at r;cases r with
  |@cons a b f bs h t=>
   obtain⟨rs,c,q⟩:=nC (P:=P) (w:=w) t;obtain⟨e,d⟩:=b;exact⟨(p.1,d)::rs,⟨mU h.1,rfl,c⟩,.cons ⟨rfl,h.2⟩ q⟩
def M3(trs:L1 (TE×TE)):TE:=λσ H Q=>∀p,H p=qb->yZ trs σ (upd H p (.dK [])) λps H2=>H2 p=pi (.dK [])/\∃kvs:L1 (Key×V),ps=kvs.map (λkv=>(kV kv.1,kv.2))/\kvs.length<=15/\Q (.ref p) (upd H2 p (.dK (iE [] kvs)))
def y3(h:PPs X pos keys values trs)(hall:keys.all (·.isSome)=qc)(hl:keys.length=values.length)(h0:keys≠[])(h15:keys.length<=15):PE X (.Dict keys values pos) (M3 trs):=by
 intro u s m H Q I q;have C:=I.hok.fresh (aj s.z);have l:=I.laid (a:=s.z) (o:=.dK []) (h':=s.heap.push {cls:=.type "dict",data:=.dict #[]}) (t':=s.toks) (λ_ _ q=>ae _ q) (aj _) (oG s.heap I.bigK);refine wpAny_Dict_walk (knd:=bE X.prog X.w) hall hl h0 h15 (thn (h u _ m _ _ l (q _ C)) λK G g=>?_);obtain⟨E,J,i,f,e,d,y,lk,j⟩:=g;subst y;obtain⟨B,c,rk⟩:=nC (P:=X.prog) (w:=X.w) f;obtain⟨z,p,t,x,dd⟩:=yV i.hok e;cases x;refine⟨B,c,dd,λh' b v=>⟨.ref s.z,_,?_,rfl,j⟩⟩;have r:(iE [] d).length<=sizeLine:=by
  have A:=iV d [];rw[ki]at A;rw[sizeLine_eq];lia
 have n: ∃q,h'.get? s.z=pi q:=let ⟨q,_,_,hq,_⟩:=b;⟨q,hq⟩;exact jM i (by rw[e];exact oy) v n (nB r p (rk.merge .nil) b)
structure M1(X:Cx)(o:Expr)(m:Str)(apos:Pos)(e:Expr)(cpos:Pos):Prop where
 base:attributeBase o m X.env (eval o X.env)=eval o X.env
 few:((backTo cpos (starEach [e] X.env)).all (λx=> !x.1)&&(backToKw cpos (keywordEach [] X.env)).all (λx=>x.1.isSome)
  &&decide (([e]:List Expr).length+([]:List Keyword).length+(if([]:List Keyword).isEmpty then 0 else 1)<30))=qc
 line:(apos.endLine==cpos.line)=qc
 trees:backTo cpos (starEach [e] X.env)=[(qe,eval e X.env)]
structure M2(X:Cx)(o:Expr)(m:Str)(apos:Pos)(e f:Expr)(cpos:Pos):Prop where
 base:attributeBase o m X.env (eval o X.env)=eval o X.env
 few:((backTo cpos (starEach [e,f] X.env)).all (λx=> !x.1)&&(backToKw cpos (keywordEach [] X.env)).all (λx=>x.1.isSome)
  &&decide (([e,f]:List Expr).length+([]:List Keyword).length+(if([]:List Keyword).isEmpty then 0 else 1)<30))=qc
 line:(apos.endLine==cpos.line)=qc
 trees:backTo cpos (starEach [e,f] X.env)=[(qe,eval e X.env),(qe,eval f X.env)]
def IsD(H:Hp)(a:Addr):Prop:=(∃kvs,Rd H a (.dK kvs))\/∃kvs,Rd H a (.dT kvs)
def y6{σ:St}(I:Inv X cc σ H s)(d:IsD H a):
  s.TypeIs (.ref a) "dict"/\(∀b,pf a= .ref b->∃ob,s.heap.get? b=pi ob/\ob.dict=qb)/\(a==sysModules)=qe:=by
 rcases d with ⟨c,e⟩|⟨c,e⟩;obtain⟨_,g,j,_,dd⟩:=jL I.hok e;refine⟨dd.typeIs,λb q=>?_,g⟩;cases q;obtain⟨ob,_,_,h,f,_⟩:=dd;exact⟨ob,h,f.2.1⟩;obtain⟨_,g,i,_,dd⟩:=q8 I.hok e;refine⟨dd.typeIs,λb q=>?_,g⟩;cases q;obtain⟨ob,_,_,h,f,_⟩:=dd;exact⟨ob,h,f.2.1⟩
section
variable{σ:St}{E:ce}
def JM{Q:ce}(hu:A.units+1<cLine)(I:Inv X cc σ H s)(g:pW H a y o)(ry:bJ y u)(h: ∀w' s',Inv X cc σ H s'->bJ (o.getD .non) w'->Q w' s'):
  wpAny (model X.prog X.w) A (call (.builtin "dict.get") [.ref a,u]) Q E s:=by
 rcases g with ⟨f,k,e,d,l⟩|⟨f,k,b,e,d,j,l⟩;subst d;obtain⟨z,i,n,c,dd⟩:=jL I.hok e;refine call_meetsIn fx dd.typeIs fj (PySem.F.args_dict_get_2 _ _) (meets_dict_get (bE X.prog X.w) a (mU ry) i) ⟨_,dd.mapOf,h _ _ (I.tok _) ?_⟩;rw[l];exact(c.val k).getD rfl;subst d;cases (show u=pf b from ry);obtain⟨z,i,m,c,dd⟩:=q8 I.hok e;refine call_meetsIn fx dd.typeIs fj (PySem.F.args_dict_get_2 _ _) (meetsH_dict_get (tupleKind (bE X.prog X.w)) a b i) ⟨tupleKind_room_in1 hu,k,m,lP I.hok j,dd,h _ _ (I.tok _) ?_⟩;rw[l];exact(c.val k).getD rfl
def JN{Q:ce}(hu:A.units+1<cLine)(I:Inv X cc σ H s)(g:pW H a y o)(ry:bJ y u)(rd:bJ d r)(h: ∀w' s',Inv X cc σ H s'->bJ (o.getD d) w'->Q w' s'):
  wpAny (model X.prog X.w) A (call (.builtin "dict.get") [.ref a,u,r]) Q E s:=by
 rcases g with ⟨i,k,e,f,l⟩|⟨i,k,b,e,f,m,l⟩;subst f;obtain⟨z,j,p,c,dd⟩:=jL I.hok e;refine call_meetsIn fx dd.typeIs fj (PySem.F.args_dict_get_3 _ _ _) (meets_dict_get_default (bE X.prog X.w) a (mU ry) j r) ⟨_,dd.mapOf,h _ _ (I.tok _) ?_⟩;rw[l];exact(c.val k).getD rd;subst f;cases (show u=pf b from ry);obtain⟨z,j,n,c,dd⟩:=q8 I.hok e;refine call_meetsIn fx dd.typeIs fj (PySem.F.args_dict_get_3 _ _ _) (meetsH_dict_get_default (tupleKind (bE X.prog X.w)) a b j r) ⟨tupleKind_room_in1 hu,k,n,lP I.hok m,dd,h _ _ (I.tok _) ?_⟩;rw[l];exact(c.val k).getD rd
end
def JO(td ty:TE):TE:=λσ H Q=>td σ H λx H1=>∃a,x= .ref a/\IsD H1 a/\ty σ H1 λy H2=>∃o,pW H2 a y o/\Q (o.getD .non) H2
def JP(td ty tx:TE):TE:=λσ H Q=>td σ H λx H1=>∃a,x= .ref a/\IsD H1 a/\ty σ H1 λy H2=>tx σ H2 λz H3=>∃o,pW H3 a y o/\Q (o.getD z) H3
def Ee(td ty:TE):TE:=λσ H Q=>td σ H λx H1=>∃a,x= .ref a/\IsD H1 a/\ty σ H1 λy H2=>∃kvs k v,H2 a=pi (.dK kvs)/\y=kV k/\lO kvs k=pi v/\Q v (upd H2 a (.dK (dropK kvs k)))
def Cg(hu:X.A.units+1<cLine)(ho:PE X o td)(he:PE X e ty)(m:M1 X o "get" apos e cpos):PE X (.Call (.Attribute o "get" apos) [e] [] cpos) (JO td ty):=by intro j s i H Q I h;refine wpAny_Call_method m.base m.few m.line eo fx PySem.F.type_dict_get (thn (ho j s i H _ I h) λu n c=>?_);obtain⟨x,w,f,z,a,ex,d,q1⟩:=c;subst ex;obtain rfl:u=pf a:=z;obtain⟨B,p,_⟩:=y6 f d;refine⟨B,p,?_⟩;rw[m.trees];refine fh rfl (gf (ii (thn (he j n i w _ f q1) λiv J ⟨y,t,q,v,G,g,l⟩=>i4 ?_)));exact JM hu q g v λC E r b=>⟨_,t,r,b,l⟩
def Ch(hu:X.A.units+1<cLine)(ho:PE X o td)(he:PE X e ty)(hf:PE X f tx)(m:M2 X o "get" apos e f cpos):PE X (.Call (.Attribute o "get" apos) [e,f] [] cpos) (JP td ty tx):=by
 intro c s b H Q I h;refine wpAny_Call_method m.base m.few m.line eo fx PySem.F.type_dict_get (thn (ho c s b H _ I h) λu E j=>?_);obtain⟨x,B,l,M,a,ex,d,q1⟩:=j;subst ex;obtain rfl:u=pf a:=M;obtain⟨C,G,_⟩:=y6 l d;refine⟨C,G,?_⟩;rw[m.trees];refine fh rfl (gf (ii (thn (he c E b B _ l q1) λiv K ⟨y,v,r,w,n⟩=>
  ii (thn (hf c K b v _ r n) λT N ⟨z,q,t,L,O,g,p⟩=>i4 ?_))))
 exact JN hu t g w L λU S J i=>⟨_,q,J,i,p⟩
def Ci(ho:PE X o td)(he:PE X e ty)(m:M1 X o "pop" apos e cpos):PE X (.Call (.Attribute o "pop" apos) [e] [] cpos) (Ee td ty):=by intro g s f H Q I h;refine wpAny_Call_method m.base m.few m.line eo PySem.F.slot_dict_pop PySem.F.type_dict_pop (thn (ho g s f H _ I h) λu B c=>?_);obtain⟨x,z,i,n,a,ex,d,q1⟩:=c;subst ex;obtain rfl:u=pf a:=n;obtain⟨A,C,_⟩:=y6 i d;refine⟨A,C,?_⟩;rw[m.trees];refine fh rfl (gf (ii (thn (he g B f z _ i q1) λiv L ⟨y,J,q,w,E,k,v,t,p,l,j⟩=>i4 ?_)));subst p;exact MV q t w l (.inl rfl) λK G r b=>⟨v,_,r,b,j⟩
section
variable{σ:St}{E:ce}
def u6{Q:ce}(I:Inv X cc σ H s)(e:Rd H a (.dK kvs))(h: ∀p s',H p=qb->Inv X cc σ (upd H p (.dK kvs)) s'->Q (.ref p) s'):wpAny (model X.prog X.w) A (call (.type "dict") [.ref a]) Q E s:=by obtain⟨z,g,l,c,dd⟩:=jL I.hok e;refine kt_call_dict g dd (by rw[<-c.length];exact z) λj d i=>?_;refine h _ _ (I.hok.fresh (aj _)) (I.laid (a:=s.z) (o:=.dK kvs) (t':=s.toks) (λb q f=>?_) (aj _) (nB z (beq_eq_false_iff_ne.mpr (qa (bh I.bigK))) c d));exact(i.2 b (bh (ah f))).trans (ae _ f)
end
section
variable {κ:Type} [DecidableEq κ]
end
end L2
namespace SK
open PySem PySem.Spec PyProof.Rows L2
section
variable{X:Cx}{ad:Ad}{cc:cf}{s:Shared}{σ:St}{H G:Hp}{E:Nat->Hp->Prop}{a b c:Expr}{f g h:F}
mutual
theorem fB(I:Inv X cc σ H s)(hG:Same G H): ∀{d:D} {v:V} {u:Value},plain d=qc->Rep X.K ad G d v->bJ v u->∃as,Reads s.heap u (eJ d) as
 |.non,v,u,_,h,r=>by
  unfold Rep at h;subst h;cases r;unfold eJ;exact⟨_,.none⟩
 |.bl b,v,u,_,h,r=>by
  unfold Rep at h;subst h;cases r;unfold eJ;exact⟨_,.bool b⟩
 |.int i,v,u,_,h,r=>by
  unfold Rep at h;subst h;obtain⟨t,rfl⟩:=r;unfold eJ;exact⟨_,.int i t⟩
 |.str x,v,u,_,h,r=>by
  unfold Rep at h;subst h;obtain⟨t,rfl⟩:=r;unfold eJ;exact⟨_,.str x t⟩
 |.tup ds,v,u,p,h,r=>by
  unfold Rep at h;obtain⟨a,w,rfl,q,c⟩:=h;cases r;refine gzq λRz ez=>?_;obtain⟨e,f,⟨o,j,m,n,l⟩,_⟩:=I.tuple (hG.seqT q);obtain⟨as,g⟩:=iK I hG (by simpa[plain]using p) c f;subst ez;unfold eJ;exact⟨_,.tuple j m l (by simpa using g)⟩
 |.lst ds,v,u,p,h,r=>by
  unfold Rep at h;obtain⟨a,w,rfl,q,c⟩:=h;cases r;refine gzq λRz ez=>?_;obtain⟨e,f,⟨o,n,j,m,_,l⟩,_⟩:=I.list (hG.seq q);obtain⟨as,g⟩:=iK I hG (by simpa[plain]using p) c f;subst ez;unfold eJ;exact⟨_,.list j m l (by simpa using g)⟩
 |.exc _,_,_,p,_,_=>by simp[plain]at p
 |.fn _,_,_,p,_,_=>by simp[plain]at p
theorem iK(I:Inv X cc σ H s)(hG:Same G H): ∀{ds:L1 D} {vs:L1 V} {us:L1 Value},cE ds=qc->aK X.K ad G ds vs->b9 vs us->∃as,ReadsAll s.heap us (gA ds) as
 |[],vs,us,_,h,r=>by
  unfold aK at h;subst h;cases r;unfold gA;exact⟨_,.nil⟩
 |d::ds,vs,us,p,h,r=>by
  unfold aK at h;obtain⟨v,i,rfl,g,b⟩:=h;have a:plain d=qc/\cE ds=qc:=by simpa[cE]using p
  cases r with
  |cons f e=>
   obtain⟨as,q1⟩:=fB I hG a.1 g f;obtain⟨bs,c⟩:=iK I hG a.2 b e;unfold gA;exact⟨_,.cons q1 c⟩
end
def kP(h:iO x y=qc):plain x=qc/\plain y=qc/\min (dep x) (dep y)<=60:=by unfold iO at h;rw[aw,aw]at h;exact⟨h.1.1,h.1.2,of_decide_eq_true h.2⟩
def y8(hu:A.units+61<cLine)(I:Inv X cc σ H s)(hG:Same G H)(h:iO x y=qc)(rx:Rep X.K ad G x v)(ry:Rep X.K ad G y w)(ru:bJ v u)(rz:bJ w z):
  SeqAt.EqAt A s u z (deq x y):=by
 refine gzq λRz ez=>?_;obtain⟨a,b,e⟩:=kP h;obtain⟨d,q1⟩:=fB I hG a rx ru;obtain⟨bs,c⟩:=fB I hG b ry rz;subst ez;rw[<-lM x y a b];exact SeqAt.eqAt_reads (eJ x) (eJ y) A s u z d bs q1 c (kC a) (kC b) (by rw[lL,lL];lia)
def nD(r:Rep X.K ad G x v):decide (v= .non)=n6 x:=by
 cases x with
 |bl a=>unfold Rep at r;subst r;rfl
 |non=>unfold Rep at r;subst r;rfl
 |int _=>unfold Rep at r;subst r;rfl
 |str _=>unfold Rep at r;subst r;rfl
 |tup _=>unfold Rep at r;obtain⟨p,_,rfl,_⟩:=r;rfl
 |lst _=>unfold Rep at r;obtain⟨p,_,rfl,_⟩:=r;rfl
 |exc _=>unfold Rep at r;obtain⟨p,rfl,_⟩:=r;rfl
 |fn _=>unfold Rep at r;subst r;rfl
 |dct _ _=>unfold Rep at r;obtain⟨p,_,_,rfl,_⟩:=r;rfl
def rB{y}{ys}{w}(e:items y=pi ys)(r:Rep X.K ad G y w): ∃a vs,w= .ref a/\(SqT X.K G a vs\/SqL X.K G a vs)/\aK X.K ad G ys vs:=by
 cases y with
 |tup _=>cases e;unfold Rep at r;obtain⟨a,vs,d,c,b⟩:=r;exact⟨a,vs,d,.inl c,b⟩
 |lst _=>cases e;unfold Rep at r;obtain⟨a,vs,d,c,b⟩:=r;exact⟨a,vs,d,.inr c,b⟩
 |_=>cases e
theorem u7: ∀{ys} {vs} {us},aK X.K ad G ys vs->b9 vs us->∀u∈us, ∃d∈ys, ∃v,Rep X.K ad G d v/\bJ v u
 |[],vs,us,h,r,u,hu=>by
  unfold aK at h;subst h;cases r;cases hu
 |d::ds,vs,us,h,r,u,hu=>by
  unfold aK at h;obtain⟨v,j,rfl,g,a⟩:=h;cases r with
  |cons f e=>
   rcases av.mp hu with rfl|hu;exact⟨d,.head _,v,g,f⟩;obtain⟨c,b,i,q⟩:=u7 a e u hu;exact⟨c,.tail _ b,i,q⟩
theorem u8 p q: ∀{ys} {vs} {us},aK X.K ad G ys vs->b9 vs us->(∀d∈ys, ∀v u,Rep X.K ad G d v->bJ v u->q u=p d)->us.any q=ys.any p
 |[],vs,us,h,r,_=>by
  unfold aK at h;subst h;cases r;rfl
 |d::ds,vs,us,h,r,k=>by
  unfold aK at h;obtain⟨v,i,rfl,f,a⟩:=h;cases r with
  |cons e c=>
   rw[lr,lr,k d (.head _) v _ f e,u8 p q a c λb g=>k b (.tail _ g)]
theorem nE p q: ∀{ys} {vs} {us},aK X.K ad G ys vs->b9 vs us->(∀d∈ys, ∀v u,Rep X.K ad G d v->bJ v u->q u=p d)->us.countP q=ys.countP p
 |[],vs,us,h,r,_=>by
  unfold aK at h;subst h;cases r;rfl
 |d::ds,vs,us,h,r,k=>by
  unfold aK at h;obtain⟨v,i,rfl,f,a⟩:=h;cases r with
  |cons e c=>
   rw[List.countP_cons,List.countP_cons,k d (.head _) v _ f e,nE p q a c λb g=>k b (.tail _ g)]
theorem rC p q: ∀{ys} {vs} {us},aK X.K ad G ys vs->b9 vs us->(∀d∈ys, ∀v u,Rep X.K ad G d v->bJ v u->q u=p d)->us.findIdx? q=ys.findIdx? p
 |[],vs,us,h,r,_=>by
  unfold aK at h;subst h;cases r;rfl
 |d::ds,vs,us,h,r,k=>by
  unfold aK at h;obtain⟨v,i,rfl,f,a⟩:=h;cases r with
  |cons e c=>
   rw[ik,ik,k d (.head _) v _ f e,rC p q a c λb g=>k b (.tail _ g)]
open Classical in
def u9(hu:X.A.units+62<cLine)(I:Inv X cc σ H s)(hG:Same G H)(h:uU x ys=qc)(rx:Rep X.K ad G x v)(ru:bJ v u)(r:aK X.K ad G ys vs)(rv:b9 vs its):
  ∃e,(∀y,y∈its.toArray->SeqAt.EqAt X.A.in1 s y u (e y))/\its.toArray.any e=(ys.any λy=>deq y x)/\its.countP e=(ys.countP λy=>deq y x)/\its.findIdx? e=ys.findIdx? λy=>deq y x:=by
 have ok: ∀d∈ys,iO d x=qc:=λd b=>zAd h d b;have a: ∀d∈ys, ∀g f,Rep X.K ad G d g->bJ g f->(decide (∃d' c,plain d'=qc/\Reads s.heap f (eJ d') c/\pb (eJ d') (eJ x)=qc))=deq d x:=λd b g f j i=>by
  obtain⟨l,n,_⟩:=kP (ok d b);obtain⟨c,q1⟩:=fB I hG l j i;rw[<-lM d x l n];by_cases z:pb (eJ d) (eJ x)=qc;rw[z];exact decide_eq_true ⟨d,c,l,q1,z⟩;rw[Bool.not_eq_true]at z;rw[z];refine decide_eq_false ?_;rintro⟨d',as',p',q',z'⟩;have:=SeqAt.Reads.unique (eJ d) (eJ d') f c as' (kC l) q1 q';rw[<-this,z]at z';cases z'
 refine⟨λf=>decide (∃d' c,plain d'=qc/\Reads s.heap f (eJ d') c/\pb (eJ d') (eJ x)=qc),λy m=>?_,?_,nE _ _ r rv a,rC _ _ r rv a⟩;obtain⟨d,b,g,j,i⟩:=u7 r rv y (by simpa using m);have:=y8 (A:=X.A.in1) (by show X.A.units+1+61<_;lia) I hG (ok d b) j rx i ru;rw[<-a d b g y j i]at this;exact this;rw[List.any_toArray];exact u8 _ _ r rv a
theorem rD{x}: ∀{ks:L1 Str} {ds} {es:L1 (Key×V)},es.map (·.1)=ks.map pu->aK X.K ad G ds (es.map (·.2))->(lO es (.inr x)=qb/\bC (ks.zip ds) x=qb/\ks.contains x=qe)\/∃v d,lO es (.inr x)=pi v/\bC (ks.zip ds) x=pi d/\Rep X.K ad G d v/\d∈ds/\ks.contains x=qc
 |[],ds,[],_,_=>.inl ⟨rfl,rfl,rfl⟩
 |[],_,_::_,h,_=>by simp at h
 |_::_,_,[],h,_=>by simp at h
 |k::ks,ds,(q,v)::es,h1,h2=>by
  rw[lm,lm]at h1;obtain⟨n,j⟩:=ly h1;rw[lm]at h2;rcases ds with _|⟨d,ds⟩;unfold aK at h2;cases h2;unfold aK at h2;obtain⟨t,u,m,r,l⟩:=h2;cases m;have b:q= .inr k:=n;subst b;by_cases z:k=x;subst z;exact .inr ⟨v,d,iU rfl,by simp[bC],r,.head _,by simp⟩;have g: ¬((pu k:Key)= .inr x):=λy=>z (by injection y);have i: ¬x=k:=λy=>z y.symm;rcases rD (x:=x) j l with ⟨f,c,a⟩|⟨w,e,f,c,a,o,s⟩;exact .inl ⟨(gY (p:=(pu k,v)) g).trans f,by simpa[bC,z]using c,by simpa[i]using a⟩;exact .inr ⟨w,e,(gY (p:=(pu k,v)) g).trans f,by simpa[bC,z]using c,a,.tail _ o,by simpa[i]using s⟩
theorem y9{A}(hu:A.units+61<cLine)(I:Inv X cc σ H s)(hG:Same G H){ls:L1 Str}{ws}{eb:L1 (Key×V)}{kb}(b1:eb.map (·.1)=ls.map pu)(b2:aK X.K ad G ws (eb.map (·.2)))(b3:KV eb kb):
  ∀{ks:L1 Str} {ds} {ea:L1 (Key×V)} {ka},(∀d∈ds, ∀e∈ws,iO d e=qc)->ea.map (·.1)=ks.map pu->aK X.K ad G ds (ea.map (·.2))->KV ea ka->
   PySem.W.KeqHits A s kb ka ((ks.zip ds).all λp=>match bC (ls.zip ws) p.1 with|some w=>deq p.2 w|none=>qe)
 |[],ds,[],_,_,_,_,.nil=>.nil
 |[],_,_::_,_,_,h,_,_=>by simp at h
 |_::_,_,[],_,_,h,_,_=>by simp at h
 |k::ks,ds,(q,v)::es,(q',u)::ka,ok,h1,h2,.cons h3 h4=>by
  rw[lm,lm]at h1;obtain⟨r,j⟩:=ly h1;rw[lm]at h2;rcases ds with _|⟨d,ds⟩;unfold aK at h2;cases h2;unfold aK at h2;obtain⟨L,M,m,C,l⟩:=h2;cases m;obtain⟨E,B⟩:=h3;have c:q= .inr k:=r;have b:q=q':=E;subst b;subst c;have dZ:=y9 hu I hG b1 b2 b3 (ks:=ks) (ds:=ds) (ea:=es) (ka:=ka) (λd o e n=>ok d (.tail _ o) e n) j l h4;rw[List.zip_cons_cons,lz];have a:=b3.val (.inr k);rcases rD (x:=k) b1 b2 with ⟨g,f,_⟩|⟨w,e,g,f,t,z,_⟩;rw[g]at a;simp only[f,Bool.false_and];exact .miss (mL.none_of a);rw[g]at a;obtain⟨y,i,J⟩:=mL.some_of a;simp only[f];exact .hit i (y8 hu I hG (ok d (.head _) e z) C t B J) dZ
def Ef{ks:L1 Str}{es:L1 (Key×V)}(h1:es.map (·.1)=ks.map pu)(h2:aK X.K ad G ds (es.map (·.2))):(ks.zip ds).length=es.length:=by have a:=congrArg og h1;have b:=h2.length;simp at a b;simp[<-a, <-b]
def Eg(hu:X.A.units+62<cLine)(I:Inv X cc σ H s)(hG:Same G H)(rx:Rep X.K ad G x v)(ry:Rep X.K ad G y w)(ru:bJ v u)(rz:bJ w z)(hr:RK X.K ad G H (n9 neg x y) Q E):
  X.wp (compareOp (if neg then .NotEq else .Eq) u z) (EP X cc σ Q) X.xe s:=by
 cases x<;>try exact ba hr
 cases y<;>try exact ba hr
 rename_i J h l g;have c:RK X.K ad G H (if(h.all λd=>g.all λe=>iO d e)=qc then .ok (.bl (neg != D6 (J.zip h) (l.zip g)))else .bad) Q E:=hr;by_cases i:(h.all λd=>g.all λe=>iO d e)=qc;rw[if_pos i]at c;unfold Rep at rx ry;obtain⟨a,N,ea,rfl,S,p,n⟩:=rx;obtain⟨b,U,eb,rfl,O,j,M⟩:=ry;cases (show u=pf a from ru);cases (show z=pf b from rz);obtain⟨z1,r,T,L,q⟩:=jL I.hok (.inr ⟨N,hG _ _ S⟩);obtain⟨z2,C,kb,t,m⟩:=jL I.hok (.inr ⟨U,hG _ _ O⟩);have ok: ∀d∈h, ∀e∈g,iO d e=qc:=λd Z e Y=>zAd (zAd i d Z) e Y;have f:=y9 (A:=X.A.in1) (by show X.A.units+1+61<_;lia) I hG j M t ok p n L;have B:T.length=(J.zip h).length:=by rw[Ef p n];exact(KV.length L).symm
 have o:kb.length=(l.zip g).length:=by rw[Ef j M];exact(KV.length t).symm
 cases neg;refine PySem.W.keq_eq r C q m (by lia) (λ_=>f) ?_;rw[B,o];exact⟨.bl _,H,I,rfl,c.ok_now hG (by unfold Rep D6;rw[Bool.false_bne]<;>rfl)⟩;refine PySem.W.keq_ne r C q m (by lia) (λ_=>f) ?_;rw[B,o];exact⟨.bl _,H,I,rfl,c.ok_now hG (by unfold Rep D6;rw[Bool.true_bne]<;>rfl)⟩;rw[if_neg i]at c;exact c.elim
def Eh(hu:X.A.units+1<cLine)(I:Inv X cc σ H s)(hG:Same G H)(rx:Rep X.K ad G (.str x) v)(ry:Rep X.K ad G (.dct ks ds) w)(ru:bJ v u)(rz:bJ w z)(hr:RK X.K ad G H (.ok (.bl (neg != ks.contains x))) Q E):
  X.wp (compareOp (if neg then .NotIn else .In) u z) (EP X cc σ Q) X.xe s:=by
 unfold Rep at rx ry;subst rx;obtain⟨a,o,d,rfl,g,j,h⟩:=ry;cases (show z=pf a from rz);have e:(lO d (.inr x)).isSome=ks.contains x:=by
  rcases rD (x:=x) j h with ⟨b,_,c⟩|⟨_,_,b,_,_,_,c⟩;rw[b,c];rfl;rw[b,c];rfl
 have D:pW H a (.str x) (lO d (.inr x)):=.inl ⟨d,.inr x,.inr ⟨o,hG _ _ g⟩,rfl,rfl⟩;cases neg;refine Oa hu I D ru λi f=>?_;rw[e];exact⟨.bl _,H,f,rfl,hr.ok_now hG (by unfold Rep;simp)⟩;refine yX hu I D ru λi f=>?_;rw[e];exact⟨.bl _,H,f,rfl,hr.ok_now hG (by unfold Rep;simp)⟩
def zIq{k}:inS x y k= .bad\/∃i ks vs,x=.str i/\y=.dct ks vs:=by
 cases x<;>try exact .inl rfl
 cases y<;>try exact .inl rfl
 exact .inr ⟨_,_,_,rfl,rfl⟩
def zEq(h:op=.Lt\/op=.Gt\/op=.GtE):dR op x y= .bad\/∃i j,x=.int i/\y=.int j:=by
 cases x<;>try(rcases h with rfl|rfl|rfl<;>exact .inl rfl)
 cases y<;>try(rcases h with rfl|rfl|rfl<;>exact .inl rfl)
 exact .inr ⟨_,_,rfl,rfl⟩
def zFq:dR .LtE x y= .bad\/(∃i j,x=.int i/\y=.int j)\/∃i j,x=.str i/\y=.str j:=by
 cases x<;>try exact .inl rfl
 all_goals cases y<;>try exact .inl rfl
 exact .inr (.inl ⟨_,_,rfl,rfl⟩)
 exact .inr (.inr ⟨_,_,rfl,rfl⟩)
def zGq(h:op=.Is\/op=.IsNot):dR op x y= .bad\/y=.non:=by
 cases y<;>try(rcases h with rfl|rfl<;>exact .inl rfl)
 exact .inr rfl
def gH op(hu:X.A.units+62<cLine):DOp X ad (compareOp op) (dR op):=by
 intro r s q H G x y v w u z Q E I b d c h l f;cases op with
 |Eq=>
  have a:RK X.K ad G H (if iO x y then R.ok (.bl (deq x y))else n9 qe x y) Q E:=f;by_cases m:iO x y=qc;rw[if_pos m]at a;obtain⟨n,o,W⟩:=kP m;obtain⟨U,q1⟩:=fB I b n d h;obtain⟨bs,L⟩:=fB I b o c l;exact SeqAt.compareEq_reads q1 L (kC n) (kC o) (by rw[lL,lL];lia) (by rw[lM x y n o];exact⟨.bl _,H,I,rfl,a.ok_now b cS⟩);rw[if_neg m]at a;exact Eg (neg:=qe) hu I b d c h l a
 |NotEq=>
  have a:RK X.K ad G H (if iO x y then R.ok (.bl (!deq x y))else n9 qc x y) Q E:=f;by_cases m:iO x y=qc;rw[if_pos m]at a;obtain⟨n,o,W⟩:=kP m;obtain⟨U,q1⟩:=fB I b n d h;obtain⟨bs,L⟩:=fB I b o c l;exact SeqAt.neOverData X.prog X.w X.A X.xe s u z (eJ x) (eJ y) U bs _ q1 L (kC n) (kC o) (by rw[lL,lL];lia) (by rw[lM x y n o];exact⟨.bl _,H,I,rfl,a.ok_now b cS⟩);rw[if_neg m]at a;exact Eg (neg:=qc) hu I b d c h l a
 |Lt=>
  rcases zEq (x:=x) (y:=y) (.inl rfl) with a|⟨i,j,rfl,rfl⟩;rw[a]at f;exact f.elim;unfold Rep at d c;subst d;subst c;exact MB r s q H _ _ u z Q I h l ⟨_,_,rfl,rfl,f.ok_now b cS⟩
 |LtE=>
  rcases zFq (x:=x) (y:=y) with a|⟨i,j,rfl,rfl⟩|⟨i,j,rfl,rfl⟩;rw[a]at f;exact f.elim;unfold Rep at d c;subst d;subst c;exact MC r s q H _ _ u z Q I h l ⟨_,_,rfl,rfl,f.ok_now b cS⟩;unfold Rep at d c;subst d;subst c;obtain⟨t,rfl⟩:=(show ∃t,u=pe i t from h);obtain⟨Z,rfl⟩:=(show ∃t,z=pe j t from l);exact PySem.P.le_str ⟨.bl _,H,I,rfl,f.ok_now b cS⟩
 |Gt=>
  rcases zEq (x:=x) (y:=y) (.inr (.inl rfl)) with a|⟨i,j,rfl,rfl⟩;rw[a]at f;exact f.elim;unfold Rep at d c;subst d;subst c;exact MD r s q H _ _ u z Q I h l ⟨_,_,rfl,rfl,f.ok_now b cS⟩
 |GtE=>
  rcases zEq (x:=x) (y:=y) (.inr (.inr rfl)) with a|⟨i,j,rfl,rfl⟩;rw[a]at f;exact f.elim;unfold Rep at d c;subst d;subst c;exact MF r s q H _ _ u z Q I h l ⟨_,_,rfl,rfl,f.ok_now b cS⟩
 |Is=>
  rcases zGq (x:=x) (y:=y) (.inl rfl) with a|rfl;rw[a]at f;exact f.elim;unfold Rep at c;subst c;exact Jq r s q H _ _ u z Q I h l ⟨rfl,by rw[nD d];exact f.ok_now b cS⟩
 |IsNot=>
  rcases zGq (x:=x) (y:=y) (.inr rfl) with a|rfl;rw[a]at f;exact f.elim;unfold Rep at c;subst c;exact Fo r s q H _ _ u z Q I h l ⟨rfl,by rw[nD d];exact f.ok_now b cS⟩
 |In=>
  rcases zIq (x:=x) (y:=y) (k:=qe) with a|⟨i,ks,vs,rfl,rfl⟩;have g:RK X.K ad G H (inS x y qe) Q E:=f;rw[a]at g;exact g.elim;exact Eh (neg:=qe) (by lia) I b d c h l f
 |NotIn=>
  have a:RK X.K ad G H (match items y with|some B=>if uU x B then R.ok (.bl (!B.any λy=>deq y x))else .bad|none=>inS x y qc) Q E:=f;rcases e:items y with _|B;rw[e]at a;have g:RK X.K ad G H (inS x y qc) Q E:=a;rcases zIq (x:=x) (y:=y) (k:=qc) with n|⟨i,ks,vs,rfl,rfl⟩;rw[n]at g;exact g.elim;exact Eh (neg:=qc) (by lia) I b d c h l g;rw[e]at a;have g:RK X.K ad G H (if uU x B then R.ok (.bl (!B.any λy=>deq y x))else .bad) Q E:=a;by_cases m:uU x B=qc;rw[if_pos m]at g;obtain⟨p,Y,rfl,J,T⟩:=rB e c;cases (show z=pf p from l);rcases J with J|J;obtain⟨C,S,pt,_⟩:=I.tuple (b.seqT J);obtain⟨M,N,O,_⟩:=u9 hu I b m d h T S;exact SeqAt.notIn_tupleAt M (show s.heap.IsTuple p C.toArray from pt) N (by rw[O];exact⟨.bl _,H,I,rfl,g.ok_now b cS⟩);obtain⟨C,S,pt,_⟩:=I.list (b.seq J);obtain⟨M,N,O,_⟩:=u9 hu I b m d h T S;exact SeqAt.notIn_listAt M pt.isList N (by rw[O];exact⟨.bl _,H,I,rfl,g.ok_now b cS⟩);rw[if_neg m]at g;exact g.elim
end
def PE.imp(h:PE X e t)(k: ∀σ H Q,t' σ H Q->t σ H Q):PE X e t':=λa s σ H Q I w=>h a s σ H Q I (k σ H Q w)
def PT.imp(h:PT X e t)(k: ∀σ H Q,t' σ H Q->t σ H Q):PT X e t':=λa s σ H Q I w=>h a s σ H Q I (k σ H Q w)
def PW.imp(h:PW X e t)(k: ∀σ H Q,t' σ H Q->t σ H Q):PW X e t':=λb a s σ H Q I w=>h b a s σ H Q I (k σ H Q w)
def PS.imp(h:PS X e t)(k: ∀D σ H,t' D σ H->t D σ H):PS X e t':=λa s σ H D I w=>h a s σ H D I (k D σ H w)
def PSs.imp(h:PSs X e t)(k: ∀D σ H,t' D σ H->t D σ H):PSs X e t':=λa s σ H D I w=>h a s σ H D I (k D σ H w)
def PA.imp(h:PA X es t)(k: ∀σ H Q,t' σ H Q->t σ H Q):PA X es t':=λp a s σ H Q I w=>h p a s σ H Q I (k σ H Q w)
section
variable{X:Cx}{ad:Ad}{cc:cf}{s:Shared}{σ:St}{H G:Hp}{Q:VK}{E:Nat->Hp->Prop}{a:Expr}{h:F}
def eV{σ}{H}{Q Q'}(hG:Same G H)(hS:SL X.K ad G H ρ σ)(hx:XP X ad σ E)(hr:RK X.K ad G H ((f ρ).bind k) Q E)(q: ∀v d G1 H1,Step G H G1 H1->Rep X.K ad G1 d v->RK X.K ad G1 H1 (k d) Q E->Q' v H1):tE X ad f σ H Q':=by
 refine⟨G,ρ,E,hG,hS,hx,?_⟩;cases e:f ρ with
 |ok d=>
  rw[e]at hr;exact λv G1 H1 a r=>q v d G1 H1 a r (RK.step hr a)
 |ow j=>
  rw[e]at hr;intro p i G1 H1 a n m h r;obtain⟨g,st2,b⟩:=dG (X:=X) (ad:=ad) a n m h r;exact q _ _ g H1 st2 b (RK.step hr st2)
 |ex c=>
  rw[e]at hr;exact hr
 |bad=>
  rw[e]at hr;exact hr
def zA(hx:XP X ad σ E)(st:Step G H G1 H1)(hS:SL X.K ad G H ρ σ){Q}(hr:RK X.K ad G1 H1 (f ρ) Q E):tE X ad f σ H1 Q:=⟨G1,ρ,E,st.gh,hS.step st,hx,hr⟩
def JQ(ha:ME X ad a f):ME X ad (.UnaryOp .Not a pos) (qP f):=by
 refine PE.imp (Je ha) ?_;rintro j H Q ⟨G,m,E,h,b,c,e⟩;refine eV h b c e λv d i l g r k=>?_;cases d<;>try exact ba k
 unfold Rep at r;subst r;exact⟨_,rfl,k.ok_now g.gh cS⟩
def Ei(ha:ME X ad a f):ME X ad (.UnaryOp .USub a pos) (BN f):=by
 refine PE.imp (Mx Jp ha) ?_;rintro j H Q ⟨G,m,E,h,b,c,e⟩;refine eV h b c e λv d i l g r k=>?_;cases d<;>try exact ba k
 unfold Rep at r;subst r;exact⟨_,rfl,k.ok_now g.gh bT⟩
def JR{σ:St}{H}{Q}(h:tE X ad (kO f g) σ H Q):Jb (tE X ad f) (tE X ad g) σ H Q:=by
 obtain⟨G,n,E,j,a,c,i⟩:=h;refine eV j a c i λv d l m e r k=>?_;cases d<;>try exact ba k
 rename_i b;unfold Rep at r;subst r;refine⟨b,rfl,?_⟩;rcases b with _|_;exact yJ (k.ok_now e.gh cS);exact xR (zA c e a k)
def M4{σ:St}{H}{Q}(h:tE X ad (rOr f g) σ H Q):NT (tE X ad f) (tE X ad g) σ H Q:=by
 obtain⟨G,n,E,j,a,c,i⟩:=h;refine eV j a c i λv d l m e r k=>?_;cases d<;>try exact ba k
 rename_i b;unfold Rep at r;subst r;refine⟨b,rfl,?_⟩;rcases b with _|_;exact yJ (zA c e a k);exact xR (k.ok_now e.gh cS)
def Ej(ha:ME X ad a f)(hb:ME X ad (.BoolOp .And (b::r) pos) g):ME X ad (.BoolOp .And (a::b::r) pos) (kO f g):=PE.imp (Jd ha hb) λ_ _ _ h=>JR h
def JS(ha:ME X ad a f)(hb:ME X ad (.BoolOp .Or (b::r) pos) g):ME X ad (.BoolOp .Or (a::b::r) pos) (rOr f g):=PE.imp (Mq ha hb) λ_ _ _ h=>M4 h
def Ek(hb:ME X ad b g):ME X ad (.BoolOp op [b] pos) g:=Jc hb
def M5{σ:St}{H}{Q}(h:tT X ad f σ H Q):tE X ad f σ H λx H1=>∃k,x= .bl k/\Q k H1:=by obtain⟨G,e,E,d,a,b,g,c⟩:=h;exact⟨G,e,E,d,a,b,c⟩
def El(ha:ME X ad a f)(he: ∀whole,isTrue a X.env whole=(do let v<-whole;standAt a.pos;holding [v] (truthy v))):MT X ad a f:=PT.imp (IZ ha he) λ_ _ _ h=>M5 h
def iL{r:R}{k}(h:lN (r.bind k)):(∃d,r= .ok d/\lN (k d))\/(∃xs,r= .ow xs/\lN (k (.lst xs)))\/∃c,r= .ex c:=by
 cases r with
 |ok d=>exact .inl ⟨d,rfl,h⟩
 |ow xs=>exact .inr (.inl ⟨xs,rfl,h⟩)
 |ex c=>exact .inr (.inr ⟨c,rfl⟩)
 |bad=>
  rcases h with ⟨_,h⟩|⟨_,h⟩<;>cases h
def dI: ¬lN .bad:=by rintro(⟨_,h⟩|⟨_,h⟩)<;>cases h
def JT{σ:St}{H}{Q}(h:tT X ad (qP f) σ H Q):NR (tT X ad f) σ H Q:=by
 obtain⟨G,i,E,o,l,m,g,n⟩:=h;rcases iL g with ⟨d,e,g⟩|⟨y,e,g⟩|⟨c,e⟩;cases d<;>try exact(dI g).elim
 rename_i b;refine⟨G,i,E,o,l,m,.inl ⟨b,e⟩,?_⟩;have a:RK X.K ad G H ((f i).bind λx=>match x with|.bl b=>.ok (.bl (!b))|_=>.bad) (λv j=>∃b,v= .bl b/\Q b j) E:=n;rw[e]at a ⊢;intro v t u s r;unfold Rep at r;subst r;obtain⟨w,p,q⟩:=a (.bl (!b)) t u s cS;cases p;exact⟨b,rfl,q⟩;exact(dI g).elim;refine⟨G,i,E,o,l,m,.inr ⟨c,e⟩,?_⟩;have a:RK X.K ad G H ((f i).bind λx=>match x with|.bl b=>.ok (.bl (!b))|_=>.bad) (λv j=>∃b,v= .bl b/\Q b j) E:=n;rw[e]at a ⊢;exact a
def Em(ha:MT X ad a f):MT X ad (.UnaryOp .Not a pos) (qP f):=PT.imp (Ja ha) λ_ _ _ h=>JT h
def JU{σ:St}{H}{Q}(h:tT X ad (kO f g) σ H Q):NQ (tT X ad f) (tT X ad g) σ H Q:=by
 obtain⟨G,j,E,p,m,n,i,u⟩:=h;have a:RK X.K ad G H ((f j).bind λx=>match x with|.bl qc=>g j|.bl qe=>.ok (.bl qe)|_=>.bad) (λv s=>∃b,v= .bl b/\Q b s) E:=u;rcases iL i with ⟨d,e,i⟩|⟨z,e,i⟩|⟨c,e⟩;cases d<;>try exact(dI i).elim
 rename_i b;refine⟨G,j,E,p,m,n,.inl ⟨b,e⟩,?_⟩;rw[e]at a ⊢;intro v o w l r;unfold Rep at r;subst r;refine⟨b,rfl,?_⟩;rcases b with _|_;obtain⟨y,t,q⟩:=a (.bl qe) o w l cS;cases t;exact yJ q;exact xR ⟨o,j,E,l.gh,m.step l,n,i,RK.step a l⟩;exact(dI i).elim;refine⟨G,j,E,p,m,n,.inr ⟨c,e⟩,?_⟩;rw[e]at a ⊢;exact a
def M6{σ:St}{H}{Q}(h:tT X ad (rOr f g) σ H Q):tOr (tT X ad f) (tT X ad g) σ H Q:=by
 obtain⟨G,j,E,p,m,n,i,u⟩:=h;have a:RK X.K ad G H ((f j).bind λx=>match x with|.bl qc=>.ok (.bl qc)|.bl qe=>g j|_=>.bad) (λv s=>∃b,v= .bl b/\Q b s) E:=u;rcases iL i with ⟨d,e,i⟩|⟨z,e,i⟩|⟨c,e⟩;cases d<;>try exact(dI i).elim
 rename_i b;refine⟨G,j,E,p,m,n,.inl ⟨b,e⟩,?_⟩;rw[e]at a ⊢;intro v o w l r;unfold Rep at r;subst r;refine⟨b,rfl,?_⟩;rcases b with _|_;exact yJ ⟨o,j,E,l.gh,m.step l,n,i,RK.step a l⟩;obtain⟨y,t,q⟩:=a (.bl qc) o w l cS;cases t;exact xR q;exact(dI i).elim;refine⟨G,j,E,p,m,n,.inr ⟨c,e⟩,?_⟩;rw[e]at a ⊢;exact a
def Eo(ha:MT X ad a f)(hb:MW X ad (.BoolOp .And (b::r) pos) g):MW X ad (.BoolOp .And (a::b::r) pos) (kO f g):=PW.imp (pw_and ha hb) λ_ _ _ h=>JU h
def FV(ha:MT X ad a f)(hb:MW X ad (.BoolOp .Or (b::r) pos) g):MW X ad (.BoolOp .Or (a::b::r) pos) (rOr f g):=PW.imp (pw_or ha hb) λ_ _ _ h=>M6 h
def zB(hb:MT X ad b g):MW X ad (.BoolOp op [b] pos) g:=by
 cases op with
 |And=>exact pw_and1 hb
 |Or=>exact pw_or1 hb
def JV(hu:X.A.units+62<cLine)(ha:ME X ad a f)(hb:ME X ad b g)(hm:behindInMarks op b=qe):ME X ad (.Compare a [op] [b] pos) (bH op f g):=by refine λl s j H Q I h=>h.el λG m E i c d e=>?_;exact wpAny_Compare1 (yU (gH op hu) ha hb I i c d e) hm
def Ep(hu:X.A.units+62<cLine)(ha:ME X ad a f)(hb:ME X ad b g)(hm:behindInMarks op b=qe):MT X ad (.Compare a [op] [b] pos) (bH op f g):=by refine λK s z H Q I l=>l.el λG C E p h i y n=>?_;refine wpAny_isTrue_Compare1 (L2.thn (yU (gH op hu) ha hb I p h i n) λv w t=>L2.thn t λu J o=>L2.thn o λc B d=>?_) hm;obtain⟨x,r,j,m,k,e,q⟩:=d;subst e;cases m;exact wpAny_truthy_bool ⟨r,j,q⟩
def zBb(r:R):=(∃k,r=R.ok (.bl k))\/r=.bad
def zC:(∃k,dR op x y= .ok (.bl k))\/dR op x y= .bad:=by
 have i:∀k,zBb (inS x y k):=λk=>by rcases zIq (x:=x) (y:=y) (k:=k) with a|⟨i,ks,vs,rfl,rfl⟩;exact .inr a;exact .inl ⟨_,rfl⟩
 have e:∀(p:Prop)[Decidable p](k:Bool)(r:R),zBb r->zBb (if p then .ok (.bl k)else r):=λp _ k r h=>by by_cases c:p;rw[if_pos c];exact .inl ⟨_,rfl⟩;rw[if_neg c];exact h
 have n:∀k,zBb (n9 k x y):=λk=>by
  cases x<;>try exact .inr rfl
  cases y<;>try exact .inr rfl
  exact e _ _ _ (.inr rfl)
 cases op with
 |Eq=>exact e _ _ _ (n _)
 |NotEq=>exact e _ _ _ (n _)
 |In=>exact i _
 |NotIn=>
  show zBb (match items y with|some ys=>if uU x ys then .ok (.bl (!ys.any λy=>deq y x))else .bad|none=>inS x y qc)
  cases items y;exact i _;exact e _ _ _ (.inr rfl)
 |LtE=>
  rcases zFq (x:=x) (y:=y) with a|⟨i,j,rfl,rfl⟩|⟨i,j,rfl,rfl⟩;exact .inr a;exact .inl ⟨_,rfl⟩;exact .inl ⟨_,rfl⟩
 |Is=>
  cases y<;>first|exact .inr rfl|exact .inl ⟨_,rfl⟩
 |IsNot=>
  cases y<;>first|exact .inr rfl|exact .inl ⟨_,rfl⟩
 |Lt=>rcases zEq (op:=.Lt) (x:=x) (y:=y) (.inl rfl) with a|⟨i,j,rfl,rfl⟩;exact .inr a;exact .inl ⟨_,rfl⟩
 |Gt=>rcases zEq (op:=.Gt) (x:=x) (y:=y) (.inr (.inl rfl)) with a|⟨i,j,rfl,rfl⟩;exact .inr a;exact .inl ⟨_,rfl⟩
 |GtE=>rcases zEq (op:=.GtE) (x:=x) (y:=y) (.inr (.inr rfl)) with a|⟨i,j,rfl,rfl⟩;exact .inr a;exact .inl ⟨_,rfl⟩
def M7{op}{x y}{v w}{u z}(hu:X.A.units+62<cLine)(I:Inv X cc σ H s)(hG:Same G H)(rx:Rep X.K ad G x v)(ry:Rep X.K ad G y w)(ru:bJ v u)(rz:bJ w z){k}(hr:RK X.K ad G H ((dR op x y).bind k) Q E):X.wp (compareOp op u z) (λd s3=>∃b G' H',d= .bool b/\Step G H G' H'/\Inv X cc σ H' s3/\RK X.K ad G' H' (k (.bl b)) Q E) X.xe s:=by rcases zC (op:=op) (x:=x) (y:=y)with ⟨b,e⟩|e;rw[e]at hr;refine L2.thn (gH op hu cc s σ H G x y v w u z (λq H'=>∃G',Step G H G' H'/\q= .bl b) E I hG rx ry ru rz (by rw[e];exact λq G' H' a r=>⟨G',a,by unfold Rep at r;exact r⟩)) λd s3 c=>?_;obtain⟨q,H',g,h,G',a,f⟩:=c;subst f;cases h;exact⟨b,G',H',rfl,a,g,RK.step hr a⟩;rw[e]at hr;exact hr.elim
def Cj(hu:X.A.units+62<cLine)(ha:ME X ad a f)(hb:ME X ad b g)(hc:ME X ad c h)(hm:lastMarks [op,op'] [b,c]=qe):ME X ad (.Compare a [op,op'] [b,c] pos) (kA op op' f g h):=by
 refine λO s z H Q I W=>W.el λG ρ E hG m n hr=>?_;refine Compare_chain (L2.thn (ha.thn I hG m n hr) λv s1 ⟨x,d1,G1,H1,Y,r1,st1,q1,M⟩=>chain_link (L2.thn (hb.thn Y st1.gh (m.step st1) n M) λu s2 ⟨y,N,G2,H2,J,r,st2,o,U⟩=>
  L2.thn (M7 hu J st2.gh (q1.mono st2.sg) o r1 r U) λd s3 ⟨k,G3,B,e,i,q,p⟩=>?_)) hm
 subst e;refine wpAny_truthy_bool ?_;rcases k with _|_;exact ite_ff ⟨.bl qe,B,q,rfl,p.ok_now i.gh cS⟩;refine ite_tt (chain_last (L2.thn (hc.thn q i.gh (((m.step st1).step st2).step i) n p) λT K l=>?_));refine gzq λRz ez=>?_;obtain⟨C,L,w,H4,I4,t,j,Z,S⟩:=l;subst ez;exact gH op' hu O K z H4 w N L y C u T Q E I4 j.gh ((o.mono i.sg).mono j.sg) Z r t S
def Ck(hu:X.A.units+62<cLine)(ha:ME X ad a f)(hb:ME X ad b g)(hc:ME X ad c h)(hm:lastMarks [op,op'] [b,c]=qe):MT X ad (.Compare a [op,op'] [b,c] pos) (kA op op' f g h):=by
 refine λU s C H Q I h9=>h9.el λG ρ E hG m n ht hr=>?_;refine isTrue_chain (L2.thn (ha.thn I hG m n hr) λv s1 ⟨x,d1,G1,H1,I1,r1,st1,q1,S⟩=>test_link (L2.thn (hb.thn I1 st1.gh (m.step st1) n S) λu s2 ⟨y,T,G2,H2,L,t,st2,o,r⟩=>
  L2.thn (M7 hu L st2.gh (q1.mono st2.sg) o r1 t r) λd s3 ⟨k,G3,J,e,i,q,p⟩=>?_)) hm
 subst e;refine wpAny_truthy_bool ?_;rcases k with _|_;obtain⟨k',e',q'⟩:=p.ok_now (v:=.bl qe) i.gh cS;cases e';exact ite_ff ⟨J,q,q'⟩;refine ite_tt (test_last (L2.thn (hc.thn q i.gh (((m.step st1).step st2).step i) n p) λY M j=>?_));refine gzq λRz ez=>?_;obtain⟨K,O,z,H4,I4,w,l,q4,W⟩:=j;subst ez;refine L2.thn (gH op' hu U M C H4 z T O y K u Y _ E I4 l.gh ((o.mono i.sg).mono l.sg) q4 t w W) λd' s5 j=>?_;refine gzq λRz ez=>?_;obtain⟨z2,H5,I5,N,r,Z,B⟩:=j;subst ez;subst Z;cases N;exact wpAny_truthy_bool ⟨H5,I5,B⟩
def zD:MA X ad [] []:=PA.imp cW λf H Q a=>by obtain⟨G,g,E,c,d,e,b⟩:=a;exact b [] G H (Step.refl c) aK.nil
def oI(ha:ME X ad a f)(hr:MA X ad es fs)(hs:starEach (a::es) X.env=(qe,eval a X.env)::starEach es X.env):MA X ad (a::es) (f::fs):=by
 refine PA.imp (bI ha hr hs) ?_;rintro x H Q ⟨G,l,E,z,s,t,hr⟩;have b: ∀d,AK X.K ad G H ((args fs l).cons d) Q E->∀v h i,Step G H h i->Rep X.K ad h d v->tA X ad fs x i λw o=>Q (v::w) o:=λd hk v h i g r=>by
  refine⟨h,l,E,g.gh,s.step g,t,?_⟩;cases e:args fs l with
  |ok A=>rw[e]at hk;exact λu j o st2 q=>hk (v::u) j o (g.trans st2) (aK.cons (r.mono st2.sg) q)
  |ex c=>rw[e]at hk;exact λj o st2=>hk j o (g.trans st2)
  |bad=>rw[e]at hk;exact hk
 refine⟨G,l,E,z,s,t,?_⟩;unfold args at hr;cases e:f l with
 |ok d=>rw[e]at hr;exact λv h i g r=>b d hr v h i g r
 |ow w=>
  rw[e]at hr;intro p u h i g n m y r;obtain⟨j,st2,q⟩:=dG (X:=X) (ad:=ad) g n m y r;exact b _ hr _ j i st2 q
 |ex c=>rw[e]at hr;exact hr
 |bad=>rw[e]at hr;exact hr
def gZ(h:args fs ρ= .ok ds):ds.length=fs.length:=by
 induction fs generalizing ds with
 |nil=>cases h;rfl
 |cons f fs b=>
  unfold args at h;cases e:f ρ with
  |ok d=>
   rw[e]at h;cases a:args fs ρ with
   |ok r=>rw[a]at h;cases h;simp[b a]
   |ex c=>rw[a]at h;cases h
   |bad=>rw[a]at h;cases h
  |ow d=>
   rw[e]at h;cases a:args fs ρ with
   |ok r=>rw[a]at h;cases h;simp[b a]
   |ex c=>rw[a]at h;cases h
   |bad=>rw[a]at h;cases h
  |ex c=>rw[e]at h;cases h
  |bad=>rw[e]at h;cases h
def tN{σ}{H}{Q}(hG:Same G H)(hS:SL X.K ad G H ρ σ)(hx:XP X ad σ E)(hr:RK X.K ad G H (mO fs ρ k) Q E)(q: ∀vs ds G1 H1,Step G H G1 H1->aK X.K ad G1 ds vs->ds.length=fs.length->RK X.K ad G1 H1 (k ds) Q E->Q' vs H1):tA X ad fs σ H Q':=by
 refine⟨G,ρ,E,hG,hS,hx,?_⟩;unfold mO at hr;cases e:args fs ρ with
 |ok ds=>rw[e]at hr;exact λvs G1 H1 a r=>q vs ds G1 H1 a r (gZ e) (RK.step hr a)
 |ex c=>rw[e]at hr;exact hr
 |bad=>rw[e]at hr;exact hr
def JW(ha:MA X ad es fs)(hl:fs.length<=1000):ME X ad (.Tuple es j pos) (dD fs):=by
 refine PE.imp (yE ha) ?_;rintro n H Q ⟨G,b,E,l,f,g,i⟩;refine⟨G,b,E,l,f,g,?_⟩;have a:RK X.K ad G H ((args fs b).then λm=>.ok (.tup m)) Q E:=i;cases e:args fs b with
 |ok o=>
  rw[e]at a;intro s q t d r;refine⟨?_,λp h=>(RK.step a d).tup_new d.gh r h⟩;have:=r.length;rw[this,gZ e];exact mq hl (by decide)
 |ex c=>rw[e]at a;exact a
 |bad=>rw[e]at a;exact a
def Er(ha:MA X ad es fs)(hl:fs.length<=1000):ME X ad (.List es pos) (gG fs):=by
 refine PE.imp (qD ha) ?_;rintro m H Q ⟨G,b,E,j,f,g,i⟩;refine⟨G,b,E,j,f,g,?_⟩;have a:RK X.K ad G H ((args fs b).then λl=>.ow l) Q E:=i;cases e:args fs b with
 |ok n=>
  rw[e]at a;intro q o s d r;refine⟨?_,λp h=>(RK.step a d).ow_new d.gh r h⟩;have:=r.length;rw[this,gZ e];exact mq hl (by decide)
 |ex c=>rw[e]at a;exact a
 |bad=>rw[e]at a;exact a
def Seq(X:Cx)(ad:Ad)(G H:Hp)(x:D)(v:V):Prop:=Rep X.K ad G x v\/∃a vs ds,x= .lst ds/\v= .ref a/\G a=qb/\H a=pi (.lst vs)/\aK X.K ad G ds vs
def Seq.step(q:Seq X ad G H x v)(st:Step G H G1 H1):Seq X ad G1 H1 x v:=by rcases q with q|⟨a,vs,ds,e1,e2,h1,h2,h3⟩;exact .inl (q.mono st.sg);refine .inr ⟨a,vs,ds,e1,e2,?_,st.sh _ _ h2,h3.mono st.sg⟩;rcases z:G1 a with _|o;rfl;have:=st.nw a h1 (by rw[z];exact λz=>nomatch z);rw[h2]at this;cases this
theorem Seq.items{x:D}{v:V}{ds:L1 D}(q:Seq X ad G H x v)(hG:Same G H)(e:items x=pi ds): ∃a vs,v= .ref a/\(x= .tup ds/\SqT X.K H a vs\/x= .lst ds/\SqL X.K H a vs)/\aK X.K ad G ds vs:=by
 rcases q with q|⟨a,vs,ds',e1,e2,d,c,b⟩;cases x with
 |tup _=>cases e;unfold Rep at q;obtain⟨a,vs,d,c,b⟩:=q;exact⟨a,vs,d,.inl ⟨rfl,hG.seqT c⟩,b⟩
 |lst _=>cases e;unfold Rep at q;obtain⟨a,vs,d,c,b⟩:=q;exact⟨a,vs,d,.inr ⟨rfl,hG.seq c⟩,b⟩
 |_=>cases e
 subst e1;cases e;exact⟨a,vs,e2,.inr ⟨rfl,SqL.of c⟩,b⟩
def Es n i:ixD n i=L2.ixN n i:=rfl
def FW{Ex:ce}{s}{T id}{Q:ce}(hl:typeLookup (.type T) "__getitem__"=pure (pi (.builtin id)))(hs:subscripted slice qe o i=operate [o,i] (getItem o i))(hT:s.TypeIs o T)(h:wpAny (model prog w) A (getItem o i) Q Ex s):wpAny (model prog w) A (subscriptTail value slice o i) Q Ex s:=by
 unfold subscriptTail;refine aa ?_;rw[getitemInPython_of_ne hT.not_modules];refine aa (wpAny_specialOf hT hl ?_);have b:wpAny (model prog w) A (subscripted slice qe o i) (λr a=>wpAny (model prog w) A (letTemporaryGo value o r >>= λ_=>pure r) Q Ex a) Ex s:=by
  rw[hs];exact wpAny_operating (wpAny_mono h (λr a c=>aa (wpAny_letTemporaryGo (ac c))) λ_ _ x=>x)
 first
  |exact ac (aa b)
  |exact aa (ac (aa b))
  |exact aa b
def JX(I:Inv X cc σ H s)(hG:Same G H)(rx:Rep X.K ad G (.dct ks ds) v)(ru:bJ v u)(rz:bJ (.str k) z)(hs:subscripted b qe u z=operate [u,z] (getItem u z))(hr:RK X.K ad G H (match bC (ks.zip ds) k with|some d=>.ok d|none=>.bad) Q E):X.wp (subscriptTail a b u z) (EP X cc σ Q) X.xe s:=by unfold Rep at rx;obtain⟨p,o,t,rfl,g,m,l⟩:=rx;cases (show u=pf p from ru);rcases rD (x:=k) m l with ⟨_,f,_⟩|⟨w,d,i,f,j,_,_⟩;rw[f]at hr;exact hr.elim;rw[f]at hr;obtain⟨y,q,B,c,dd⟩:=jL I.hok (.inr ⟨o,hG _ _ g⟩);have h:=c.val (.inr k);rw[i]at h;obtain⟨r,n,e⟩:=mL.some_of h;exact FW PySem.F.slot_dict_getitem.lookup hs dd.typeIs (wpAny_getItem_of (mU (k:=.inr k) rz) dd.mapOf n ⟨w,H,I.tok _,e,hr.ok_now hG j⟩)
def JY(ha:MLk X ad a f)(hb:ME X ad b g)(hs:yG b):ME X ad (.Subscript a b pos) (rIx f g):=by
 refine λN s J H Q I h9=>h9.el λG ρ E hG hS hx hr=>?_;refine Subscript_ (L2.thn (ha N s J H G ρ _ Q E I hG hS hx hr) λv s1 m=>?_);obtain⟨x,T,G1,H1,I1,Y,st1,q1,k1⟩:=m;refine L2.thn (hb.thn I1 st1.gh (hS.step st1) hx k1) λu Z m=>?_;obtain⟨y,M,U,n,L,S,st2,r,t⟩:=m;have h:Seq X ad U n T x:=Seq.step (X:=X) (ad:=ad) q1 st2;unfold dIx at t;rcases e:items T with _|W;rw[e]at t;have A:RK X.K ad U n (ixS T M) Q E:=t;cases T<;>try exact ba A
 case dct ks O=>
  cases M<;>try exact ba A
  rcases h with h|⟨_,_,_,w,_⟩;unfold Rep at r;subst r;exact JX L st2.gh h Y S (hs _ _) A;cases w
 cases M<;>try exact ba A
 rename_i z i;have o:RK X.K ad U n (if z.length<=LIM then(match(ixD z.cps.toList.length i).bind λj=>z.cps.toList[j]? with|some c=>.ok (.str ⟨#[c]⟩)|none=>.bad)else .bad) Q E:=A;unfold Rep at r;subst r;by_cases hc:z.length<=LIM;rw[if_pos hc]at o;rcases q:(ixD z.cps.toList.length i).bind λj=>z.cps.toList[j]? with _|c;rw[q]at o;exact o.elim;rw[q]at o;rcases h with h|⟨_,_,_,w,_⟩;unfold Rep at h;subst h;exact iC a b N Z J n _ _ v u Q L Y S ⟨z,i,c,rfl,rfl,mq hc (by decide),q,o.ok_now st2.gh yR⟩ (hs _ _);cases w;rw[if_neg hc]at o;exact o.elim;rw[e]at t;cases M<;>try exact t.elim
 rename_i i;unfold Rep at r;subst r;obtain⟨p,O,rfl,C,rq⟩:=h.items st2.gh e;have l:RK X.K ad U n (match(ixD W.length i).bind λj=>W[j]? with|some d=>.ok d|none=>.bad) Q E:=t;rcases q:(ixD W.length i).bind λj=>W[j]? with _|d;rw[q]at l;exact l.elim;rw[q]at l;obtain⟨j,e4,e5⟩:=zBd q;obtain⟨w,e6,r6⟩:=rq.get e5;have B:atI O i=pi w:=by
  unfold atI;rw[rq.length, <-Es,e4];exact e6
 rcases C with ⟨_,C⟩|⟨_,C⟩;exact Jt a b N Z J n _ _ v u Q L Y S ⟨p,O,i,w,rfl,rfl,C,B,l.ok_now st2.gh r6⟩ (hs _ _);exact Fv a b N Z J n _ _ v u Q L Y S ⟨p,O,i,w,rfl,rfl,C,B,l.ok_now st2.gh r6⟩ (hs _ _)
end
section
variable{X:Cx}{ad:Ad}{cc:cf}{s:Shared}{σ:St}{H G:Hp}{ρ:Rho}{Q:VK}{E:Nat->Hp->Prop}{p:Pos}{a b c:Expr}{f g h:F}
def RK.impE{K}{r}{E E'}(h:RK K ad G H r Q E)(k: ∀c H',E c H'->E' c H'):RK K ad G H r Q E':=by
 cases r with
 |ok d=>exact h
 |ow e=>exact h
 |ex c=>exact λa H' b=>k c H' (h a H' b)
 |bad=>exact h
def LK(X:Cx)(ad:Ad)(G H:Hp)(r:R)(Q:VK)(E:Nat->Hp->Prop):Prop:=match r with
 |.ok d=>∀v G' H',Step G H G' H'->Seq X ad G' H' d v->Q v H'
 |.ow xs=>∀p vs G' H',Step G H G' H'->H p=qb->G' p=qb->H' p=pi (.lst vs)->aK X.K ad G' xs vs->Q (.ref p) H'
 |.ex c=>∀G' H',Step G H G' H'->E c H'
 |.bad=>False
def tL(X:Cx)(ad:Ad)(f:F):TE:=λσ H Q=>∃G ρ E,Same G H/\SL X.K ad G H ρ σ/\XP X ad σ E/\LK X ad G H (f ρ) Q E
abbrev ML(X:Cx)(ad:Ad)(e:Expr)(f:F):Prop:=PE X e (tL X ad f)
def LK.rk(h:LK X ad G H r Q E):RK X.K ad G H r Q E:=by
 cases r with
 |ok d=>exact λv a b e q=>h v a b e (.inl q)
 |ow f=>exact h
 |ex c=>exact h
 |bad=>exact h
def ME.ml(ha:ME X ad a f):ML X ad a f:=PE.imp ha λi H Q b=>by obtain⟨G,h,E,g,c,d,e⟩:=b;exact⟨G,h,E,g,c,d,e.rk⟩
def zE(hN:X.N[i]? =pi x)(hv:Vis X.env.scope x)(hd:(x==("__debug__":Str))=qe)(hcd:(x==("__classdict__":Str))=qe):ML X ad (.Name x pos) (aE i):=by
 rintro l s h H Q I ⟨G,q,E,j,g,u,a⟩;unfold aE at a;rcases e:q[i]? with _|o;rw[e]at a;exact a.elim;rw[e]at a;cases o with
 |no=>exact a.elim
 |dc b=>exact a.elim
 |sd b=>exact a.elim
 |rk _ _=>exact a.elim
 |ow r=>
  obtain⟨p,t,f,c,m,n⟩:=g.ow e;exact bO hN hv hd hcd l s h H Q I ⟨.ref p,f,a (.ref p) G H (Step.refl j) (.inr ⟨p,t,r,rfl,rfl,c,m,n⟩)⟩
 |sh d=>
  obtain⟨w,f,c⟩:=g.sh e;exact bO hN hv hd hcd l s h H Q I ⟨w,f,a w G H (Step.refl j) (.inl c)⟩
def ML.lk(ha:ML X ad a f):MLk X ad a f:=by
 intro z s x H G o k Q E I y t w j;cases e:f o with
 |ok d=>
  rw[e]at j;refine L2.thn (ha z s x H (λv g=>∃b,Step G H b g/\Seq X ad b g d v) I ⟨G,o,E,y,t,w,by rw[e];exact λv b g i q=>⟨b,i,q⟩⟩) λu A h=>?_;refine gzq λRz ez=>?_;obtain⟨v,g,l,r,b,i,q⟩:=h;subst ez;exact⟨v,d,b,g,l,r,i,q,RK.step j i⟩
 |ow B=>
  rw[e]at j;refine L2.thn (ha z s x H (λv g=>∃b,Step G H b g/\Rep X.K ad b (.lst B) v) I ⟨G,o,E,y,t,w,by rw[e];exact λp J b g i n m C q=>dG i n m C q⟩) λu A h=>?_;refine gzq λRz ez=>?_;obtain⟨v,g,l,r,b,i,q⟩:=h;subst ez;exact⟨v,.lst B,b,g,l,r,i,.inl q,RK.step j i⟩
 |ex c=>
  rw[e]at j;refine L2.thn (ha z s x H (λv g=>False) I ⟨G,o,E,y,t,w,by rw[e];exact j⟩) λu A h=>by obtain⟨v,g,l,r,q⟩:=h;exact q.elim
 |bad=>
  rw[e]at j;exact ba j
def zF{σ}{H}{Q Q'}(hG:Same G H)(hS:SL X.K ad G H ρ σ)(hx:XP X ad σ E)(hr:RK X.K ad G H ((f ρ).bind k) Q E)(q: ∀v d G1 H1,Step G H G1 H1->Seq X ad G1 H1 d v->RK X.K ad G1 H1 (k d) Q E->Q' v H1):tL X ad f σ H Q':=by
 refine⟨G,ρ,E,hG,hS,hx,?_⟩;cases e:f ρ with
 |ok d=>
  rw[e]at hr;exact λv G1 H1 a r=>q v d G1 H1 a r (RK.step hr a)
 |ow j=>
  rw[e]at hr;intro p i G1 H1 a n m h r;obtain⟨g,st2,b⟩:=dG (X:=X) (ad:=ad) a n m h r;exact q _ _ g H1 st2 (.inl b) (RK.step hr st2)
 |ex c=>
  rw[e]at hr;exact hr
 |bad=>
  rw[e]at hr;exact hr
def vB:mO [f] ρ k=(f ρ).bind λx=>k [x]:=by unfold mO args;cases f ρ<;>rfl
def BOp(X:Cx)(ad:Ad)(fv:Value)(r:Fn):Prop:=
 ∀(cc:cf) (s:Shared) (σ:St) (H G:Hp) (x:D) (v:V) (u:Value) (Q:VK) (E:Nat->Hp->Prop),Inv X cc σ H s->Same G H->Seq X ad G H x v->bJ v u->RK X.K ad G H (r [x]) Q E->
  X.wp (call fv [u]) (EP X cc σ Q) X.xe s
def oJ{id}(ho:BOp X ad (.builtin id) r)(hg:L2.Gl X x)(hm:X.mg x=qb)(hv:bootBuiltins x=pi (.builtin id))(ha:ML X ad a f)(hn:x≠"__name__")(hdb:(x==("__debug__":Str))=qe)(he:starEach [a] X.env=(qe,eval a X.env)::starEach [] X.env):ME X ad (.Call (.Name x p) [a] [] pos) (aH r [f]):=by rintro i s h H Q I ⟨G,B,E,z,l,n,e⟩;refine wpAny_Call_Name_kw (f9 I hg hm hv ?_ hn hdb);unfold aH at e;rw[vB]at e;refine dk (L2.thn (bI ha cW he pos i s h H (λj c=>∃v d b,j=[v]/\Step G H b c/\Seq X ad b c d v/\RK X.K ad b c (r [d]) Q E) I ?_) λA m ⟨j,c,o,y,v,d,b,w,g,q,k⟩=>?_) he rfl;exact zF z l n e λv d b c g q k=>⟨v,d,b,rfl,g,q,k⟩;subst w;obtain⟨u,rfl,t⟩:=lC y;exact ho i m h c b d v u Q E o g.gh q t k
def zG(ho:BOp X ad (.type T) r)(hg:L2.Gl X x)(hm:X.mg x=qb)(hv:bootBuiltins x=pi (.type T))(ha:ML X ad a f)(hn:x≠"__name__")(hdb:(x==("__debug__":Str))=qe)(he:starEach [a] X.env=(qe,eval a X.env)::starEach [] X.env):ME X ad (.Call (.Name x p) [a] [] pos) (aH r [f]):=by rintro i s h H Q I ⟨G,B,E,z,l,n,e⟩;refine wpAny_Call_Name_kw (f9 I hg hm hv ?_ hn hdb);unfold aH at e;rw[vB]at e;refine dm (L2.thn (bI ha cW he pos i s h H (λj c=>∃v d b,j=[v]/\Step G H b c/\Seq X ad b c d v/\RK X.K ad b c (r [d]) Q E) I ?_) λA m ⟨j,c,o,y,v,d,b,w,g,q,k⟩=>?_) he rfl;exact zF z l n e λv d b c g q k=>⟨v,d,b,rfl,g,q,k⟩;subst w;obtain⟨u,rfl,t⟩:=lC y;exact ho i m h c b d v u Q E o g.gh q t k
def zH:BOp X ad (.builtin "len") qU:=by
 intro j s i H G x v u Q E I g q h m;have a:RK X.K ad G H (match items x with|some xs=>.ok (.int xs.length)|none=>N1 x) Q E:=m;rcases e:items x with _|o;rw[e]at a;cases x with
 |str z=>
  have b:RK X.K ad G H (if z.length<=100000 then .ok (.int z.length)else .bad) Q E:=a;by_cases f:z.length<=100000;rw[if_pos f]at b;rcases q with q|⟨_,_,_,y,_⟩;unfold Rep at q;subst q;exact qK j s i H _ [u] Q I (.cons h .nil) ⟨_,rfl,mq f (by decide),b.ok_now g bT⟩;cases y;rw[if_neg f]at b;exact b.elim
 |_=>exact ba a
 rw[e]at a;obtain⟨p,c,rfl,n,l⟩:=q.items g e;have d:SqL X.K H p c\/SqT X.K H p c:=n.elim (λz=>.inr z.2) λz=>.inl z.2;refine qJ j s i H [.ref p] [u] Q I (.cons h .nil) ⟨p,c,rfl,d,?_⟩;rw[l.length];exact a.ok_now g bT
def FX:BOp X ad (.type "int") sS:=by
 intro j s h H G x v u Q E I g q e b;cases x<;>try exact ba b
 rcases q with q|⟨_,_,_,z,_⟩;unfold Rep at q;subst q;exact qC j s h H _ [u] Q I (.cons e .nil) (.inr ⟨_,rfl,b.ok_now g bT⟩);cases z;rcases q with q|⟨_,_,_,z,_⟩;unfold Rep at q;subst q;exact qC j s h H _ [u] Q I (.cons e .nil) (.inl ⟨_,rfl,b.ok_now g bT⟩);cases z;rename_i x;rcases q with q|⟨_,_,_,z,_⟩;unfold Rep at q;subst q;obtain⟨t,rfl⟩:=(show ∃t,u=pe x t from e);have a:RK X.K ad G H (match x.cps.toList with|[c]=>if 48<=c/\c<58 then .ok (.int ((c-48:Nat):Int))else .bad|_=>.bad) Q E:=b;split at a;rename_i c ex;by_cases i:48<=c/\c<58;rw[if_pos i]at a;obtain⟨d,l,rfl⟩: ∃d,d<10/\c=48+d:=⟨c-48,by lia,by lia⟩;have f:x=⟨#[48+d]⟩:=PySem.Str.ext' (by rw[<-Array.toList_inj];exact ex);subst f;have m:PySem.intText? ⟨#[48+d]⟩=pi (((48+d-48:Nat):Nat):Int):=(by decide+kernel: ∀d:Fin 10,PySem.intText? ⟨#[48+d.val]⟩=pi (((48+d.val-48:Nat):Nat):Int)) ⟨d,l⟩;exact PySem.W.KIN.call_text m (by show 1<=640;decide) ⟨.int _,H,I.tok _,⟨_,rfl⟩,a.ok_now g bT⟩;rw[if_neg i]at a;exact a.elim;exact a.elim;cases z
def Cl:BOp X ad (.type "list") wX:=by intro m s g H G x v u Q E I d q f j;have a:RK X.K ad G H (match items x with|some xs=>.ow xs|none=>.bad) Q E:=j;rcases e:items x with _|o;rw[e]at a;exact a.elim;rw[e]at a;obtain⟨p,b,rfl,n,h⟩:=q.items d e;have c:SqL X.K H p b\/SqT X.K H p b:=n.elim (λz=>.inr z.2) λz=>.inl z.2;exact gF m s g H [.ref p] [u] Q I (.cons f .nil) ⟨p,b,rfl,c,λl i=>a.ow_new d h i⟩
def zI:BOp X ad (.type "tuple") iD:=by intro i s h H G x v u Q E I d q g n;have a:RK X.K ad G H (match items x with|some xs=>.ok (.tup xs)|none=>.bad) Q E:=n;rcases e:items x with _|o;rw[e]at a;exact a.elim;rw[e]at a;obtain⟨p,f,rfl,b,j⟩:=q.items d e;rcases b with ⟨c,b⟩|⟨c,b⟩;refine iS i s h H [.ref p] [u] Q I (.cons g .nil) ⟨p,f,rfl,.inr ⟨b,a.ok_now d ?_⟩⟩;rcases q with q|⟨_,_,_,z,_⟩;rw[c]at q;exact q;rw[c]at z;cases z;exact iS i s h H [.ref p] [u] Q I (.cons g .nil) ⟨p,f,rfl,.inl ⟨b,λl m=>a.tup_new d j m⟩⟩
theorem rE: ∀{ds} {ns} {vs},jJ ds=pi ns->aK X.K ad G ds vs->vs=ns.map V.int
 |[],ns,vs,e,r=>by
  cases e;unfold aK at r;exact r
 |d::ds,ns,vs,e,r=>by
  cases d<;>try (unfold jJ at e;cases e)
  rename_i i;unfold jJ at e;obtain⟨h,b,c⟩:=zMd e;subst c;unfold aK at r;obtain⟨v,g,rfl,a,f⟩:=r;unfold Rep at a;subst a;rw[rE b f];rfl
theorem nF: ∀{ds} {ns} {vs},fI ds=pi ns->aK X.K ad G ds vs->vs=ns.map V.bl
 |[],ns,vs,e,r=>by
  cases e;unfold aK at r;exact r
 |d::ds,ns,vs,e,r=>by
  cases d<;>try (unfold fI at e;cases e)
  rename_i i;unfold fI at e;obtain⟨h,b,c⟩:=zMd e;subst c;unfold aK at r;obtain⟨v,g,rfl,a,f⟩:=r;unfold Rep at a;subst a;rw[nF b f];rfl
def vC{A}(hh:A.handled=qb)(I:Inv X cc σ H s){p}{vs}(hq:SqL X.K H p vs\/SqT X.K H p vs){Ex:ce}{Q':ce}(k: ∀its s2 I' fp wr Stt,b9 vs its->Walks X.prog X.w A I' fp wr its.length (λi v=>its[i]? =pi v) Stt->Stt 0 s2.heap->(∀b∈fp,b<s2.heap.objs.size)->s2.os=s.os->s2.gens=s.gens->s2.drawn=s.drawn->
   (∀b o,s.heap.get? b=pi o->b∉wr)->(∀b o,s.heap.get? b=pi o->s2.heap.get? b=pi o)->Q' (.ref I') s2):wpAny (model X.prog X.w) A (pyIter (.ref p)) Q' Ex s:=by
 rcases hq with hq|hq;obtain⟨its,j,g,_⟩:=I.list hq;have f:p<s.heap.objs.size:=by obtain⟨o,n,e,_⟩:=g;exact ah e
 refine wpAny_pyIter_list g.isList (k its _ s.heap.objs.size [s.heap.objs.size,p] [s.heap.objs.size] (λi h=>h.IsListIter s.heap.objs.size p i/\h.IsList p its.toArray) j ?_ (And.intro ⟨_,af _ rfl,rfl,rfl⟩ ?_) ?_ rfl rfl rfl ?_ ?_);have W:=Walks.list (prog:=X.prog) (w:=X.w) hh s.heap.objs.size p (bh f) its.toArray;simpa using W;obtain⟨o,n,e,c,d⟩:=g;exact⟨o,ae _ e,c,n,d.2⟩;intro b a;rcases av.mp a with rfl|a;rw[ai];exact jm _;have:b=p:=by simpa using a
 subst this;rw[ai];exact jf f;intro b o e a;have:b=s.heap.objs.size:=by simpa using a
 subst this;exact absurd (ah e) (lj _);exact λb o e=>ae _ e;obtain⟨its,j,g,_⟩:=I.tuple hq;have f:p<s.heap.objs.size:=g.lt;refine wpAny_pyIter_tuple (show s.heap.IsTuple p its.toArray from g) (k its _ s.heap.objs.size [s.heap.objs.size,p] [s.heap.objs.size] (λi h=>h.IsTupleIter s.heap.objs.size p i/\h.IsTuple p its.toArray) j ?_ (And.intro ⟨_,af _ rfl,rfl,rfl⟩ ?_) ?_ rfl rfl rfl ?_ ?_);have W:=Walks.tuple (prog:=X.prog) (w:=X.w) hh s.heap.objs.size p (bh f) its.toArray;simpa using W;obtain⟨o,e,c⟩:=g;exact⟨o,ae _ e,c⟩;intro b a;rcases av.mp a with rfl|a;rw[ai];exact jm _;have:b=p:=by simpa using a
 subst this;rw[ai];exact jf f;intro b o e a;have:b=s.heap.objs.size:=by simpa using a
 subst this;exact absurd (ah e) (lj _);exact λb o e=>ae _ e
end
section
variable{X:Cx}{ad:Ad}{cc:cf}{s:Shared}{σ:St}{H G:Hp}{Q:VK}{E:Nat->Hp->Prop}{pos p:Pos}{a b c:Expr}{f g:F}
def _root_.L2.Inv.moved{wr}{s2 s'}(I:Inv X cc σ H s)(k1: ∀b o,s.heap.get? b=pi o->s2.heap.get? b=pi o)(k2: ∀b o,s.heap.get? b=pi o->b∉wr)(e1:s2.os=s.os)(e2:s2.gens=s.gens)(e3:s2.drawn=s.drawn)
  (m:Moved wr (λa b=>b=a) s2 s'):Inv X cc σ H s':=by
 have e:s'={s with heap:=s'.heap,toks:=s'.toks}:=by
  refine gzq λRz ez=>?_;obtain⟨h,j,g,n,p⟩:=s';obtain⟨l,d,c,f,i⟩:=m;subst ez;simp only at d c f ⊢;rw[d,c,f,e1,e2,e3]
 rw[e];exact I.kept λb o q=>m.heap b o (k2 b o q) (k1 b o q)
def JZ{ns:L1 Int}{its}(r:b9 (ns.map V.int) its){i:Nat}{v}(e:its[i]? =pi v): ∃t,v= .int (ns.getD i 0) t:=by
 have f:=r.length;have g:i<its.length:=(ay.mp e).1;have a:i<ns.length:=by rw[aq]at f;lia
 have c:(ns.map V.int)[i]? =pi (V.int ns[i]):=by simp[a]
 obtain⟨u,b,t,d⟩:=r.get c;rw[e]at b;cases b;refine⟨t,?_⟩;rw[d];simp[List.getD,a]
def FY(hh:X.A.handled=qb):BOp X ad (.builtin "sum") BO:=by intro cc s Z H G x v u Q E I o q w U;have a:RK X.K ad G H (match(items x).bind jJ with|some xs=>.ok (.int xs.sum)|none=>.bad) Q E:=U;rcases e:items x with _|n;rw[e]at a;exact a.elim;rw[e]at a;have b:RK X.K ad G H (match jJ n with|some xs=>.ok (.int xs.sum)|none=>.bad) Q E:=a;rcases d:jJ n with _|h;rw[d]at b;exact b.elim;rw[d]at b;obtain⟨p,j,rfl,L,O⟩:=q.items o e;have f:SqL X.K H p j\/SqT X.K H p j:=L.elim (λz=>.inr z.2) λz=>.inl z.2;cases (show u=pf p from w);have ev:=rE d O;subst ev;refine call_sum_walkAnyS (vC (A:=X.A.in1) hh I f λc s2 B t r Y l W y g J C M S N=>?_);refine⟨B,t,r,_,c.length,_,_,λi=>h.getD i 0,rfl,W.toS,y,g,λi v e=>JZ l e,λs' T m=>?_⟩;refine⟨.int h.sum,H,I.moved N S J C M m,⟨T,?_⟩,b.ok_now o bT⟩;rw[preSum_getD, <-l.length,aq,List.take_length]
def M8{ns:L1 Bool}{its}(r:b9 (ns.map V.bl) its){i:Nat}{v}(e:its[i]? =pi v):v= .bool (ns.getD i qe):=by
 have g:=r.length;have h:i<its.length:=(ay.mp e).1;have a:i<ns.length:=by rw[aq]at g;lia
 have c:(ns.map V.bl)[i]? =pi (V.bl ns[i]):=by simp[a]
 obtain⟨u,b,f⟩:=r.get c;rw[e]at b;cases b;have d:v= .bool ns[i]:=f;rw[d];simp[List.getD,a]
def zJ(ns:L1 Bool):(oo ns.length).all (λi=>ns.getD i qe)=ns.all id:=by
 induction ns with
 |nil=>rfl
 |cons x a b=>
  rw[bq,List.range_succ_eq_map,lz,List.all_map,lz];have:(oo a.length).all ((λi=>(x::a).getD i qe) ∘ Nat.succ)=a.all id:=by
   rw[<-b];rfl
  rw[this];rfl
def FZ(hh:X.A.handled=qb):BOp X ad (.builtin "all") IG:=by intro cc s σ H G x v u Q E I l q t Z;have a:RK X.K ad G H (match(items x).bind fI with|some xs=>.ok (.bl (xs.all id))|none=>.bad) Q E:=Z;rcases e:items x with _|j;rw[e]at a;exact a.elim;rw[e]at a;have b:RK X.K ad G H (match fI j with|some xs=>.ok (.bl (xs.all id))|none=>.bad) Q E:=a;rcases d:fI j with _|J;rw[d]at b;exact b.elim;rw[d]at b;obtain⟨p,g,rfl,M,U⟩:=q.items l e;have f:SqL X.K H p g\/SqT X.K H p g:=M.elim (λz=>.inr z.2) λz=>.inl z.2;cases (show u=pf p from t);have ev:=nF d U;subst ev;refine call_all_walkS (vC (A:=X.A.in1) hh I f λc s2 y r o ab h W w T L B N Y S=>?_);refine⟨y,r,o,_,c.length,_,_,λi=>J.getD i qe,rfl,W.toS,w,?_,λC m=>?_⟩;intro i v C Q' E' O n;rw[M8 h O];exact wpAny_truthy_bool n;refine⟨.bl _,H,I.moved S Y L B N m,?_,b.ok_now l cS⟩;rw[<-h.length,aq,zJ];rfl
def OT{α:Type}{ds:L1 α}(h:ds.length=2): ∃d e,ds=[d,e]:=by rcases ds with _|⟨d,r⟩;cases h;rcases r with _|⟨e,r⟩;cases h;rcases r with _|⟨_,_⟩;exact⟨d,e,rfl⟩;simp at h
def IM{x}{id}{r}{op:Int->Int->Int}(hd: ∀i j,r [.int i,.int j]= .ok (.int (op i j)))(hb0: ∀x y Q E G H,RK X.K ad G H (r [x,y]) Q E->∃i j,x= .int i/\y= .int j)
  (ho:kH X (.builtin id) (λxs H Q=>∃i j,xs=[.int i,.int j]/\Q (.int (op i j)) H)) (hg:L2.Gl X x) (hm:X.mg x=qb) (hv:bootBuiltins x=pi (.builtin id)) (ha:ME X ad a f) (hb:ME X ad b g) (hn:x≠"__name__")
  (hdb:(x==("__debug__":Str))=qe) (he:starEach [a,b] X.env=(qe,eval a X.env)::starEach [b] X.env) (he2:starEach [b] X.env=(qe,eval b X.env)::starEach [] X.env):ME X ad (.Call (.Name x p) [a,b] [] pos) (aH r [f,g]):=by
 refine PE.imp (uT (id:=id) ho hg hm hv (oI ha (oI hb zD he2) he) hn hdb he (by rw[he2];rfl)) ?_
 rintro C H Q ⟨G,J,E,A,o,q,u⟩;refine tN A o q u λN I z B w l t k=>?_
 obtain⟨d,e,rfl⟩:=OT t;obtain⟨i,j,rfl,rfl⟩:=hb0 d e Q E z B k;unfold aK at l;obtain⟨v,M,rfl,m,c⟩:=l;unfold aK at c;obtain⟨L,s,rfl,n,h⟩:=c;unfold aK at h;subst h;unfold Rep at m n;subst m;subst n;rw[hd]at k;exact⟨i,j,rfl,k.ok_now w.gh bT⟩
def w6(K:mj)(ad:Ad)(n:Nat)(F:Fn):Sp:=λvs H Q E=>∃G ds,Same G H/\aK K ad G ds vs/\ds.length=n/\RK K ad G H (F ds) Q (λc H'=>E (.ref (ad.cls c)) qb H')
def oK{f}{E}(F:FnOk X.prog X.w X.K X.mg X.base CX k f fd ps sp)(hr:Room k X.A)(hb:dO X.K fd ps [])(I:Inv X cc σ H s)(r:b9 vs us)(h:sp vs H Q E)(hx: ∀e s',CX X.stack H s E e s'->X.xe e s'):X.wp (call (.ref f) us) (EP X cc σ Q) X.xe s:=by
 have c:(us++[]).length=ps.length:=by rw[j3, <-r.length];exact F.len _ _ _ _ h
 refine wpAny_call (codeAny_mono (F.run X.A X.stack s H ⟨us,[]⟩ us vs Q E hr I.env0 (by have:=hb s us I.kIn c;rwa [j3]at this) r h) λr s' a=>?_);cases r with
 |error e=>exact hx e s' a
 |ok b=>
  cases b with
  |ret u=>exact I.after a
  |next=>exact ba a
  |brk=>exact ba a
  |cont=>exact ba a
structure FnGood(X:Cx)(ad:Ad)(k:Nat)(x:Str)(n:Nat)(F:Fn)(f:Addr):Prop where
 mg:X.mg x=pi (.ref f)
 kp:ku X.K (.ref f)=qc
 ok: ∃fd ps,FnOk X.prog X.w X.K X.mg X.base (CXe X.prog X.w) k f fd ps (w6 X.K ad n F)/\dO X.K fd ps []
def zK{F}{f}(T:FnGood X ad k x n F f)(hr:Room k X.A)(I:Inv X cc σ H s)(hG:Same G H)(hx:XP X ad σ E)(r:b9 vs us)(rq:aK X.K ad G ds vs)(hl:ds.length=n)(h:RK X.K ad G H (F ds) Q E):X.wp (call (.ref f) us) (EP X cc σ Q) X.xe s:=by obtain⟨l,j,b,a⟩:=T.ok;exact oK (E:=xk ad E) b hr a I r ⟨G,ds,hG,rq,hl,h.impE λc i e=>⟨c,rfl,e⟩⟩ λe g d=>hx cc H s e g I d
def F3{F}{f}(T:FnGood X ad k x n F f)(hr:Room k X.A)(hg:L2.Gl X x)(hdb:(x==("__debug__":Str))=qe)(ha:MA X ad (a::es) fs)(hn:fs.length=n)(he:starEach (a::es) X.env=(qe,eval a X.env)::starEach es X.env)(hpl:(backTo pos (starEach es X.env)).any (·.1)=qe):ME X ad (.Call (.Name x p) (a::es) [] pos) (aH F fs):=by
 refine λv s t H Q I q=>q.el λG z E u o l i=>?_;refine wpAny_Call_Name_kw (fT I hg T.mg ?_ hdb);refine im (h₀:=X.base) I.ok.mod.kin T.kp (L2.thn (ha pos v s t H (λj d=>∃b c,Step G H c d/\aK X.K ad c b j/\b.length=fs.length/\RK X.K ad c d (F b) Q E) I
  (tN u o l i λj b c d h e g k=>⟨b,c,h,e,g,k⟩)) λy w ⟨j,d,m,r,b,c,h,e,g,k⟩=>⟨m.kIn,?_⟩) he hpl
 exact zK T hr m h.gh l r e (g.trans hn) k
structure FnAt(X:Cx)(ad:Ad)(k:Nat)(n:Nat)(F:Fn)(f:Addr):Prop where
 kp:ku X.K (.ref f)=qc
 ok: ∃fd ps,FnOk X.prog X.w X.K X.mg X.base (CXe X.prog X.w) k f fd ps (w6 X.K ad n F)/\dO X.K fd ps []
end
noncomputable def lQ(cells:L1 (Str×Addr)):L1 (Str×NameKind)->L1 (Str×Addr)->L1 (Str×Addr)
 |[],acc=>acc
 |(x,k)::r,acc=>lQ cells r (if k== .free then(x,(cells.lookup x).getD 0)::acc else acc)
theorem kQ{cells}: ∀{ns} {acc} {x} {c},(lQ cells ns acc).lookup x=pi c->(∃k,(x,k)∈ns/\k= .free/\c=(cells.lookup x).getD 0)\/acc.lookup x=pi c
 |[],acc,x,c,h=>.inr h
 |(y,k)::r,acc,x,c,h=>by
  rcases kQ (ns:=r) h with ⟨d,f,g,b⟩|h;exact .inl ⟨d,.tail _ f,g,b⟩;by_cases hk:(k==l0)=qc;rw[if_pos hk,jo]at h;rcases a:x==y with _|_;rw[a]at h;exact .inr h;rw[a]at h;have e:x=y:=eq_of_beq a;subst e;exact .inl ⟨k,.head _,eq_of_beq hk,(jw h).symm⟩;rw[if_neg hk]at h;exact .inr h
theorem vD{cells}: ∀{ns} {acc} {x},(acc.lookup x).isSome=qc->((lQ cells ns acc).lookup x).isSome=qc
 |[],_,_,h=>h
 |(y,k)::r,acc,x,h=>by
  refine vD (ns:=r) ?_;by_cases hk:(k==l0)=qc;rw[if_pos hk,jo];rcases x==y with _|_;exact h;rfl;rw[if_neg hk];exact h
theorem kR{cells}: ∀{ns} {acc} {x},(x,l0)∈ns->((lQ cells ns acc).lookup x).isSome=qc
 |[],_,_,h=>nomatch h
 |(y,k)::r,acc,x,h=>by
  rcases av.mp h with e|h;cases e;refine vD (ns:=r) ?_;rw[if_pos (by rfl),jo,beq_self_eq_true];rfl;exact kR (ns:=r) h
def jN(h: ∀x,(x,l0)∈sc.names->(env.cells.lookup x).isSome=qc):closureFor sc env=pure (lQ env.cells sc.names []):=by
 have o: ∀(d:L1 (Str×NameKind)) (a:L1 (Str×Addr)),(∀x,(x,l0)∈d->(env.cells.lookup x).isSome=qc)->
   (forIn d a (λ(p:Str×NameKind) (b:L1 (Str×Addr))=>if p.2== .free then do let c<-cellOf env p.1;pure (kj ((p.1,c)::b))else pure (kj b)):Sem (L1 (Str×Addr)))=pure (lQ env.cells d a):=by
  intro d;induction d with
  |nil=>intro a _;rfl
  |cons p r l=>
   intro a i;obtain⟨x,k⟩:=p;rw[kl];by_cases hk:(k==l0)=qc;have m:k= .free:=eq_of_beq hk;subst m;obtain⟨c,j⟩:=dz.mp (i x (.head _));have n:cellOf env x=pure c:=by unfold cellOf;rw[j]
   have g:=l ((x,c)::a) λy f=>i y (.tail _ f);simp only[beq_self_eq_true,if_true,n];show(forIn r ((x,c)::a) _:Sem (L1 (Str×Addr)))=_;rw[g];show pure _=pure (lQ env.cells r (if(l0==l0)=qc then(x,(env.cells.lookup x).getD 0)::a else a));rw[if_pos (by rfl),j];rfl;simp only[hk];show(forIn r a _:Sem (L1 (Str×Addr)))=_;rw[l a λy f=>i y (.tail _ f)];show pure _=pure (lQ env.cells r (if(k==l0)=qc then _ else a));rw[if_neg hk]
 have e:=o sc.names [] h;have g:closureFor sc env=((forIn sc.names ([]:L1 (Str×Addr)) (λ(p:Str×NameKind) (b:L1 (Str×Addr))=>if p.2== .free then do let c<-cellOf env p.1;pure (kj ((p.1,c)::b))else pure (kj b)):Sem (L1 (Str×Addr))) >>= λb=>pure b):=rfl;rw[g,e];rfl
theorem cM{env:ph}{x}: ∀{names:L1 (Str×NameKind)},(names.map λ(n,k)=>if(k==l0&&env.scope.kind== .function&&env.kindOf n==pi .cell)then(n,mf)else(n,k)).lookup x=
  (names.lookup x).map λk=>if(k==l0&&env.scope.kind== .function&&env.kindOf x==pi .cell)then mf else k
 |[]=>rfl
 |(n,k)::r=>by
  rw[lm];have c:= @cM env x r;show n8 x ((if(k==l0&&env.scope.kind== .function&&env.kindOf n==pi .cell)=qc then(n,mf)else(n,k))::_)=_;by_cases a:(k==l0&&env.scope.kind== .function&&env.kindOf n==pi .cell)=qc;rw[if_pos a,jo,jo];rcases b:x==n with _|_;exact c;have e:x=n:=eq_of_beq b;subst e;simp only[pc,a,if_true];rw[if_neg a,jo,jo];rcases b:x==n with _|_;exact c;have e:x=n:=eq_of_beq b;subst e;simp only[pc];rw[if_neg a]
def L5:Nat->Nat->TGs
 |_,0=>Mu
 |j,n+1=>Fj (k9 j) (L5 (j+1) n)
noncomputable def iF:Nat->L1 V->St->St
 |_,[],σ=>σ
 |j,v::r,σ=>iF (j+1) r (σ.set j (pi v))
theorem zL: ∀{vs} {j} {σ} {H} {Q:St->Hp->Prop},Q (iF j vs σ) H->L5 j vs.length vs σ H Q
 |[],_,_,_,_,h=>⟨rfl,h⟩
 |v::r,j,σ,H,Q,h=>⟨v,r,rfl,zL (vs:=r) (j:=j+1) (σ:=σ.set j (pi v)) h⟩
theorem fW: ∀{vs} {j} {σ},(iF j vs σ).length=σ.length
 |[],_,_=>rfl
 |v::r,j,σ=>by
  show(iF (j+1) r (σ.set j (pi v))).length=_;rw[fW (vs:=r),ke]
theorem lR: ∀{vs} {j i} {σ},j+vs.length<=i\/i<j->(iF j vs σ)[i]? =σ[i]?
 |[],_,_,_,_=>rfl
 |v::r,j,i,σ,h=>by
  show(iF (j+1) r (σ.set j (pi v)))[i]? =_;simp only[bq]at h;rw[lR (vs:=r) (by lia),bc (by lia)]
theorem rF: ∀{vs} {j i} {σ} {v},vs[i]? =pi v->j+vs.length<=σ.length->(iF j vs σ)[j+i]? =pi (pi v)
 |[],_,_,_,_,h,_=>by simp at h
 |w::r,j,0,σ,v,h,hl=>by
  simp at h;subst h;show(iF (j+1) r (σ.set j (pi w)))[j]? =_;rw[lR (vs:=r) (.inr (by lia)),bj (by simp only[bq]at hl;lia)]
 |w::r,j,i+1,σ,v,h,hl=>by
  show(iF (j+1) r (σ.set j (pi w)))[j+(i+1)]? =_;have e:j+(i+1)=(j+1)+i:=by lia
  rw[e];exact rF (vs:=r) (by simpa using h) (by simp only[bq,ke]at hl ⊢;lia)
section
variable{X:Cx}
theorem rH(hN:X.N.Nodup): ∀{es} {xs} {j},eG (λe=>match e with|.Name x _=>pi x|_=>qb) es=pi xs->(∀i x,xs[i]? =pi x->X.N[j+i]? =pi x/\X.env.scope.names.lookup x=pi .local)->PGs X es (L5 j xs.length)
 |[],xs,j,e,_=>by
  cases e;exact x9
 |a::es,xs,j,e,h=>by
  unfold eG at e;cases a<;>try (cases e)
  rename_i x n;simp only at e;obtain⟨r,d,f⟩:=zMd e;subst f;obtain⟨m,b⟩:=h 0 x rfl;refine uQ (lA hN (by simpa using m) (.inl b) (.inr b)) (rH hN d λi y c=>?_) rfl;obtain⟨g,l⟩:=h (i+1) y (by simpa using c);exact⟨by rw[<-g];congr 1;lia,l⟩
def gTg(K:mj)(k:Nat):TG:=match k with
 |0=>k9 0
 |n+1=>IE K (n+1) (L5 0 (n+1))
def M9{tg}(hc:X.calm=qc)(hN:X.N.Nodup)(e:cF tg=pi (xs,k))(h: ∀(i:Nat) x,xs[i]? =pi x->X.N[i]? =pi x/\X.env.scope.names.lookup x=pi .local):PG X tg (gTg X.K k):=by
 cases tg<;>try (cases e)
 rename_i x q;obtain⟨l,d⟩:=h 0 x rfl;exact lA hN l (.inl d) (.inr d);rename_i m j q;unfold cF at e;obtain⟨u,c,f⟩:=zBd e;by_cases g:2<=u.length;rw[if_pos g]at f;cases f;have P:=rH (X:=X) hN (j:=0) c λi x w=>by
  obtain⟨l,d⟩:=h i x w;exact⟨by rw[Nat.zero_add];exact l,d⟩
 have b:(assignEach m X.env).length=xs.length/\(assignEach m X.env).findIdx? (·.1)=qb:=by
  clear P g h e;induction m generalizing xs with
  |nil=>cases c;exact⟨rfl,rfl⟩
  |cons a r B=>
   unfold eG at c;cases a<;>try (cases c)
   rename_i z p;simp only at c;obtain⟨C,y,A⟩:=zMd c;subst A;obtain⟨v,t⟩:=B y;have s:assignEach (Expr.Name z p::r) X.env=(qe,assign (.Name z p) X.env)::assignEach r X.env:=rfl;rw[s];refine⟨by simp[v],?_⟩;rw[ik];simp[t]
 obtain⟨n,o⟩: ∃n,xs.length=n+1:=⟨xs.length-1,by lia⟩;rw[o]at P ⊢;exact D0 hc P (by rw[<-o];exact b.1) b.2;rw[if_neg g]at f;cases f
end
structure ItH(X:Cx)(ad:Ad)(J:It)(G H:Hp)(ds:List D):Prop where
 go: ∀(i:Nat) (G1 H1:Hp) (d:D),Step G H G1 H1->ds[i]? =pi d->J.go i H1/\∀x H2,J.yld i H1 x H2->∃G2,Step G1 H1 G2 H2/\Rep X.K ad G2 d x
 stop: ∀(G1 H1:Hp),Step G H G1 H1->J.stop ds.length H1
 few:ds.length<=sizeLine
def IK(X:Cx)(ad:Ad)(G H:Hp)(r:R)(W:It->Hp->Prop)(E:Nat->Hp->Prop):Prop:=match r with
 |.ok d=>∃ds,j9 d=pi ds/\∀J G' H',Step G H G' H'->ItH X ad J G' H' ds->W J H'
 |.ow xs=>∀J G' H',Step G H G' H'->ItH X ad J G' H' xs->W J H'
 |.ex c=>∀G' H',Step G H G' H'->E c H'
 |.bad=>False
def tI(X:Cx)(ad:Ad)(f:F):TI:=λσ H W=>∃G ρ E,Same G H/\SL X.K ad G H ρ σ/\XP X ad σ E/\IK X ad G H (f ρ) W E
abbrev MI(X:Cx)(ad:Ad)(tg e:Expr)(f:F):Prop:=PI X tg e (tI X ad f)
def Cel(sc:Scope):Prop:=qV sc=[]\/∃x,qV sc=[x]/\sc.names.lookup x=pi .cell
theorem cf0: ∀{ns} {a} {acc},(ns.filter λp=>p.2== .cell).map (·.1)=[]->cellsFrom a ns acc=acc/\∀h,pushCells h ns=h
 |[],_,_,_=>⟨rfl,λ_=>rfl⟩
 |(y,k)::r,a,acc,e=>by
  by_cases hk:(k==mf)=qc;simp[jn,hk]at e;have b:(r.filter λp=>p.2== .cell).map (·.1)=[]:=by simpa[jn,hk]using e
  obtain⟨c,d⟩:=cf0 (a:=a) (acc:=acc) b;unfold cellsFrom pushCells;exact⟨by rw[if_neg hk];exact c,λh=>by rw[if_neg hk];exact d h⟩
theorem cf1: ∀{ns} {a} {acc} {x},(ns.filter λp=>p.2== .cell).map (·.1)=[x]->cellsFrom a ns acc=(x,a)::acc/\∀h,pushCells h ns=h.push {cls:=.type "cell",data:=.cell qb}
 |[],_,_,_,e=>by simp at e
 |(y,k)::r,a,acc,x,e=>by
  by_cases hk:(k==mf)=qc;have b:y=x/\(r.filter λp=>p.2== .cell).map (·.1)=[]:=by simpa[jn,hk]using e
  obtain⟨rfl,b⟩:=b;obtain⟨c,d⟩:=cf0 (a:=a+1) (acc:=(y,a)::acc) b;unfold cellsFrom pushCells;exact⟨by rw[if_pos hk];exact c,λh=>by rw[if_pos hk];exact d _⟩;have b:(r.filter λp=>p.2== .cell).map (·.1)=[x]:=by simpa[jn,hk]using e
  obtain⟨c,d⟩:=cf1 (a:=a) (acc:=acc) b;unfold cellsFrom pushCells;exact⟨by rw[if_neg hk];exact c,λh=>by rw[if_neg hk];exact d h⟩
def clC(X:Cx)(sc:Scope)(L:Addr):L1 (Str×Addr):=cellsFrom (L+1) sc.names (lQ X.env.cells sc.names [])
def fX(hc:Cel sc)(h:(clC X sc L).lookup y=pi c):(qV sc=[y]/\c=L+1)\/(lQ X.env.cells sc.names []).lookup y=pi c:=by unfold clC at h;rcases hc with e|⟨x,e,_⟩;rw[(cf0 e).1]at h;exact .inr h;rw[(cf1 e).1,jo]at h;rcases q:y==x with _|_;rw[q]at h;exact .inr h;rw[q]at h;rw[eq_of_beq q];exact .inl ⟨e,(jw h).symm⟩
def zM(e:qV sc=[x]):(clC X sc L).lookup x=pi (L+1):=by unfold clC;rw[(cf1 e).1,jo,beq_self_eq_true]
def vE(hc:Cel sc)(hy:sc.names.lookup y=pi .free)(h:(lQ X.env.cells sc.names []).lookup y=pi c):(clC X sc L).lookup y=pi c:=by unfold clC;rcases hc with e|⟨x,e,hx⟩;rw[(cf0 e).1];exact h;rw[(cf1 e).1,jo];rcases q:y==x with _|_;exact h;rw[eq_of_beq q,hx]at hy;cases hy
def cX(X:Cx)(N':L1 Str)(sc:Scope)(s3:Shared)(H3:Hp)(fp:L1 Addr)(cc:cf):Cx:=
 {X with N:=N',s₀:=s3,H₀:=H3,env:=compEnvC sc (clC X sc s3.z) s3.z X.env,outer:=X.stack,stack:=X.stack,ex:=fp,fn:=λy=>decide (qV sc=[y]),pn:=X.pn++cc,xe:=λ_ _=>False}
section
variable{ad:Ad}{σ:St}{fp:L1 Addr}
def Cm{σ}(h:Y.xe=λ_ _=>False):XP Y ad σ (λ_ _=>False):=by intro i H s e g I a;obtain⟨d,b,f,j,B,_,_,_,_,_,_,_,_,_,c,_,z⟩:=a;exact z.elim
def Un.sameBut(u:Un fs ex H H' h h1)(sb:mz C h1 h2)(hC:h.objs.size<=C):Un fs ex H H' h h2:=by
 have d: ∀b o,h.get? b=pi o->b≠C:=λb o e z=>by
  subst z;exact absurd (bg (ah e) hC) (lj _)
 refine⟨λb o e n c a=>?_,λb o e n c a=>?_,u.free,λb o e a=>?_,u.tups,u.frzs,u.tbls⟩;exact(sb.2 b (d b o e)).trans (u.keep b o e n c a);obtain⟨f,z⟩:=u.slot b o e n c a;exact⟨f,(sb.2 b (d b o e)).trans z⟩;obtain⟨g,z⟩:=u.there b o e a;exact⟨g,(sb.2 b (d b o e)).trans z⟩
def Cn{fpO: ∀b∈fp,pV X cc H3 b}(I:Inv X cc σ H3 s3)(hk:sc.kind= .function)(hc:Cel sc)(hfree: ∀x,(x,l0)∈sc.names->X.env.kindOf x=pi .cell\/X.env.kindOf x=pi .free)(hnd: ∀x,(x,l0)∈sc.names->sc.names.lookup x=pi .free)(hfo: ∀b∈fp,b<s3.heap.objs.size)(hns:h4.Ns s3.heap.objs.size m)(hkeep: ∀b o,s3.heap.get? b=pi o->h4.get? b=pi o)(hnew: ∀x,qV sc=[x]->h4.IsCell (s3.heap.objs.size+1) qb){σc:St}(hl:σc.length=N'.length)(hσ: ∀(i:Nat) x v,N'[i]? =pi x->σc[i]? =pi (pi v)->∃j:Nat,X.N[j]? =pi x/\σ[j]? =pi (pi v)/\(x,l0)∈sc.names):
  Inv (cX X N' sc s3 H3 fp cc) [] σc H3 {s3 with heap:=h4,toks:=t'}:=by
 have f: ∀x c,(lQ X.env.cells sc.names []).lookup x=pi c->(x,l0)∈sc.names/\X.env.cells.lookup x=pi c:=λx c e=>by
  rcases kQ e with ⟨k,A,s,h3⟩|h
  .subst s;refine⟨A,?_⟩;obtain⟨c',g⟩:=I.ok.has x (hfree x A);rw[g]at h3;rw[h3];exact g
  .cases h
 have G: ∀x c,(lQ X.env.cells sc.names []).lookup x=pi c->c<s3.heap.objs.size:=λx c e=>by
  obtain⟨v,o,J,_⟩:=I.cell x c (f x c e).2;exact ah J
 have K: ∀b,b∈frs X.stack->b=X.env.locals\/b∈X.fs:=λb w=>av.mp (I.stkSub b w)
 refine⟨⟨I.ok.mod,hk,I.ok.glob,I.ok.blt,aj _,λx y c A s=>?_,λx hx=>?_,λx c A s=>?_,I.ok.hd,I.ok.frames,.inl rfl,λb w=>?_,I.bs,mq I.ok.bsz I.sz,λb o e w=>?_,λb w Q=>?_,I.stack,I.stkFree⟩,
  rfl,I.bare,Un.kept hkeep,⟨m,hns,λi x v A s h3=>?_⟩,λx c h=>?_,I.hok.fresh (aj _),λx c h=>?_,λq hq=>?_,I.hok.kept hkeep,hl⟩
 .rcases fX hc A with ⟨W,O⟩|O
  .rcases fX hc s with ⟨H,E⟩|E
   .rw[W]at H;exact(ly H).1
   .have:=G y c E
    rw[O]at this;exact absurd this (o0.mpr (oe _))
  .rcases fX hc s with ⟨H,E⟩|E
   .have:=G x c O
    rw[E]at this;exact absurd this (o0.mpr (oe _))
   .exact I.ok.inj x y c (f x c O).2 (f y c E).2
 .
  have e:(sc.names.lookup x).map (λk=>if(k==l0&&X.env.scope.kind== .function&&X.env.kindOf x==pi .cell)then mf else k)=pi .cell\/(sc.names.lookup x).map (λk=>if(k==l0&&X.env.scope.kind== .function&&X.env.kindOf x==pi .cell)then mf else k)=pi .free:=by
   rw[<-cM];exact hx
  cases q:sc.names.lookup x with
  |none=>rw[q]at e;rcases e with e|e<;>cases e
  |some k=>
   have hm:=gy q
   by_cases B:k= .free
   .subst B;obtain⟨c,g⟩:=dz.mp (kR (cells:=X.env.cells) (acc:=[]) hm);exact⟨c,vE hc q g⟩
   .have Y:(k==l0)=qe:=by simpa using B
    rw[q]at e;simp only[pc,Y,Bool.false_and]at e;rcases e with e|e
    .have ak:k= .cell:=by simpa using e
     subst ak;have p:x∈qV sc:=au.mpr ⟨(x,.cell),jy.mpr ⟨hm,by simp⟩,rfl⟩
     have C:qV sc=[x]:=by
      rcases hc with z|⟨y,z,_⟩
      .rw[z]at p;cases p
      .rw[z]at p ⊢;rw[ip.mp p]
     exact⟨_,zM C⟩
    .exact absurd (by simpa using e) B
 .have C:qV sc=[x]:=of_decide_eq_true A
  have:=s.symm.trans (zM C)
  cases this;exact oe _
 .obtain⟨f0,U,Z,f3,T,f5⟩:=fpO b w;refine⟨bh (hfo b w),λx c h=>?_⟩
  rcases fX hc h with ⟨_,z⟩|z
  .rw[z];exact(bh (jf (hfo b w))).symm
  .exact T x c (f x c z).2
 .obtain⟨f0,U,Z,f3,T,f5⟩:=fpO b w;rcases f3 with z|z
  .exact I.ok.noex b o e z
  .exact absurd (bg (ah e) (mq I.ok.bsz z)) (lj _)
 .obtain⟨f0,U,Z,f3,T,f5⟩:=fpO b w;rcases K b Q with z|z
  .exact U z
  .exact Z z
 .obtain⟨j,j1,j2,M⟩:=hσ i x v A s;obtain⟨m0,al,ad⟩:=I.loc;have L:=hfree x M
  have S:Vis X.env.scope x:=by
   rcases L with z|z
   .exact .inr (.inl z)
   .exact .inr (.inr z)
  obtain⟨u,r,l⟩:=ad j x v j1 j2 S;refine⟨u,r,.inr ?_⟩;rcases l with ⟨z,_⟩|⟨_,c,ab,t⟩
  .rcases L with z'|z'
   .have:X.env.kindOf x=pi .local:=z
    rw[z']at this;cases this
   .have:X.env.kindOf x=pi .local:=z
    rw[z']at this;cases this
  .refine⟨?_,c,?_,?_⟩
   .have W:(relabel sc X.env).names.lookup x=(sc.names.lookup x).map (λk=>if(k==l0&&X.env.scope.kind== .function&&X.env.kindOf x==pi .cell)then mf else k):=cM
    have H:(relabel sc X.env).names.lookup x=pi .cell\/(relabel sc X.env).names.lookup x=pi .free:=by
     rw[W,hnd x M];simp only[pc];split
     .exact .inl rfl
     .exact .inr rfl
    exact H
   .obtain⟨c',g⟩:=dz.mp (kR (cells:=X.env.cells) (acc:=[]) M)
    have:=(f x c' g).2
    rw[ab]at this;cases this;exact vE hc (hnd x M) g
   .obtain⟨o,J,hd⟩:=t;exact⟨o,hkeep _ _ J,hd⟩
 .rcases fX hc h with ⟨e,z⟩|z
  .rw[z];exact⟨qb,hnew x e⟩
  .obtain⟨v,o,J,hd⟩:=I.cell x c (f x c z).2;exact⟨v,o,hkeep _ _ J,hd⟩
 .rcases fX hc h with ⟨e,z⟩|z
  .rw[z];exact I.hok.fresh (oe _)
  .exact I.freeC x c (f x c z).2
 .have ag:q∈X.pn++cc:=by
   have s:q∈(X.pn++cc)++[]:=hq
   rwa [j3]at s
  obtain⟨e,n,ne,nf,d⟩:=I.pin q ag;refine⟨hkeep _ _ e,n,bh (ah e),λz=>?_,d⟩
  rcases K _ z with z|z
  .exact ne z
  .exact nf z
def Et{fpO: ∀b∈fp,pV X cc H3 b}{σc:St}(I:Inv X cc σ H3 s3)(J:Inv (cX X N' sc s3 H3 fp cc) pn' σc H' s')(sb:mz s3.z s'.heap h'):Inv X cc σ H' {s' with heap:=h'}:=by
 have a:H' s3.z=qb:=J.free;refine I.call' (ch:=fp) (s':={s' with heap:=h'}) J.os (Un.sameBut J.base sb (aj _)) (λb u e=>?_) J.bare λb d=>?_;refine(J.hok b u e).stay (λc v i q=>?_) (λ_ q=>q) λ_ _ q=>q;have j:c≠s3.z:=by
  rintro rfl;rcases i with z|z;rw[<-z]at e;rw[a]at e;cases e;rw[a]at z;cases z
 exact(sb.2 c j).trans q;obtain⟨n,h,m,f,g,l⟩:=fpO b d;exact⟨f,h,g,l⟩
def tP(Iv:Nat->Shared->Prop)(turn: ∀n s,Iv n s->wpAny (model prog w) A (pyNext it) (λr s₁=>match r with
   |none=>Rr (.ok .next) s₁
   |some v=>wpAny (model prog w) A (letOwnedTupleGo target it v) (λ_ s₁'=>wpAny (model prog w) A (assign target env v) (λ_ s₂=>
     wpAny (model prog w) A (forIn ifs qc λc r=>if r=qc then do let ok<-isTrue c env (eval c env);pure (kj ok)else pure (kj r)) (λok s₃=>
      if ok=qc then wpAny (model prog w) A (eval elt env) (λx s₄=>
       wpAny (model prog w) A (call (.builtin "list.append") [acc,x]) (λ_ s₅=>∃m,m<n/\Iv m s₅) (λ_ _=>False) s₄) (λ_ _=>False) s₃
      else ∃m,m<n/\Iv m s₃) (λ_ _=>False) s₂) (λ_ _=>False) s₁') (λ_ _=>False) s₁) (λ_ _=>False) s)n(h:Iv n s):
  codeAny (model prog w) A (.compLoop (.ListComp elt [⟨target,iter,ifs,0⟩] scope pos) 0 it acc env) Rr s:=by
 refine codeAny_loop rfl Iv (λn s j=>?_) n h;show wpAny _ A ((compTurn (.ListComp elt [⟨target,iter,ifs,0⟩] scope pos) 0 it acc env).onRaise (λx=>do noteFrame x env;theTreesLotGoes x)) _ _ s;refine wpAny_noted (wpAny_noRaise ?_);rw[compTurn_list];refine aa (wpAny_standAt (aa (wpAny_mono (turn n s j) (λr s₁ b=>?_) λ_ _ a=>a)));rcases r with _|v;exact ac b;refine aa (wpAny_mono b (λ_ s₁' e=>?_) λ_ _ a=>a);refine aa (wpAny_mono e (λ_ s₂ i=>aa (wpAny_mono i (λok s₃ d=>?_) λ_ _ a=>a)) λ_ _ a=>a);rcases ok with _|_;exact ac ⟨rfl,d⟩;exact aa (aa (wpAny_mono d (λx s₄ g=>aa (wpAny_mono g (λ_ s₅ f=>ac (ac ⟨rfl,f⟩)) λ_ _ a=>a)) λ_ _ a=>a))
def lS(h:bM f (d::r)=pi all):(f d=pi qb/\bM f r=pi all)\/∃x all',f d=pi (pi x)/\bM f r=pi all'/\all=x::all':=by unfold bM at h;rcases e:f d with _|o;rw[e]at h;cases h;rw[e]at h;rcases o with _|x;exact .inl ⟨rfl,h⟩;obtain⟨a,b,c⟩:=zMd h;exact .inr ⟨x,a,rfl,b,c.symm⟩
def zN{K}{ts cs:L1 Slot}{σ}(h:SL K ad G H (ts++cs) σ):SL K ad G H (ao ts.length .no++cs) σ:=by
 refine⟨by rw[<-h.len];simp,λi c e=>?_⟩;by_cases a:i<ts.length;rw[bx (by simpa using a),eh,if_pos a]at e;cases e;have b:i<σ.length:=by rw[<-h.len,bo];lia
 exact⟨σ[i],by simp[b],trivial⟩;rw[bn (by simpa using a),fu]at e;refine h.at_ i c ?_;rw[bn (by lia)];exact e
def Eu{K}{cs:L1 Slot}{σ}(h:SL K ad G H (ao n .no++cs) σ)(r:aK K ad G ds vs)(hn:ds.length=n):SL K ad G H (ds.map Slot.sh++cs) (iF 0 vs σ):=by have p:=r.length;have o:=h.len;rw[bo,fu]at o;refine⟨by rw[fW,bo,aq];lia,λi l e=>?_⟩;by_cases q:i<n;rw[bx (by rw[aq];lia),i6]at e;rcases a:ds[i]? with _|d;rw[a]at e;cases e;rw[a]at e;cases e;obtain⟨v,c,b⟩:=r.get a;refine⟨pi v,?_,v,rfl,b⟩;have:=rF (j:=0) (σ:=σ) c (by lia);rwa [Nat.zero_add]at this;rw[bn (by rw[aq];lia),aq,hn]at e;obtain⟨f,m,g⟩:=h.at_ i l (by rw[bn (by rw[fu];lia),fu];exact e);exact⟨f,by rw[lR (.inl (by lia))];exact m,g⟩
def J0{K}{ts cs:L1 Slot}{σ}{W:St->Hp->Prop}(e:tgt k d=pi ts)(hn:n=if k=0 then 1 else k)(hG:Same G H)(r:Rep K ad G d v)(h:SL K ad G Hs (ao n .no++cs) σ)(q: ∀σ',σ'.length=σ.length->SL K ad G Hs (ts++cs) σ'->W σ' H):ts.length=n/\gTg K k v σ H W:=by
 cases k with
 |zero=>
  cases e;subst hn;refine⟨rfl,q _ (by rw[ke]) ?_⟩;have:=Eu (ds:=[d]) (vs:=[v]) h (aK.cons r aK.nil) rfl;exact this
 |succ k=>
  unfold tgt at e;cases d<;>try (cases e)
  rename_i ds;simp only at e;by_cases b:ds.length=k+1;rw[if_pos b]at e;cases e;rw[if_neg (by lia)]at hn;subst hn;unfold Rep at r;obtain⟨a,vs,rfl,g,f⟩:=r;refine⟨by rw[aq];exact b,a,vs,rfl,hG.seqT g,by rw[f.length];exact b,?_⟩;have c:vs.length=k+1:=by rw[f.length];exact b
  have:=zL (vs:=vs) (j:=0) (σ:=σ) (H:=H) (Q:=W) (q _ fW (Eu h f b));rwa [c]at this;rw[if_neg b]at e;cases e
end
section
variable{X:Cx}{ad:Ad}{cc:cf}{s2 s3:Shared}{σ:St}{H H2 H3 G2:Hp}{pos:Pos}{sc:Scope}{N':L1 Str}{fp:L1 Addr}{tg it elt:Expr}{ifs:L1 Expr}{k nt:Nat}{cs:L1 Slot}{fc:L7 F}{fe:F}
theorem fY{x}: ∀{N} {i},idx x N=pi i->N[i]? =pi x
 |[],_,e=>by cases e
 |y::r,i,e=>by
  unfold idx at e;by_cases h:x=y;rw[if_pos h]at e;cases e;subst h;rfl;rw[if_neg h]at e;obtain⟨j,b,a⟩:=zMd e;subst a;simpa using fY b
def MTs(X:Cx)(ad:Ad)(ifs:L1 Expr)(fc:L7 F):Prop:=match ifs,fc with
 |[],qb=>True
 |[c],pi f=>MT X ad c f
 |_,_=>False
def ME.val(ha:ME X ad a f)(I:Inv X cc σ H s)(hG:Same G H)(hS:SL X.K ad G H ρ σ)(hx:XP X ad σ E)(hf:f ρ= .ok x\/∃l,f ρ= .ow l/\x= .lst l):
  X.wp (eval a X.env) (λu s1=>∃v G1 H1,Inv X cc σ H1 s1/\bJ v u/\Step G H G1 H1/\Rep X.K ad G1 x v) X.xe s:=by
 rcases hf with e|⟨l,e,rfl⟩;exact L2.thn (ha cc s σ H (λv H1=>∃G1,Step G H G1 H1/\Rep X.K ad G1 x v) I ⟨G,ρ,E,hG,hS,hx,by rw[e];exact λv G1 H1 c q=>⟨G1,c,q⟩⟩) λu s1 b=>by obtain⟨v,H1,d,g,G1,c,q⟩:=b;exact⟨v,G1,H1,d,g,c,q⟩
 exact L2.thn (ha cc s σ H (λv H1=>∃G1,Step G H G1 H1/\Rep X.K ad G1 (.lst l) v) I ⟨G,ρ,E,hG,hS,hx,by
  rw[e];intro p h G1 H1 c n m i q;have j:=q.mono (Same.upd_new (o:=.lst h) m);exact⟨upd G1 p (.lst h),c.share n m i,by unfold Rep;exact⟨p,h,rfl,SqL.of aD,j⟩⟩⟩) λu s1 b=>by obtain⟨v,H1,d,g,G1,c,q⟩:=b;exact⟨v,G1,H1,d,g,c,q⟩
def MT.val{k}(ha:MT X ad a f)(I:Inv X cc σ H s)(hG:Same G H)(hS:SL X.K ad G H ρ σ)(hx:XP X ad σ E)(hf:f ρ= .ok (.bl k)):
  X.wp (isTrue a X.env (eval a X.env)) (λb s1=>b=k/\∃G1 H1,Inv X cc σ H1 s1/\Step G H G1 H1) X.xe s:=by
 exact L2.thn (ha cc s σ H (λb H1=>b=k/\∃G1,Step G H G1 H1) I ⟨G,ρ,E,hG,hS,hx,.inl ⟨k,hf⟩,by rw[hf];exact λv G1 H1 c q=>⟨k,by unfold Rep at q;exact q,rfl,G1,c⟩⟩) λb s1 d=>by obtain⟨H1,g,e,G1,c⟩:=d;exact⟨e,G1,H1,g,c⟩
def iW{G1 H1 G2 H2}{D}(st:Step G1 H1 G2 H2)(g:G1 D=qb)(h:H1 D=pi (.lst vs)):G2 D=qb/\H2 D=pi (.lst vs):=by refine⟨?_,st.sh _ _ h⟩;rcases z:G2 D with _|o;rfl;have:=st.nw D g (by rw[z];exact λz=>nomatch z);rw[h]at this;cases this
def rJ{G1 H1 G2 H2}{D}(st:Step G1 H1 G2 H2)(n:H1 D=qb)(g:G2 D=qb):Step G1 H1 G2 (upd H2 D o):=by
 refine⟨st.sg,λb u e=>?_,λb u e=>?_,st.nw⟩;have a:b≠D:=λz=>by subst z;rw[g]at e;cases e
 rw[aA a];exact st.gh b u e;have a:b≠D:=λz=>by subst z;rw[n]at e;cases e
 rw[aA a];exact st.sh b u e
noncomputable def hid(D:Addr)(H:Hp):Hp:=λb=>if b=D then qb else H b
def lT{D b}{H}(h:b≠D):hid D H b=H b:=by unfold hid;rw[if_neg h]
def g6{D}{H}:hid D H D=qb:=by unfold hid;rw[if_pos rfl]
def zO{D}{H}:Same (hid D H) H:=λb o e=>by
 by_cases z:b=D;subst z;rw[g6]at e;cases e;rwa [lT z]at e
def zP{D}{H}:hid D (upd H D o)=hid D H:=by funext b;by_cases z:b=D;subst z;rw[g6,g6];rw[lT z,lT z,aA z]
def J1{D}{H}(h:H D=qb):hid D H=H:=by funext b;by_cases z:b=D;subst z;rw[g6,h];rw[lT z]
def kS{G1 H1 G2 H2}{D}(st:Step G1 H1 G2 H2)(g:G2 D=qb):Step G1 (hid D H1) G2 (hid D H2):=by
 refine⟨st.sg,λb u e=>?_,λb u e=>?_,λb c d=>?_⟩;have a:b≠D:=λz=>by subst z;rw[g]at e;cases e
 rw[lT a];exact st.gh b u e;have a:b≠D:=λz=>by subst z;rw[g6]at e;cases e
 rw[lT a]at e ⊢;exact st.sh b u e;by_cases z:b=D;subst z;exact g6;rw[lT z];exact st.nw b c d
theorem SL.up{K}{G H H'}{σ}(h:SL K ad G H ρ σ)(s:Same H H'):SL K ad G H' ρ σ:=by
 refine⟨h.len,λi n e=>?_⟩;obtain⟨q,v,j⟩:=h.at_ i n e;refine⟨q,v,?_⟩;cases n with
 |no=>trivial
 |sh d=>exact j
 |ow x=>
  obtain⟨a,w,c,b,f,g⟩:=j;exact⟨a,w,c,b,s _ _ f,g⟩
 |dc m=>
  obtain⟨a,l,c,b,f,g⟩:=j;exact⟨a,l,c,b,s _ _ f,g⟩
 |sd m=>
  obtain⟨a,l,c,b,f,g⟩:=j;exact⟨a,l,c,b,s _ _ f,g⟩
 |rk C r=>
  refine gzq λRz ez=>?_;obtain⟨p,t,d,o,u,c,b⟩:=j;subst ez;exact⟨p,t,d,o,u,c,b.up s⟩
def Co{Ex:ce}{s:Shared}{sc}(hc:Cel sc)(h: ∀h4,h4.Ns s.z (λ_=>qb)->(∀b ob,s.heap.get? b=pi ob->h4.get? b=pi ob)->(∀x,qV sc=[x]->h4.IsCell (s.z+1) qb)->
   Q (newEnv sc s.z gl (cellsFrom (s.z+1) sc.names cl) q qb .none (pi o) builtinsNs) {s with heap:=h4}):
  wpAny M A (newFunctionEnv sc gl cl [] q qb .none (pi o)) Q Ex s:=by
 simp only[newFunctionEnv,Option.isSome_some,if_true];refine aa (wpAny_alloc ?_);refine aa (wpAny_layCells _ (λj c d=>by cases f:c==mf<;>simp[f]) _ _ _ _ ?_);have i:(s.heap.push {cls:=.type "dict",data:=.dict #[]}).Ns s.z (λ_=>qb):=Heap.Ns.new s.heap (.type "dict");have g: ∀b ob,s.heap.get? b=pi ob->(pushCells (s.heap.push {cls:=.type "dict",data:=.dict #[]}) sc.names).get? b=pi ob:=λb ob e=>pushCells_keeps _ _ b ob (ae _ e);have l:(s.heap.push {cls:=.type "dict",data:=.dict #[]}:Heap).objs.size=s.z+1:=ai ..;rw[k7];refine aa (ac (ac ?_));have:=h _ (i.keeps (pushCells_keeps _ _)) g λx e=>by
  rw[(cf1 (a:=0) (acc:=[]) e).2];refine⟨{cls:=.type "cell",data:=.cell qb},?_,rfl⟩;rw[<-l];exact af _ rfl
 rw[<-l]at this;exact this
def rL{J}{ds all}{itA}{tn}{RR:Value->Addr->Result->Shared->Prop}{Ex:ce}(hc:X.calm=qc)(I2:Inv X cc σ H2 s2)(T:Turn X.prog X.w X.K tg J fp itA tn)(st2:tn 0 s2.heap)
  (f2: ∀b∈fp,pV X cc H2 b) (hit:ItH X ad J G2 H2 ds) (hgo:bM (dN k cs fc fe) ds=pi all) (hG2:Same G2 H2)
  (hk:sc.kind= .function) (hC:Cel sc)
  (hfree: ∀x,(x,l0)∈sc.names->X.env.kindOf x=pi .cell\/X.env.kindOf x=pi .free) (hnd: ∀x,(x,l0)∈sc.names->sc.names.lookup x=pi .free)
  {σc} (hl:σc.length=N'.length) (hσ: ∀(i:Nat) x v,N'[i]? =pi x->σc[i]? =pi (pi v)->∃j:Nat,X.N[j]? =pi x/\σ[j]? =pi (pi v)/\(x,l0)∈sc.names)
  (hnt:nt=if k=0 then 1 else k) (hsl:SL X.K ad G2 H2 (ao nt .no++cs) σc)
  (hg: ∀s3 H3 pins',PG (cX X N' sc s3 H3 fp pins') tg (gTg X.K k)) (hts: ∀s3 H3 pins',MTs (cX X N' sc s3 H3 fp pins') ad ifs fc) (he: ∀s3 H3 pins',ME (cX X N' sc s3 H3 fp pins') ad elt fe)
  (hEnd: ∀s3 s' H3 H' G' (σ':St) D vs,Inv X cc σ H3 s3->(∀b∈fp,pV X cc H3 b)->Inv (cX X N' sc s3 H3 fp cc) [] σ' H' s'->Step G2 H2 G' H'->H2 D=qb->G' D=qb->H' D=pi (.lst vs)->aK X.K ad G' all vs->RR (.ref D) s3.heap.objs.size (.ok .next) s'):
  X.wp (newList []) (λacc s₃=>X.wp (newFunctionEnv sc X.env.globals (lQ X.env.cells sc.names []) [] X.env.qual qb .none (pi X.env)) (λcenv s₄=>
   codeAny (model X.prog X.w) X.A (.compStart (.ListComp elt [⟨tg,it,ifs,0⟩] sc pos) 0 (.ref itA) acc {cenv with scope:=relabel sc X.env}) (RR acc cenv.locals) s₄) Ex s₃) Ex s2:=by
 refine wpAny_newObj_type ?_
 have hD:H2 s2.heap.objs.size=qb:=I2.fresh
 have I3:Inv X cc σ (upd H2 s2.heap.objs.size (.lst [])) {s2 with heap:=s2.heap.push {cls:=.type "list",data:=.seq ([]:L1 Value).toArray} }:=I2.lnew (t':=s2.toks) .nil (bu _)
 generalize e3:({s2 with heap:=s2.heap.push {cls:=.type "list",data:=.seq ([]:L1 Value).toArray} }:Shared)=s3 at I3
 have an:s3.heap.objs.size=s2.heap.objs.size+1:=by rw[<-e3];exact ai ..
 have cp: ∀b o,s2.heap.get? b=pi o->s3.heap.get? b=pi o:=λb o e=>by rw[<-e3];exact ae _ e
 generalize eD:s2.heap.objs.size=D at hD I3 an ⊢;generalize eH:upd H2 D (.lst [])=H3 at I3
 have b4:H3 D=pi (.lst []):=by rw[<-eH];exact aD
 have ap:Step G2 H2 G2 H3:=by rw[<-eH];exact Step.own hG2 hD
 have a0: ∀b∈fp,b<D:=λb s=>by
  obtain⟨o,e,_⟩:=T.obj 0 _ st2 b s;rw[<-eD];exact ah e
 have f3: ∀b∈fp,pV X cc H3 b:=λb s=>by
  obtain⟨f0,fr⟩:=f2 b s;refine⟨?_,fr⟩;rw[<-eH,aA (bh (a0 b s))];exact f0
 refine Co hC λh4 c2 O a6=>?_
 have I4:Inv (cX X N' sc s3 H3 fp cc) [] σc H3 {s3 with heap:=h4}:=
  Cn (t':=s3.toks) (fpO:=f3) I3 hk hC hfree hnd (λb s=>bg (a0 b s) (by rw[an];exact oe _)) c2 O a6 hl hσ
 have b3:tn 0 h4:=T.keep _ _ _ st2 λb s o e=>O b o (cp b o e)
 have few:=hit.few
 have U: ∀{H':Hp},(∀b∈fp,H' b=qb)->∀b∈fp,pV (cX X N' sc s3 H3 fp cc) [] H' b:=λ{H'} hn b s=>by
  obtain⟨f0,f1,cy,de,f4,f5⟩:=f3 b s;refine⟨hn b s,?_,λz=>?_,.inl s,λx c h=>?_,λq hq=>?_⟩
  .have bw:D<=s3.heap.objs.size:=by rw[an];exact oe _
   exact bh (bg (a0 b s) bw)
  .rcases av.mp (I3.stkSub b z)with z|z
   .exact f1 z
   .exact cy z
  .rcases fX hC h with ⟨_,z⟩|h'
   .have bw:D<=s3.heap.objs.size:=by rw[an];exact oe _
    rw[z];exact(bh (jf (bg (a0 b s) bw))).symm
   rcases kQ h' with ⟨kk,h1,h2,h3⟩|h
   .subst h2;obtain⟨c',cg⟩:=I3.ok.has x (hfree x h1);rw[cg]at h3
    have e:c=c':=h3
    rw[e];exact f4 x c' cg
   .cases h
  .have h2:q∈(X.pn++cc)++[]:=hq;rw[j3]at h2;exact f5 q h2
 have a5: ∀s4:Shared,s4={s3 with heap:=h4}->
   codeAny (model X.prog X.w) X.A (.compLoop (.ListComp elt [⟨tg,it,ifs,0⟩] sc pos) 0 (.ref itA) (.ref D) (cX X N' sc s3 H3 fp cc).env) (RR (.ref D) s3.heap.objs.size) s4:=by
  rintro s4 rfl
  obtain⟨Iv,bz⟩: ∃Iv:Nat->Shared->Prop, ∀n s',Iv n s'↔ ∃(i:Nat) (σ':St) (H' G':Hp) (ys dZ:L1 SK.D) (vs:L1 V),Inv (cX X N' sc s3 H3 fp cc) [] σ' H' s'/\tn i s'.heap/\(∀b∈fp,H' b=qb)/\Step G2 H2 G' H'/\G' D=qb/\H' D=pi (.lst vs)/\aK X.K ad G' ys vs/\
   bM (dN k cs fc fe) (ds.drop i)=pi dZ/\ys++dZ=all/\i<=ds.length/\n=ds.length-i/\ys.length<=i/\SL X.K ad G' (hid D H') (ao nt .no++cs) σ':=⟨_,λ_ _=>Iff.rfl⟩
  refine tP Iv ?_ ds.length
   ((bz _ _).mpr ⟨0,σc,H3,G2,[],all,[],I4,b3,λb s=>(f3 b s).1,ap,qY hG2 hD,b4,aK.nil,hgo,rfl,bu _,rfl,aj _,by rw[<-eH,zP,J1 hD];exact hsl⟩)
  intro n s5 cj;obtain⟨i,a3,H5,G5,ys,dZ,vs,I5,b2,ch,ar,b1,b6,r5,Z,al,da,rfl,c9,cv⟩:=(bz _ _).mp cj
  by_cases b5:i<ds.length
  .
   have ed:ds[i]? =pi ds[i]:=by simp[b5]
   generalize ds[i]=d at ed
   have bp:ds.drop i=d::ds.drop (i+1):=by
    rw[dv b5]
    congr 1
    have:=ay.mp ed
    exact this.2
   rw[bp]at Z;obtain⟨go,yl⟩:=hit.go i G5 H5 d ar ed;refine L2.thn (T.item (cX X N' sc s3 H3 fp cc) rfl rfl rfl hc i [] s5 a3 H5 (λ_ _=>False) I5 (U ch) b2 go) λr s6 f=>?_
   obtain⟨u,hr,h6⟩:=f;subst hr;refine L2.thn h6 λ_ s7 f=>?_
   obtain⟨x,H7,I7,r7,y7,bv,cu⟩:=f;obtain⟨G7,B,cr⟩:=yl x H7 y7;have c4:=I7.pinned (U cu) (T.obj _ _ bv);obtain⟨br,b0⟩:=iW B b1 b6;have ck:=cv.step (kS B br)
   have bm: ∃G,tgt k d=pi G:=by
    cases z:tgt k d with
    |some G=>exact⟨G,rfl⟩
    |none=>
     exfalso;rcases lS Z with ⟨e,_⟩|⟨x',_,e,_,_⟩<;>(unfold dN at e;rw[z]at e;cases e)
   obtain⟨G,a7⟩:=bm;obtain⟨cz,gt⟩:=J0 (W:=λσ' H'=>H'=H7/\SL X.K ad G7 (hid D H7) (G++cs) σ') a7 hnt B.gh cr ck (λσ' _ q=>⟨rfl,q⟩)
   refine L2.thn (hg s3 H3 cc _ s7 a3 H7 x u _ c4 r7 gt) λ_ s8 f=>?_
   obtain⟨I,H8,I8,e8,as⟩:=f;subst e8
   have H: ∀{s9:Shared} {S G9:Hp} {ag C:L1 SK.D} {a1:L1 V},Inv (cX X N' sc s3 H3 fp cc) ([]++iR fp s7.heap) I S s9->Step G2 H2 G9 S->G9 D=qb->S D=pi (.lst a1)->aK X.K ad G9 ag a1->bM (dN k cs fc fe) (ds.drop (i+1))=pi C->ag++C=all->ag.length<=i+1->
     SL X.K ad G9 (hid D S) (G++cs) I->∃m,m<ds.length-i/\Iv m s9:=by
    intro s9 S G9 ag C a1 I9 g L ab r9 ct c3 cn am;refine⟨ds.length-(i+1),by lia,(bz _ _).mpr ⟨i+1,I,S,G9,ag,C,a1,I9.unpinned,T.keep _ _ _ bv λb s o e=>(I9.pin (b,o) (bt _ (bt _ (jI s e)))).1,λb s=>?_,g,L,ab,r9,ct,c3,by lia,rfl,cn,?_⟩⟩
    .obtain⟨o,e,d'⟩:=T.obj _ _ bv b s;exact(I9.pin (b,o) (bt _ (bt _ (jI s e)))).2.1
    .have:=zN am
     rwa [cz]at this
   have be:XP (cX X N' sc s3 H3 fp cc) ad I (λ_ _=>False):=Cm rfl
   have b8:Step G2 H2 G7 H8:=ar.trans B
   have a4: ∀{s9:Shared} {S G9:Hp} (x':SK.D) (p:L1 SK.D),Inv (cX X N' sc s3 H3 fp cc) ([]++iR fp s7.heap) I S s9->Step G7 H8 G9 S->(fe (G++cs)= .ok x'\/∃l,fe (G++cs)= .ow l/\x'= .lst l)->bM (dN k cs fc fe) (ds.drop (i+1))=pi p->dZ=x'::p->
     X.wp (eval elt (cX X N' sc s3 H3 fp cc).env) (λx s₄=>X.wp (call (.builtin "list.append") [.ref D,x]) (λ_ ca=>∃m,m<ds.length-i/\Iv m ca) (λ_ _=>False) s₄) (λ_ _=>False) s9:=by
    intro s9 S G9 x' p I9 g hf t E;obtain⟨L,ab⟩:=iW g br b0;have am:=as.step (kS g L);refine L2.thn (ME.val (X:=cX X N' sc s3 H3 fp cc) (he s3 H3 cc) I9 g.gh (am.up zO) be hf) λcm c5 f=>?_
    obtain⟨Q,a2,Y,cw,c1,M,c6⟩:=f;obtain⟨ak,b7⟩:=iW M L ab
    have cd:vs.length<sizeLine:=by
     have:=r5.length
     lia
    refine L2.thn (qN (X:=cX X N' sc s3 H3 fp cc) _ c5 I Y (.ref D) [Q] (.ref D) [cm] (λ_ H'=>H'=upd Y D (.lst (vs++[Q]))) cw rfl (.cons c1 .nil) ⟨D,vs,Q,rfl,rfl,b7,cd,rfl⟩) λ_ db f=>?_
    obtain⟨_,df,c8,_,cl⟩:=f;subst cl;have cx:Step G2 H2 a2 Y:=(b8.trans g).trans M;have cq:Step G2 H2 a2 (upd Y D (.lst (vs++[Q]))):=rJ cx hD ak;have rA:aK X.K ad a2 (ys++[x']) (vs++[Q]):=((r5.mono B.sg).mono g.sg).mono M.sg |>.append (aK.cons c6 aK.nil)
    have c7:SL X.K ad a2 (hid D (upd Y D (.lst (vs++[Q])))) (G++cs) I:=by
     rw[zP];exact am.step (kS M ak)
    refine H c8 cq ak aD rA t ?_ (by simp;lia) c7
    rw[jc];rw[E]at al;exact al
   rcases lS Z with ⟨e,t⟩|⟨x',p,e,t,E⟩
   .
    unfold dN at e;rw[a7]at e
    cases fc with
    |none=>
     exfalso
     simp only at e
     cases z:fe (G++cs)<;>rw[z]at e<;>cases e
    |some f0=>
     simp only at e
     have y:=hts s3 H3 cc
     match ifs,y with
     |[c0],y=>
      have hv:f0 (G++cs)= .ok (.bl qe):=by
       cases z:f0 (G++cs)with
       |ok dd=>
        rw[z]at e
        cases dd<;>try (cases e)
        rename_i bb
        cases bb with
        |false=>rfl
        |true=>
         exfalso
         simp only at e
         cases z':fe (G++cs)<;>rw[z']at e<;>cases e
       |ow _=>rw[z]at e;cases e
       |ex _=>rw[z]at e;cases e
       |bad=>rw[z]at e;cases e
      refine wpAny_tests_one (L2.thn (MT.val (X:=cX X N' sc s3 H3 fp cc) y I8 B.gh (as.up zO) be hv) λok s9 f=>?_)
      obtain⟨eb,G9,S,I9,g⟩:=f;subst eb;obtain⟨L,ab⟩:=iW g br b0;exact yJ (H I9 (b8.trans g) L ab ((r5.mono B.sg).mono g.sg) t al (by lia) (as.step (kS g L)))
     |[],y=>exact y.elim
     |_::_::_,y=>exact y.elim
   .
    unfold dN at e;rw[a7]at e
    cases fc with
    |none=>
     have y:=hts s3 H3 cc
     match ifs,y with
     |[],_=>
      refine wpAny_tests_nil (xR ?_);refine a4 x' p I8 (Step.refl B.gh) ?_ t E
      simp only at e
      cases z:fe (G++cs)with
      |ok dd=>rw[z]at e;cases e;exact .inl rfl
      |ow l=>rw[z]at e;cases e;exact .inr ⟨l,rfl,rfl⟩
      |ex _=>rw[z]at e;cases e
      |bad=>rw[z]at e;cases e
     |_::r1,y=>cases r1<;>exact ba y
    |some f0=>
     simp only at e
     have y:=hts s3 H3 cc
     match ifs,y with
     |[c0],y=>
      have hv:f0 (G++cs)= .ok (.bl qc)/\(fe (G++cs)= .ok x'\/∃l,fe (G++cs)= .ow l/\x'= .lst l):=by
       cases z:f0 (G++cs)with
       |ok dd=>
        rw[z]at e
        cases dd<;>try (cases e)
        rename_i bb
        cases bb with
        |false=>simp only at e;cases e
        |true=>
         simp only at e
         refine⟨rfl,?_⟩
         cases z':fe (G++cs)with
         |ok dd=>rw[z']at e;cases e;exact .inl rfl
         |ow l=>rw[z']at e;cases e;exact .inr ⟨l,rfl,rfl⟩
         |ex _=>rw[z']at e;cases e
         |bad=>rw[z']at e;cases e
       |ow _=>rw[z]at e;cases e
       |ex _=>rw[z]at e;cases e
       |bad=>rw[z]at e;cases e
      refine wpAny_tests_one (L2.thn (MT.val (X:=cX X N' sc s3 H3 fp cc) y I8 B.gh (as.up zO) be hv.1) λok s9 f=>?_)
      obtain⟨eb,G9,S,I9,g⟩:=f;subst eb;exact xR (a4 x' p I9 g hv.2 t E)
     |[],y=>exact y.elim
     |_::_::_,y=>exact y.elim
  .
   have ei:i=ds.length:=by lia
   subst ei;rw[jp]at Z;cases Z;rw[j3]at al;subst al;refine L2.thn (T.done (cX X N' sc s3 H3 fp cc) rfl rfl rfl hc ds.length [] s5 a3 H5 (λ_ _=>False) I5 (U ch) b2 (hit.stop G5 H5 ar)) λr s6 f=>?_
   obtain⟨hr,I6⟩:=f;subst hr;exact hEnd s3 s6 H3 H5 G5 a3 D vs I3 f3 I6 ar hD b1 b6 r5
 exact codeAny_compStart_list (a5 _ rfl) (T.self _ 0 _ _ _ b3 (a5 _ rfl))
def nG{cs}{nt}(hxs:xs.length=nt)(hN:X.N=C.N)(hcs:eG (λx=>fK C x) (bF sc)=pi cs)(hfr: ∀x∈bF sc,(x,l0)∈sc.names)(hS:SL X.K ad G H ρ σ)(hlen:σ.length=X.N.length):
  ∃σc,σc.length=(xs++bF sc).length/\(∀(i:Nat) x v,(xs++bF sc)[i]? =pi x->σc[i]? =pi (pi v)->∃j:Nat,X.N[j]? =pi x/\σ[j]? =pi (pi v)/\(x,l0)∈sc.names)/\
   SL X.K ad G H (ao nt .no++mP cs ρ) σc:=by
 have t: ∀(d:L1 Str) (m:L1 Nat),eG (λx=>fK C x) d=pi m->m.length=d.length/\∀(i:Nat) (y:Str),d[i]? =pi y->∃j,m[i]? =pi j/\C.N[j]? =pi y:=by
  intro d;induction d with
  |nil=>intro m e;cases e;exact⟨rfl,λi y h=>by simp at h⟩
  |cons y r O=>
   intro m e;unfold eG at e;rcases b:fK C y with _|j;rw[b]at e;cases e;rw[b]at e;obtain⟨s,E,L⟩:=zMd e;subst L;obtain⟨J,T⟩:=O s E;refine⟨by simp[J],λi z h=>?_⟩;cases i with
   |zero=>
    simp at h;subst h;refine⟨j,rfl,?_⟩;have l:idx y C.N=pi j:=by
     unfold fK at b;split at b;exact b;exact b;cases b
    exact fY l
   |succ i=>
    obtain⟨W,f,c⟩:=T i z (by simpa using h);exact⟨W,by simpa using f,c⟩
 obtain⟨S,I⟩:=t (bF sc) cs hcs;refine⟨ao nt qb++cs.map (λj=>(σ[j]?).getD qb),by simp[S,hxs],λi x v f c=>?_,?_,λi w e=>?_⟩;by_cases a:i<nt;rw[bx (by simpa using a),eh,if_pos a]at c;cases c;rw[bn (by simpa using a),fu,i6]at c;rw[bn (by lia),hxs]at f;obtain⟨j,U,M⟩:=I (i-nt) x f;rw[U]at c;have o:(σ[j]?).getD qb=pi v:=jw c;refine⟨j,by rw[hN];exact M,?_,hfr x (List.mem_of_getElem? f)⟩;rcases q:σ[j]? with _|B;rw[q]at o;cases o;rw[q]at o;exact congrArg pi o;simp[mP];by_cases a:i<nt;rw[bx (by simpa using a),eh,if_pos a]at e;cases e;refine⟨qb,?_,trivial⟩;rw[bx (by simpa using a),eh,if_pos a];rw[bn (by simpa using a),fu]at e;unfold mP at e;rw[i6]at e;rcases q:cs[i-nt]? with _|j;rw[q]at e;cases e;rw[q]at e;have n:(ρ[j]?).getD .no=w:=jw e;refine⟨(σ[j]?).getD qb,?_,?_⟩;rw[bn (by simpa using a),fu,i6,q];rfl;rcases p:ρ[j]? with _|g;rw[p]at n;subst n;trivial;rw[p]at n;have u:g=w:=n;subst u;obtain⟨B,Q,A⟩:=hS.at_ j g p;rw[Q];exact A
end
open PySem.W
noncomputable def Its(x:Str):It:=⟨λi _=>i<x.cps.size,λi H v H'=>H'=H/\∃c,x.cps[i]? =pi c/\v= .str ⟨#[c]⟩,λi _=>x.cps.size<=i⟩
def Cp{K}{tg}it(hty:ty="str_ascii_iterator"\/ty="str_iterator"):Turn P w K tg (Its x) [it] it (λi h=>h.IsStrIter it ty x t i) where
 mem:=by simp
 obj:=λi h g b f=>by
  have e:b=it:=by simpa using f
  subst e;obtain⟨o,e,c,d⟩:=g;exact⟨o,e,λv z=>by rw[d]at z;cases z⟩
 keep:=λi h a g k=>by
  obtain⟨o,e,r⟩:=g;exact⟨o,k it (by simp) o e,r⟩
 item:=by
  intro X U hw T Z i S s O H E I M g Y;subst U hw T;have n:i<x.cps.size:=Y;obtain⟨L,G,f2,J,C,N⟩:=M it (by simp);have B: ∀(a:Heap),a.IsStrIter it ty x t (i+1)->(∀b o,b≠it->s.heap.get? b=pi o->a.get? b=pi o)->∀(q:Nat) (u:Tok), ∃u',(pi (pe ⟨#[x.cps[i]]⟩ u):L7 Value)=pi u'/\X.wp (letOwnedTupleGo tg (.ref it) u') (λ_ s2=>∃y H',Inv X S O H' s2/\bJ y u'/\(Its x).yld i H y H'/\s2.heap.IsStrIter it ty x t (i+1)/\∀b∈[it],H' b=qb) E {s with heap:=a,toks:=q}:=by
   intro a p sb q u;have I1:Inv X S O H {s with heap:=a,toks:=q}:=I.turned (t':=q) (λb o f e=>sb b o f e) L G J C N;obtain⟨o,e,c,d⟩:=id p;refine⟨_,rfl,yA (s:={s with heap:=a,toks:=q}) e c d (by rcases hty with rfl|rfl<;>decide) ⟨.str ⟨#[x.cps[i]]⟩,H,I1,⟨u,rfl⟩,⟨rfl,_,by simp[n],rfl⟩,p,λb f=>(M b f).1⟩⟩
  rcases hty with rfl|rfl;exact wpAny_pyNext_ascii_item g (c:=x.cps[i]) (by simp[n]) λa j m=>B a j (λb o f e=>m.extBut b o f e) _ _;exact wpAny_pyNext_wide_item g (c:=x.cps[i]) (by simp[n]) λa j m=>B a j (λb o f e=>m.extBut b o f e) _ _
 done:=by
  intro X U hw T Z i S s O H E I M g Y;subst U hw T;have n:x.cps.size<=i:=Y;obtain⟨L,G,f2,J,C,N⟩:=M it (by simp);rcases hty with rfl|rfl;exact wpAny_pyNext_ascii_end (I.ok.hd Z) g (by simp[n]) λa l=>⟨rfl,I.turned (t':=s.toks) (λb o f e=>l b o f e) L G J C N⟩;exact wpAny_pyNext_wide_end (I.ok.hd Z) g (by simp[n]) λa l=>⟨rfl,I.turned (t':=s.toks) (λb o f e=>l b o f e) L G J C N⟩
 self:=λA i s Q E g h=>by
  rcases hty with rfl|rfl;exact wpAny_pyIter_striter_ascii g h;exact wpAny_pyIter_striter_wide g h
noncomputable def Itk(a:Addr)(o:Obj)(es:L1 (Key×V)):It:=⟨λi H=>i<es.length/\H a=pi (.frz o (.dK es)),λi H v H'=>H'=H/\∃e,es[i]? =pi e/\v=kV e.1,λi H=>es.length<=i/\H a=pi (.frz o (.dK es))⟩
theorem jO{α β}{R:α->β->Prop}: ∀{l} {m},Paired R l m->∀{i:Nat} {a},l[i]? =pi a->∃b,m[i]? =pi b/\R a b
 |_,_,.nil,i,b,h=>by simp at h
 |_,_,.cons r t,0,b,h=>by simp at h;subst h;exact⟨_,rfl,r⟩
 |_,_,.cons r t,i+1,b,h=>by
  obtain⟨a,e,r⟩:=jO t (i:=i) (a:=b) (by simpa using h);exact⟨a,by simpa using e,r⟩
def vF{σ:St}(I:Inv X cc σ H s)(ha:H a=pi (.frz o (.dK es))):(a==sysModules)=qe/\∃vs ep,KV es vs/\s.heap.DictAt (bE X.prog X.w) a vs ep/\∃ar,o.data= .dict ar ep:=by obtain⟨e,z,g,vs,d,h,ar,ep,c,f,b,r⟩:=I.hok a _ ha;rw[e]at c;cases c;exact⟨g,vs,ep,d,⟨o,ar,e,f,b,r⟩,ar,b⟩
def vG{K}{tg}it:Turn P w K tg (Itk a o es) [it] it (λi h=>∃ep ar,o.data= .dict ar ep/\h.IsKeyIter it a i es.length ep) where
 mem:=by simp
 obj:=λi h g b r=>by
  have e:b=it:=by simpa using r
  subst e;refine gzq λRz ez=>?_;obtain⟨_,_,_,o,e,c,d⟩:=g;subst ez;exact⟨o,e,λv z=>by rw[d]at z;cases z⟩
 keep:=λi h A g k=>by
  obtain⟨ep,ar,d,g⟩:=g;exact⟨ep,ar,d,g.at λo e=>k it (by simp) o e⟩
 item:=by
  intro X U hw S hc i cc s σ H E I B g hg;subst U hw S;refine gzq λRz ez=>?_;obtain⟨hi,Q⟩:=hg;obtain⟨ep,ar,l,g⟩:=g;obtain⟨hd,O,J,m,Z,ab,f⟩:=vF I Q;subst ez;rw[l]at f;cases f;obtain⟨f0,L,f2,T,G,f5⟩:=B it (by simp);obtain⟨e,he⟩: ∃e,es[i]? =pi e:=⟨es[i],by simp[hi]⟩;obtain⟨q,hq,r1,r2⟩:=jO m he;have u:es.length=O.length:=KV.length m;obtain⟨qk,qv⟩:=q;refine wpAny_pyNext_dict_item (knd:=bE X.prog X.w) (by rw[<-u];exact g) Z hq λN A y n Y=>?_;have I1:Inv X cc σ H {s with heap:=A}:=I.turned (t':=s.toks) (λb o r e=>(Y.2 b r).trans e) f0 L T G f5;obtain⟨oi,e1,c,d⟩:=id n;refine⟨_,rfl,yA (s:={s with heap:=A}) e1 c d rfl ⟨kV e.1,H,I1,?_,⟨rfl,e,he,rfl⟩,⟨ep,ar,l,by rw[u];exact n⟩,λb r=>(B b r).1⟩⟩;have C:e.1=qk:=r1;rw[C];have p:sU qk N=qc:=y;rcases bV p with ⟨j,t,rfl,rfl⟩|⟨x,t,rfl,rfl⟩<;>exact⟨t,rfl⟩
 done:=by
  intro X U hw S hc i cc s σ H E I B g hg;subst U hw S;refine gzq λRz ez=>?_;obtain⟨hi,Q⟩:=hg;obtain⟨ep,ar,l,g⟩:=g;obtain⟨hd,O,J,m,Z,ab,f⟩:=vF I Q;subst ez;rw[l]at f;cases f;have u:es.length=O.length:=KV.length m;obtain⟨f0,L,f2,T,G,f5⟩:=B it (by simp);exact wpAny_pyNext_dict_end (knd:=bE X.prog X.w) (I.ok.hd hc) (by rw[<-u];exact g) Z (List.getElem?_eq_none (by rw[<-u];exact hi)) λA M=>⟨rfl,I.turned (t':=s.toks) (λb o r e=>M b o r e) f0 L T G f5⟩
 self:=λ_ _ _ _ _ g h=>by
  obtain⟨_,_,_,g⟩:=g;exact wpAny_pyIter_keyiter g h
section
variable{X:Cx}{ad:Ad}{H G:Hp}
def F4(hG:Same G H)(few:x.cps.size<=1000):ItH X ad (Its x) G H (wW x):=by
 have h:(wW x).length=x.cps.size:=by simp[wW]
 refine⟨λi f n d b e=>?_,λf n b=>by rw[h];exact aj _,by rw[h];exact mq few (by decide)⟩;have m: ∃c,x.cps.toList[i]? =pi c/\D.str ⟨#[c]⟩=d:=by simpa[wW]using e
 obtain⟨c,j,rfl⟩:=m;have a:x.cps[i]? =pi c:=by simpa using j
 refine⟨(Array.getElem?_eq_some_iff.mp a).1,λv o l=>?_⟩;obtain⟨rfl,p,g,rfl⟩:=l;rw[a]at g;cases g;exact⟨f,Step.refl b.gh,by unfold Rep;rfl⟩
def zQ{ks:L1 Str}{es:L1 (Key×V)}{i:Nat}(h:es.map (·.1)=ks.map pu)(e:(ks.map D.str)[i]? =pi d): ∃q,es[i]? =pi q/\∃x,q.1=pu x/\d= .str x:=by rw[i6]at e;obtain⟨k,b,c⟩:=zMd e;have a:=congrArg (λl:L1 Key=>l[i]?) h;simp only[i6,b,Option.map_some]at a;obtain⟨q,q1,f⟩:=zMd a;exact⟨q,q1,k,f,c.symm⟩
def F5{a}{o}{ks:L1 Str}{es}(ha:G a=pi (.frz o (.dK es)))(h:es.map (·.1)=ks.map pu)(hG:Same G H)(few:ks.length<=1000):ItH X ad (Itk a o es) G H (ks.map D.str):=by
 have m:es.length=ks.length:=by have:=congrArg og h;simpa using this
 refine⟨λi c l d b e=>?_,λc l b=>⟨by rw[aq,m];exact aj _,b.sh _ _ (hG _ _ ha)⟩,by rw[aq];exact mq few (by decide)⟩;obtain⟨q,q1,x,g,rfl⟩:=zQ h e;refine⟨⟨(ay.mp q1).1,b.sh _ _ (hG _ _ ha)⟩,λv n j=>?_⟩;obtain⟨rfl,p,f,rfl⟩:=j;rw[q1]at f;cases f;rw[g];exact⟨c,Step.refl b.gh,by unfold Rep;rfl⟩
end
section
variable{X:Cx}{ad:Ad}{s3:Shared}{H H2 H3 G G2:Hp}{ρ:Rho}{Q:VK}{E:Nat->Hp->Prop}{pos:Pos}{sc:Scope}{fp:L1 Addr}{tg it elt:Expr}{ifs:L1 Expr}{k:Nat}{xs:L1 Str}{cs:L1 Nat}{fc:L7 F}{fi fe:F}
def Cq(h: ∀a b c,it≠ .Set a b c): ∀x,foldedSetIterable it X.env x=pure x:=by intro x;cases it<;>first|rfl|exact absurd rfl (h _ _ _)
structure CompSc(X:Cx)(C:Ctx)(sc:Scope)(xs:List Str)(cs:List Nat):Prop where
 kind:sc.kind= .function
 cell:Cel sc
 names: ∀y∈sc.names,y.2= .local->sc.names.lookup y.1=pi .local
 fre: ∀x,(x,l0)∈sc.names->X.env.kindOf x=pi .cell\/X.env.kindOf x=pi .free
 frl: ∀x,(x,l0)∈sc.names->sc.names.lookup x=pi .free
 N:X.N=C.N
 cs:eG (λx=>fK C x) (bF sc)=pi cs
def rM(h:x∈bF sc):(x,l0)∈sc.names:=by
 unfold bF at h;obtain⟨p,b,rfl⟩:=au.mp h;obtain⟨c,d⟩:=jy.mp b;obtain⟨y,a⟩:=p;have:a= .free:=by simpa using d
 subst this;exact c
def J9{W}(hr:RK X.K ad G H (bS k cs fi fc fe ρ) Q E)
  (q: ∀J G2 H2 ds all,Step G H G2 H2->ItH X ad J G2 H2 ds->bM (dN k (mP cs ρ) fc fe) ds=pi all->RK X.K ad G2 H2 (.ow all) Q E->W J H2):IK X ad G H (fi ρ) W E:=by
 unfold bS at hr;cases e:fi ρ with
 |ok d=>
  rw[e]at hr;have b:RK X.K ad G H (match j9 d with|some ds=>(match bM (dN k (mP cs ρ) fc fe) ds with|some xs=>.ow xs|none=>.bad)|none=>.bad) Q E:=hr;rcases h:j9 d with _|ds;rw[h]at b;exact b.elim;rw[h]at b;have a:RK X.K ad G H (match bM (dN k (mP cs ρ) fc fe) ds with|some xs=>.ow xs|none=>.bad) Q E:=b;rcases f:bM (dN k (mP cs ρ) fc fe) ds with _|all;rw[f]at a;exact a.elim;rw[f]at a;exact⟨ds,h,λJ i j g m=>q J i j ds all g m f (a.step g)⟩
 |ow l=>
  rw[e]at hr;have a:RK X.K ad G H (match bM (dN k (mP cs ρ) fc fe) l with|some xs=>.ow xs|none=>.bad) Q E:=hr;rcases f:bM (dN k (mP cs ρ) fc fe) l with _|all;rw[f]at a;exact a.elim;rw[f]at a;exact λJ i j g m=>q J i j l all g m f (a.step g)
 |ex c=>rw[e]at hr;exact hr
 |bad=>rw[e]at hr;exact hr
def F6{C}(hc:X.calm=qc)(S:CompSc X C sc xs cs)(hi:MI X ad tg it fi)(hset: ∀a b c,it≠ .Set a b c)(hxs:xs.length=if k=0 then 1 else k)
  (hg: ∀fp s3 H3 pins',PG (cX X (xs++bF sc) sc s3 H3 fp pins') tg (gTg X.K k)) (hts: ∀fp s3 H3 pins',MTs (cX X (xs++bF sc) sc s3 H3 fp pins') ad ifs fc) (he: ∀fp s3 H3 pins',ME (cX X (xs++bF sc) sc s3 H3 fp pins') ad elt fe):
  ME X ad (.ListComp elt [⟨tg,it,ifs,0⟩] sc pos) (bS k cs fi fc fe):=by
 rintro cc s U H Q I ⟨G,B,E,hG,M,p,hr⟩;rw[eval_ListComp]
 have n:closureFor sc X.env=pure (lQ X.env.cells sc.names []):=jN λx p=>by
  obtain⟨c,h⟩:=I.ok.has x (S.fre x p);rw[h];rfl
 refine wpAny_comprehension_free (use:=qb) rfl (Cq hset) n S.kind S.names ?_;show X.wp (eval it X.env) _ X.xe s
 refine L2.thn (hi cc s U H _ I ⟨G,B,E,hG,M,p,J9 (W:=λJ g=>∃f i all,Step G H f g/\ItH X ad J f g i/\bM (dN k (mP cs B) fc fe) i=pi all/\RK X.K ad f g (.ow all) Q E) hr λJ f g i all a b c d=>⟨f,i,all,a,b,c,d⟩⟩) λv s1 h1=>
  L2.thn h1 λO s2 j=>?_
 refine gzq λRz ez=>?_;obtain⟨Y,fp,tn,J,g,e,z,T,st2,f2,f,i,all,u,hit,l,t⟩:=j;subst ez;subst e;obtain⟨σc,l1,l2,l3⟩:=nG (xs:=xs) (sc:=sc) (nt:=if k=0 then 1 else k) hxs S.N S.cs (λx h=>rM h) (M.step u) z.len
 refine rL (σc:=σc) hc z T st2 f2 hit l u.gh S.kind S.cell S.fre S.frl l1 l2 rfl l3 (hg fp) (hts fp) (he fp) λs3 s' H3 L Z ab D vs I3 f3 y o hD gD r r'=>?_
 obtain⟨m,q,_⟩:=y.loc;refine⟨m,q,λh' sb=>⟨.ref D,L,Et (fpO:=f3) I3 y sb,rfl,t D vs Z L o hD gD r r'⟩⟩
def F7(hq:SqT X.K H a vs)(r:aK X.K ad G ds vs)(hG:Same G H)(few:vs.length<=sizeLine):ItH X ad (Itt X.K a) G H ds:=by refine⟨λi f h d b e=>?_,λf h b=>⟨vs,b.sh.seqT hq,by rw[r.length];exact aj _⟩,by rw[<-r.length];exact few⟩;obtain⟨v,c,g⟩:=r.get e;refine⟨⟨vs,v,b.sh.seqT hq,c⟩,?_⟩;rintro x j ⟨rfl,y⟩;have:=y vs (b.sh.seqT hq);rw[c]at this;cases this;exact⟨f,Step.refl b.gh,g.mono b.sg⟩
def F8(hq:SqL X.K H a vs)(r:aK X.K ad G ds vs)(hG:Same G H)(few:vs.length<=sizeLine):ItH X ad (Itl X.K a) G H ds:=by refine⟨λi f h d b e=>?_,λf h b=>⟨vs,b.sh.seq hq,by rw[r.length];exact aj _⟩,by rw[<-r.length];exact few⟩;obtain⟨v,c,g⟩:=r.get e;refine⟨⟨vs,v,b.sh.seq hq,c⟩,?_⟩;rintro x j ⟨rfl,y⟩;have:=y vs (b.sh.seq hq);rw[c]at this;cases this;exact⟨f,Step.refl b.gh,g.mono b.sg⟩
def zR(ha:ML X ad a f):MI X ad tg a f:=by
 rintro O s N H W I ⟨G,ρ,E,hG,hS,hx,Q⟩
 have S: ∀(d:D) (y:L1 D),items d=pi y->(∀J G' H',Step G H G' H'->ItH X ad J G' H' y->W J H')->∀u g v h i,Inv X O N h g->bJ v u->Step G H i h->Seq X ad i h d v->X.wp (pyIter u) (PIE X O N tg W) X.xe g:=by
  intro d y e M u g v h i j L r q;obtain⟨p,vs,rfl,Y,rq⟩:=q.items r.gh e;cases (show u=pf p from L);rcases Y with ⟨_,Y⟩|⟨_,Y⟩;obtain⟨T,rv,pt,hz⟩:=j.tuple Y;refine wpAny_pyIter_tuple (show g.heap.IsTuple p T.toArray from pt) ?_;refine⟨g.z,[g.z],_,_,h,rfl,j.kept (t':=g.toks) λb o e=>ae _ e,mW p _,⟨_,af _ rfl,rfl,rfl⟩,λb Z=>?_,M _ i h r (F7 Y rq r.gh hz)⟩;have e:b=g.z:=by simpa using Z
  subst e;exact j.fpOk (aj _) (j.hok.fresh (aj _));obtain⟨T,rv,pt,hz⟩:=j.list Y;refine wpAny_pyIter_list pt.isList ?_;refine⟨g.z,[g.z],_,_,h,rfl,j.kept (t':=g.toks) λb o e=>ae _ e,lB p _,⟨_,af _ rfl,rfl,rfl⟩,λb Z=>?_,M _ i h r (F8 Y rq r.gh hz)⟩;have e:b=g.z:=by simpa using Z
  subst e;exact j.fpOk (aj _) (j.hok.fresh (aj _))
 have ab: ∀(d:D) (y:L1 D),j9 d=pi y->(∀J G' H',Step G H G' H'->ItH X ad J G' H' y->W J H')->∀u g v h i,Inv X O N h g->bJ v u->Step G H i h->Seq X ad i h d v->X.wp (pyIter u) (PIE X O N tg W) X.xe g:=by
  intro d y e M u g v h i j L r q;cases d with
  |tup xs=>exact S (.tup xs) y (show items (.tup xs)=pi y from e) M u g v h i j L r q
  |lst xs=>exact S (.lst xs) y (show items (.lst xs)=pi y from e) M u g v h i j L r q
  |str x=>
   have C:(if x.cps.size<=1000 then pi (wW x)else qb)=pi y:=e;by_cases U:x.cps.size<=1000;rw[if_pos U]at C;cases C;have q':Rep X.K ad i (.str x) v:=by
    rcases q with q|⟨_,_,_,z,_⟩;exact q;cases z
   unfold Rep at q';subst q';obtain⟨t,rfl⟩:=(show ∃t,u=pe x t from L);have go: ∀(ty:String) (o:Obj),(ty="str_ascii_iterator"\/ty="str_iterator")->(g.heap.push o).IsStrIter g.z ty x t 0->PIE X O N tg W (.ref g.z) {g with heap:=g.heap.push o}:=λty o al am=>by
    refine⟨g.z,[g.z],_,_,h,rfl,j.kept (t':=g.toks) λb o e=>ae _ e,Cp _ al,am,λb Z=>?_,M _ i h r (F4 r.gh U)⟩;have e:b=g.z:=by simpa using Z
    subst e;exact j.fpOk (aj _) (j.hok.fresh (aj _))
   cases hA:x.cps.all (· <128);exact wpAny_pyIter_wide hA (go _ _ (.inr rfl) ⟨_,af _ rfl,rfl,rfl⟩);exact wpAny_pyIter_ascii hA (go _ _ (.inl rfl) ⟨_,af _ rfl,rfl,rfl⟩);rw[if_neg U]at C;cases C
  |dct ks vs=>
   have C:(if ks.length<=1000 then pi (ks.map D.str)else qb)=pi y:=e;by_cases U:ks.length<=1000;rw[if_pos U]at C;cases C;have q':Rep X.K ad i (.dct ks vs) v:=by
    rcases q with q|⟨_,_,_,z,_⟩;exact q;cases z
   unfold Rep at q';obtain⟨a,o,es,rfl,ga,a1,a2⟩:=q';cases (show u=pf a from L);obtain⟨hd,an,ep,ak,da,ar,ag⟩:=vF j (r.gh _ _ ga);refine wpAny_pyIter_dict (knd:=bE X.prog X.w) hd da ?_;refine⟨g.z,[g.z],_,_,h,rfl,j.kept (t':=g.toks) λb o e=>ae _ e,vG _,⟨ep,ar,ag,_,af _ rfl,rfl,by rw[KV.length ak];rfl⟩,λb Z=>?_,M _ i h r (F5 ga a1 r.gh U)⟩;have e:b=g.z:=by simpa using Z
   subst e;exact j.fpOk (aj _) (j.hok.fresh (aj _));rw[if_neg U]at C;cases C
  |_=>cases e
 cases e:f ρ with
 |ok d=>
  rw[e]at Q;obtain⟨y,e2,M⟩:=Q;exact L2.thn (ha O s N H (λv h=>∃i,Step G H i h/\Seq X ad i h d v) I ⟨G,ρ,E,hG,hS,hx,by rw[e];exact λv i h r q=>⟨i,r,q⟩⟩) λu g B=>by obtain⟨v,h,j,L,i,r,q⟩:=B;exact ab d y e2 M u g v h i j L r q
 |ow l=>
  rw[e]at Q;exact L2.thn (ha O s N H (λv h=>∃i,Step G H i h/\Rep X.K ad i (.lst l) v) I ⟨G,ρ,E,hG,hS,hx,by rw[e];exact λp vs i h r n m C q=>dG r n m C q⟩) λu g B=>by obtain⟨v,h,j,L,i,r,q⟩:=B;exact ab (.lst l) l rfl Q u g v h i j L r (.inl q)
 |ex c=>
  rw[e]at Q;exact L2.thn (ha O s N H (λv h=>False) I ⟨G,ρ,E,hG,hS,hx,by rw[e];exact Q⟩) λu g B=>by obtain⟨v,h,j,L,q⟩:=B;exact q.elim
 |bad=>
  rw[e]at Q;exact ba Q
def F9{lo}(hG:Same G H)(few:n<=sizeLine):ItH X ad (Itr lo n) G H ((oo n).map λ(i:Nat)=>D.int (lo+(i:Int))):=by refine⟨λi b g d a e=>?_,λb g a=>by simp[Itr],by simpa using few⟩;rw[i6]at e;rcases q:(oo n)[i]? with _|j;rw[q]at e;cases e;rw[q]at e;obtain⟨f,c⟩:=ay.mp q;rw[List.length_range]at f;rw[List.getElem_range]at c;subst c;cases e;refine⟨f,?_⟩;rintro x h ⟨rfl,rfl⟩;exact⟨b,Step.refl a.gh,bT⟩
def zS n:qQ n=(oo n).map λ(i:Nat)=>D.int (0+(i:Int)):=by unfold qQ;congr 1;funext i;rw[Int.zero_add]
def tQ{k}(hG:Same G H)(hS:SL X.K ad G H ρ σ)(hx:XP X ad σ E)(hr:IK X ad G H ((f ρ).bind k) W E)(q: ∀v d G1 H1,Step G H G1 H1->Rep X.K ad G1 d v->IK X ad G1 H1 (k d) W E->Q' v H1):tE X ad f σ H Q':=by
 have b: ∀{r:R} {G1 H1:Hp},IK X ad G H r W E->Step G H G1 H1->IK X ad G1 H1 r W E:=λ{r G1 H1} h g=>by
  cases r with
  |ok d=>obtain⟨t,e,h⟩:=h;exact⟨t,e,λJ j i a o=>h J j i (g.trans a) o⟩
  |ow l=>exact λJ j i a o=>h J j i (g.trans a) o
  |ex c=>exact λj i a=>h j i (g.trans a)
  |bad=>exact h
 refine⟨G,ρ,E,hG,hS,hx,?_⟩;cases e:f ρ with
 |ok d=>
  rw[e]at hr;exact λv G1 H1 g r=>q v d G1 H1 g r (b hr g)
 |ow y=>
  rw[e]at hr;intro p x G1 H1 g n m w r;obtain⟨u,st2,s⟩:=dG (X:=X) (ad:=ad) g n m w r;exact q _ _ u H1 st2 s (b hr st2)
 |ex c=>
  rw[e]at hr;exact hr
 |bad=>
  rw[e]at hr;exact hr
def Cr(hg:L2.Gl X "range")(hm:X.mg "range"=qb)(ha:ME X ad a f)(hs:starEach [a] X.env=(qe,eval a X.env)::starEach [] X.env):MI X ad tg (.Call (.Name "range" p) [a] [] pos) (bX f):=by
 rintro u s g H W I ⟨G,y,E,t,n,o,q⟩;refine qA (ta:=sY (tE X ad f) IF) hg hm (bI ha cW hs) hs u s g H W I ?_;show tE X ad f g H λv c=>∃j:Int,[v]=[.int j]/\ -(2^62)<=j/\j<2^62/\W (Itr 0 j.toNat) c;refine tQ t n o q λv d l c h r k=>?_;cases d<;>try exact ba k
 rename_i i;unfold Rep at r;subst r;have b:IK X ad l c (if -100000<=i/\i<=100000 then .ok (.lst (qQ i.toNat))else .bad) W E:=k;by_cases m: -100000<=i/\i<=100000;rw[if_pos m]at b;obtain⟨x,e,w⟩:=b;cases e;refine⟨i,rfl,by lia,by lia,w _ l c (Step.refl h.gh) ?_⟩;rw[zS];exact F9 h.gh (by rw[sizeLine_eq];lia);rw[if_neg m]at b;exact b.elim
end
def fF(H:Hp)(ρ:Rho)(σ:St)(i:Nat)(as:L1 Addr):Prop:= ∃C r p dx d l1 l2,ρ[i]? =pi (Slot.rk C r)/\σ[i]? =pi (pi (V.ref p))/\H p=pi (HO.ins C dx [("held",V.ref d),("done",V.ref l1),("undone",V.ref l2)])/\as=[p,dx,d,l1,l2]
structure RS(H₀ H:Hp)(ρ:Rho)(σ:St):Prop where
 h0: ∀i as,fF H ρ σ i as->∀a∈as,H₀ a=qb
 ow: ∀i as,fF H ρ σ i as->∀a∈as, ∀(j:Nat) (sl:Slot),ρ[j]? =pi sl->sl.owns=qc->σ[j]? ≠pi (pi (.ref a))
 rr: ∀i j as as' a,fF H ρ σ i as->fF H ρ σ j as'->a∈as->a∈as'->i=j
section
variable{K:mj}{ad:Ad}
def fF.in(h:SL K ad G H ρ σ)(f:fF H ρ σ i as): ∃C r p dx d l1 l2,ρ[i]? =pi (.rk C r)/\σ[i]? =pi (pi (V.ref p))/\RackIn K ad C G H p r dx d l1 l2/\as=[p,dx,d,l1,l2]:=by obtain⟨C,r,p,dx,d,l1,l2,a,b,g,e⟩:=f;obtain⟨o,j,n,m,l,q1,c⟩:=h.rk a;rw[b]at q1;cases q1;have:=c.ins;rw[g]at this;cases this;exact⟨C,r,p,dx,d,l1,l2,a,b,c,e⟩
theorem fF.at(h:SL K ad G H ρ σ)(f:fF H ρ σ i as): ∀a∈as,G a=qb/\H a≠qb:=by obtain⟨C,r,p,v,d,n,w,s,l,q,rfl⟩:=f.in h;obtain⟨e,g,u⟩:=q.held;obtain⟨j,b,x⟩:=q.done;obtain⟨t,c,o⟩:=q.undone;intro a m;simp only[av,jq,or_false]at m;rcases m with rfl|rfl|rfl|rfl|rfl;exact⟨q.gp,by rw[q.ins];exact λz=>nomatch z⟩;exact⟨q.gx,by rw[q.own];exact λz=>nomatch z⟩;exact⟨q.gd,by rw[g];exact λz=>nomatch z⟩;exact⟨q.g1,by rw[b];exact λz=>nomatch z⟩;exact⟨q.g2,by rw[c];exact λz=>nomatch z⟩
def fF.back(h:SL K ad G H ρ σ)(s:Same H H1)(f:fF H1 ρ σ i as):fF H ρ σ i as:=by obtain⟨C,r,p,l,d,e,n,a,b,j,g⟩:=f;obtain⟨u,m,t,q,o,q1,c⟩:=h.rk a;rw[b]at q1;cases q1;have:=s _ _ c.ins;rw[j]at this;cases this;exact⟨C,r,p,l,d,e,n,a,b,c.ins,g⟩
def RS.same(R:RS H₀ H ρ σ)(h:SL K ad G H ρ σ)(s:Same H H1):RS H₀ H1 ρ σ:=
 ⟨λi b f=>R.h0 i b (f.back h s),λi b f=>R.ow i b (f.back h s),λi j b c a f d=>R.rr i j b c a (f.back h s) (d.back h s)⟩
def fF.unset(w:sn.isRk=qe)(f:fF H (ρ.set i sn) (σ.set i ov) k as):k≠i/\fF H ρ σ k as:=by
 obtain⟨C,r,p,j,d,e,l,a,b,h,g⟩:=f;have c:k≠i:=λz=>by
  subst z;have m:k<ρ.length:=by have:=(ay.mp a).1;rwa [ke]at this
  rw[bj m]at a;cases a;cases w
 rw[bc (qa c)]at a b;exact⟨c,C,r,p,j,d,e,l,a,b,h,g⟩
theorem RS.set(R:RS H₀ H ρ σ)(w:sn.isRk=qe)(n: ∀a,sn.owns=qc->ov=pi (.ref a)->∀k as,fF H ρ σ k as->a∉as):RS H₀ H (ρ.set i sn) (σ.set i ov):=by
 refine⟨λk as f=>R.h0 k as (f.unset w).2,λk as f a h j m c g b=>?_,λk l as e a f p=>R.rr k l as e a (f.unset w).2 (p.unset w).2⟩;by_cases z:j=i;subst z;have o:j<ρ.length:=by have:=(ay.mp c).1;rwa [ke]at this
 have d:j<σ.length:=by have:=(ay.mp b).1;rwa [ke]at this
 rw[bj o]at c;rw[bj d]at b;cases c;cases b;exact n a g rfl k as (f.unset w).2 h;rw[bc (qa z)]at c b;exact R.ow k as (f.unset w).2 a h j m c g b
def fF.reset(w:sn.isRk=qe)(f:fF H (ρ.set i sn) σ k as):fF H ρ σ k as:=by
 obtain⟨C,r,p,h,d,c,j,a,b,g,e⟩:=f;have l:k≠i:=λz=>by
  subst z;have m:k<ρ.length:=by have:=(ay.mp a).1;rwa [ke]at this
  rw[bj m]at a;cases a;cases w
 rw[bc (qa l)]at a;exact⟨C,r,p,h,d,c,j,a,b,g,e⟩
def RS.re(R:RS H₀ H ρ σ)(w:sn.isRk=qe)(e:ρ[i]? =pi sl₀)(w₀:sl₀.owns=qc):RS H₀ H (ρ.set i sn) σ:=by refine⟨λk b f=>R.h0 k b (f.reset w),λk b f a h j o d l g=>?_,λk m b c a f n=>R.rr k m b c a (f.reset w) (n.reset w)⟩;by_cases z:j=i;subst z;exact R.ow k b (f.reset w) a h j sl₀ e w₀ g;rw[bc (qa z)]at d;exact R.ow k b (f.reset w) a h j o d l g
def RackIn.ups(h:RackIn K ad C G H p r dx d l1 l2)(ha:a∉[p,dx,d,l1,l2]):RackIn K ad C G (upd H a o) p r dx d l1 l2:=by simp only[av,jq,or_false,not_or]at ha;obtain⟨c,m,i,s,g⟩:=ha;obtain⟨b,t,n⟩:=h.held;obtain⟨f,e,u⟩:=h.done;obtain⟨l,j,q⟩:=h.undone;exact⟨by rw[aA (qa c)];exact h.ins,by rw[aA (qa m)];exact h.own,⟨b,by rw[aA (qa i)];exact t,n⟩,⟨f,by rw[aA (qa s)];exact e,u⟩,⟨l,by rw[aA (qa g)];exact j,q⟩,h.ne,h.gp,h.gx,h.gd,h.g1,h.g2⟩
def RackIn.shr(h:RackIn K ad C G H p r dx d l1 l2)(ha:a∉[p,dx,d,l1,l2])(le:Same G (upd G a o)):RackIn K ad C (upd G a o) H p r dx d l1 l2:=by simp only[av,jq,or_false,not_or]at ha;obtain⟨c,m,i,s,g⟩:=ha;obtain⟨b,t,n⟩:=h.held;obtain⟨f,e,u⟩:=h.done;obtain⟨l,j,q⟩:=h.undone;exact⟨h.ins,h.own,⟨b,t,n.mono le⟩,⟨f,e,u.mono le⟩,⟨l,j,q.mono le⟩,h.ne,by rw[aA (qa c)];exact h.gp,by rw[aA (qa m)];exact h.gx,by rw[aA (qa i)];exact h.gd,by rw[aA (qa s)];exact h.g1,by rw[aA (qa g)];exact h.g2⟩
end
structure SS(X:Cx)(ad:Ad)(G₀ G H:Hp)(ρ:Rho)(σ:St):Prop where
 st:Step G₀ X.H₀ G H
 sl:SL X.K ad G H ρ σ
 ow: ∀(i:Nat) (sl:Slot) (a:Addr),ρ[i]? =pi sl->sl.owns=qc->σ[i]? =pi (pi (.ref a))->X.H₀ a=qb
 dj: ∀(i j:Nat) (sl sl':Slot) (a:Addr),ρ[i]? =pi sl->ρ[j]? =pi sl'->sl.owns=qc->sl'.owns=qc->σ[i]? =pi (pi (.ref a))->σ[j]? =pi (pi (.ref a))->i=j
 rs:RS X.H₀ H ρ σ
def OKo(X:Cx)(ad:Ad)(G₀:Hp)(o:Out)(D':Ends)(E:St->Nat->Hp->Prop):Prop:=match o with
 |.nx ρ=>∀σ G H,SS X ad G₀ G H ρ σ->D'.nx σ H
 |.bk ρ=>∀σ G H,SS X ad G₀ G H ρ σ->D'.bk σ H
 |.ct ρ=>∀σ G H,SS X ad G₀ G H ρ σ->D'.ct σ H
 |.ex c ρ=>∀σ G H,SS X ad G₀ G H ρ σ->E σ c H
 |.rt (.ok d)=>∀v G H,Step G₀ X.H₀ G H->Rep X.K ad G d v->D'.rt v H
 |.rt (.ow xs)=>∀p vs G H,Step G₀ X.H₀ G H->X.H₀ p=qb->G p=qb->H p=pi (.lst vs)->aK X.K ad G xs vs->D'.rt (.ref p) H
 |.rt _=>False
def XA(X:Cx)(ad:Ad)(Z:(St->Nat->Hp->Prop)->Prop)(E:St->Nat->Hp->Prop):Prop:=(∀σ,XP X ad σ (E σ))/\Z E
def tS(X:Cx)(ad:Ad)(Z:(St->Nat->Hp->Prop)->Prop)(g:FS):TS:=λD' σ H=>∃G₀ G ρ E,SS X ad G₀ G H ρ σ/\XA X ad Z E/\OKo X ad G₀ (g ρ) D' E
abbrev MS(X:Cx)(ad:Ad)(Z:(St->Nat->Hp->Prop)->Prop)(st:Stmt)(g:FS):Prop:=PS X st (tS X ad Z g)
abbrev MSs(X:Cx)(ad:Ad)(Z:(St->Nat->Hp->Prop)->Prop)(st:L1 Stmt)(g:FS):Prop:=PSs X st (tS X ad Z g)
section
variable{X:Cx}{ad:Ad}{σ:St}{H G G₀:Hp}{ρ:Rho}{st:Stmt}
theorem SS.step(S:SS X ad G₀ G H ρ σ)(t:Step G H G1 H1):SS X ad G₀ G1 H1 ρ σ:=⟨S.st.trans t,S.sl.step t,S.ow,S.dj,S.rs.same S.sl t.sh⟩
def jP{G₀ Gs G H H₀ Hs}(a:Step G₀ H₀ Gs Hs)(b:Step Gs H₀ G H):Step G₀ H₀ G H:=
 ⟨a.sg.trans b.sg,b.gh,b.sh,λx c d=>by
  rcases q:Gs x with _|o;exact b.nw x q d;exact a.nw x c (by rw[q];exact λz=>nomatch z)⟩
def SS.up(a:Step G₀ X.H₀ Gs Hs)(S:SS X ad Gs G H ρ σ):SS X ad G₀ G H ρ σ:=⟨jP a S.st,S.sl,S.ow,S.dj,S.rs⟩
def SS.here(S:SS X ad G₀ G H ρ σ):SS X ad G G H ρ σ:=⟨⟨Same.refl _,S.st.gh,S.st.sh,λb a c=>absurd a c⟩,S.sl,S.ow,S.dj,S.rs⟩
def OKo.rebase(h:OKo X ad G₀ o D' E)(a:Step G₀ X.H₀ Gs Hs):OKo X ad Gs o D' E:=by
 cases o with
 |nx g=>exact λb G H S=>h b G H (S.up a)
 |bk g=>exact λb G H S=>h b G H (S.up a)
 |ct g=>exact λb G H S=>h b G H (S.up a)
 |ex c g=>exact λb G H S=>h b G H (S.up a)
 |rt r=>
  cases r with
  |ok d=>exact λv G H f q=>h v G H (jP a f) q
  |ow j=>exact λp i G H f n m e q=>h p i G H (jP a f) n m e q
  |ex c=>exact h
  |bad=>exact h
def gI(S:SS X ad G₀ G H ρ σ)(hx:XA X ad Z E)(hr:OKo X ad G₀ (fU ρ (f ρ) k) D' E)(q: ∀v d G1 H1,Step G H G1 H1->Rep X.K ad G1 d v->OKo X ad G₀ (k d) D' E->Q' v H1):tE X ad f σ H Q':=by
 refine⟨G,ρ,E σ,S.st.gh,S.sl,hx.1 σ,?_⟩;unfold fU at hr;cases e:f ρ with
 |ok d=>rw[e]at hr;exact λv G1 H1 st r=>q v d G1 H1 st r hr
 |ow i=>
  rw[e]at hr;intro p h G1 H1 st n m g r;obtain⟨b,st2,a⟩:=dG (X:=X) (ad:=ad) st n m g r;exact q _ _ b H1 st2 a hr
 |ex c=>rw[e]at hr;exact λG1 H1 st=>hr σ G1 H1 (S.step st)
 |bad=>rw[e]at hr;exact hr
def Gc:MS X ad Z (.Pass pos) aU:=PS.imp x8 λe d H a=>by obtain⟨b,G,g,E,S,f,c⟩:=a;exact c d G H S
def tR:MSs X ad Z [] aU:=PSs.imp kZ λe d H a=>by obtain⟨b,G,g,E,S,f,c⟩:=a;exact c d G H S
def Gd(h1:MS X ad Z st g):MSs X ad Z [st] g:=nY h1
def vH(h1:MS X ad Z st g)(h2:MSs X ad Z sts h):MSs X ad Z (st::sts) (aR g h):=by
 refine PSs.imp (e9 h1 h2) ?_;rintro n o H ⟨d,G,i,E,S,f,a⟩;refine⟨d,G,i,E,S,f,?_⟩;unfold aR at a;cases e:g i with
 |nx b=>rw[e]at a;exact λm l p j=>⟨d,l,b,E,j,f,a⟩
 |bk b=>rw[e]at a;exact a
 |ct b=>rw[e]at a;exact a
 |ex c b=>rw[e]at a;exact a
 |rt r=>
  rw[e]at a;cases r<;>exact a
def vI(he:ME X ad e f):MS X ad Z (.Return (pi e) pos) (dW f):=by
 refine PS.imp (uP he) ?_;rintro s h H ⟨j,G,i,E,S,o,a⟩;refine⟨G,i,E h,S.st.gh,S.sl,o.1 h,?_⟩;unfold dW at a;cases e:f i with
 |ok d=>rw[e]at a;exact λv b g st r=>a v b g (S.st.trans st) r
 |ow t=>rw[e]at a;exact λp l b g st n m q r=>a p l b g (S.st.trans st) (S.st.sh.free n) m q r
 |ex c=>rw[e]at a;exact λb g st=>a h b g (S.step st)
 |bad=>rw[e]at a;exact a
def Ge(he:ME X ad e f)(hs:swapsWith e qb pos.line X.env=pure qe):MS X ad Z (.Expr e pos) (kJ f):=by refine PS.imp (nZ he hs) ?_;rintro l i H ⟨a,G,m,E,S,b,c⟩;exact gI S b c λv d h j g r k=>k i h j (S.step g)
theorem SS.set(S:SS X ad G₀ G H ρ σ)(r:Rep X.K ad G d v):SS X ad G₀ G H (ρ.set i (.sh d)) (σ.set i (pi v)):=by
 have b: ∀(j:Nat) (sl:Slot),(ρ.set i (.sh d))[j]? =pi sl->(j=i/\sl= .sh d/\i<ρ.length)\/(j≠i/\ρ[j]? =pi sl):=λj sl e=>by
  by_cases z:j=i;subst z;have c:j<ρ.length:=by have:=(ay.mp e).1;rwa [ke]at this
  rw[bj c]at e;cases e;exact .inl ⟨rfl,rfl,c⟩;rw[bc (qa z)]at e;exact .inr ⟨z,e⟩
 refine⟨S.st,⟨by rw[ke,ke];exact S.sl.len,λj sl e=>?_⟩,λj l a e w h=>?_,λj o l s a e f w m h n=>?_,S.rs.set rfl λ_ z=>nomatch z⟩;rcases b j sl e with ⟨rfl,rfl,c⟩|⟨z,e⟩;exact⟨pi v,bj (by rw[<-S.sl.len];exact c),v,rfl,r⟩;obtain⟨p,t,q⟩:=S.sl.at_ j sl e;exact⟨p,by rw[bc (qa z)];exact t,q⟩;rcases b j _ e with ⟨_,z,_⟩|⟨z,e⟩;subst z;exact(bf w).elim;rw[bc (qa z)]at h;exact S.ow j l a e w h;rcases b j _ e with ⟨_,z,_⟩|⟨z,e⟩;subst z;exact(bf w).elim;rcases b o _ f with ⟨_,g,_⟩|⟨g,f⟩;subst g;exact(bf m).elim;rw[bc (qa z)]at h;rw[bc (qa g)]at n;exact S.dj j o l s a e f w m h n
def SL.own_at{K}{j:Nat}(h:SL K ad G H ρ σ)(e:ρ[j]? =pi sl)(w:sl.owns=qc)(hj:σ[j]? =pi (pi (.ref p))):G p=qb/\H p≠qb:=by
 obtain⟨n,i,g⟩:=h.at_ j sl e;rw[hj]at i;cases i;cases sl with
 |no=>exact(bf w).elim
 |sh d=>exact(bf w).elim
 |sd l=>obtain⟨a,m,c,b,f,_⟩:=g;cases c;exact⟨b,by rw[f];exact λz=>nomatch z⟩
 |rk _ _=>exact(bf w).elim
 |ow l=>obtain⟨a,m,c,b,f,_⟩:=g;cases c;exact⟨b,by rw[f];exact λz=>nomatch z⟩
 |dc l=>obtain⟨a,m,c,b,f,_⟩:=g;cases c;exact⟨b,by rw[f];exact λz=>nomatch z⟩
def SS.setNew{i:Nat}{sn:Slot}{p:Addr}{G1 H1:Hp}(S:SS X ad G₀ G H ρ σ)(st:Step G H G1 H1)(n:H p=qb)(r:SLi X.K ad G1 H1 sn (pi (.ref p)))(wr:sn.isRk=qe:=by rfl):
  SS X ad G₀ G1 H1 (ρ.set i sn) (σ.set i (pi (.ref p))):=by
 have x:=S.step st
 have c: ∀(j:Nat) (sl:Slot),(ρ.set i sn)[j]? =pi sl->(j=i/\sl=sn/\i<ρ.length)\/(j≠i/\ρ[j]? =pi sl):=λj sl e=>by
  by_cases z:j=i
  .subst z;have d:j<ρ.length:=by have:=(ay.mp e).1;rwa [ke]at this
   rw[bj d]at e;cases e;exact .inl ⟨rfl,rfl,d⟩
  .rw[bc (qa z)]at e;exact .inr ⟨z,e⟩
 have b: ∀(j:Nat) (sl:Slot),ρ[j]? =pi sl->sl.owns=qc->σ[j]? ≠pi (pi (.ref p)):=λj sl M w I=>(S.sl.own_at M w I).2 n
 refine⟨x.st,⟨by rw[ke,ke];exact S.sl.len,λj sl o=>?_⟩,λj t a o w h=>?_,λj s t A a L y E B l g=>?_,x.rs.set wr λa _ z k N f m=>by
  cases z;exact((f.back S.sl st.sh).at S.sl p m).2 n⟩
 .rcases c j sl o with ⟨q1,q,d⟩|⟨z,o⟩
  .rw[q1,q];exact⟨pi (.ref p),bj (by rw[<-S.sl.len];exact d),r⟩
  .obtain⟨J,l,g⟩:=x.sl.at_ j sl o;exact⟨J,by rw[bc (qa z)];exact l,g⟩
 .rcases c j _ o with ⟨q1,_,d⟩|⟨z,o⟩
  .rw[q1,bj (by rw[<-S.sl.len];exact d)]at h
   cases h;exact S.st.sh.free n
  .rw[bc (qa z)]at h;exact S.ow j t a o w h
 .rcases c j _ L with ⟨q1,_,d⟩|⟨z,C⟩
  .rcases c s _ y with ⟨q,_,_⟩|⟨v,u⟩
   .rw[q1,q]
   .rw[q1,bj (by rw[<-S.sl.len];exact d)]at l
    cases l;rw[bc (qa v)]at g;exact absurd g (b s A u B)
  .rcases c s _ y with ⟨q,_,d⟩|⟨v,u⟩
   .rw[q,bj (by rw[<-S.sl.len];exact d)]at g
    cases g;rw[bc (qa z)]at l;exact absurd l (b j t C E)
   .rw[bc (qa z)]at l;rw[bc (qa v)]at g;exact S.dj j s t A a C u E B l g
def SS.setOw(S:SS X ad G₀ G H ρ σ)(st:Step G H G1 H1)(n:H p=qb)(m:G1 p=qb)(e:H1 p=pi (.lst vs))(r:aK X.K ad G1 xs vs):
  SS X ad G₀ G1 H1 (ρ.set i (.ow xs)) (σ.set i (pi (.ref p))):=S.setNew st n ⟨p,vs,rfl,m,e,r⟩
def Ka(S:SS X ad G₀ G H ρ σ)(hx:XA X ad Z E)(hr:OKo X ad G₀ (wY i f ρ) D' E):tE X ad f σ H λv H1=>D'.nx (σ.set i (pi v)) H1:=by
 refine⟨G,ρ,E σ,S.st.gh,S.sl,hx.1 σ,?_⟩;unfold wY at hr;cases e:f ρ with
 |ok d=>rw[e]at hr;exact λv a H1 st r=>hr _ a H1 ((S.step st).set r)
 |ow h=>rw[e]at hr;exact λp g a H1 st n m b r=>hr _ a H1 (S.setOw st n m b r)
 |ex c=>rw[e]at hr;exact λa H1 st=>hr σ a H1 (S.step st)
 |bad=>rw[e]at hr;exact hr
def Kb(hc:MT X ad c f)(ha:MSs X ad Z a g)(hb:MSs X ad Z b h):MS X ad Z (.If c a b pos) (sIf f g h):=by
 refine PS.imp (Jf hc ha hb) ?_;rintro q l H ⟨j,G,m,E,S,n,i⟩;unfold sIf at i;cases e:f m with
 |ok d=>
  rw[e]at i;cases d<;>try exact i.elim
  rename_i k;refine⟨G,m,E l,S.st.gh,S.sl,n.1 l,.inl ⟨k,e⟩,?_⟩;rw[e];intro v o p st r;unfold Rep at r;subst r;refine⟨k,rfl,?_⟩;rcases k with _|_;exact yJ ⟨j,o,m,E,S.step st,n,i⟩;exact xR ⟨j,o,m,E,S.step st,n,i⟩
 |ow s=>rw[e]at i;exact i.elim
 |ex k=>
  rw[e]at i;refine⟨G,m,E l,S.st.gh,S.sl,n.1 l,.inr ⟨k,e⟩,?_⟩;rw[e];exact λo p st=>i l o p (S.step st)
 |bad=>rw[e]at i;exact i.elim
def SS.shareG{i:Nat}{sl₀ sn:Slot}{a:Addr}{o:HO}(S:SS X ad G₀ G H ρ σ)(e:ρ[i]? =pi sl₀)(w₀:sl₀.owns=qc)(h1:σ[i]? =pi (pi (.ref a)))(h3:H a=pi o)(hst:Step G₀ X.H₀ (upd G a o) H)(wn:sn.owns=qe)
  (r:SLi X.K ad (upd G a o) H sn (pi (.ref a))) (wr:sn.isRk=qe:=by rfl):SS X ad G₀ (upd G a o) H (ρ.set i sn) σ:=by
 have h2:G a=qb:=(S.sl.own_at e w₀ h1).1;have B:Same G (upd G a o):=Same.upd_new h2;have Z:i<ρ.length:=(ay.mp e).1;have l: ∀(j:Nat) (sl:Slot),(ρ.set i sn)[j]? =pi sl->(j=i/\sl=sn)\/(j≠i/\ρ[j]? =pi sl):=λj sl e=>by
  by_cases z:j=i;subst z;rw[bj Z]at e;cases e;exact .inl ⟨rfl,rfl⟩;rw[bc (qa z)]at e;exact .inr ⟨z,e⟩
 refine⟨hst,⟨by show(ρ.set i _).length=_;rw[ke];exact S.sl.len,λj sl f=>?_⟩,λj t b f w h=>?_,λj U t zs b I L O E n s=>?_,S.rs.re wr e w₀⟩;rcases l j sl f with ⟨q1,W⟩|⟨z,f⟩;rw[q1,W];exact⟨pi (.ref a),h1,r⟩;obtain⟨Y,n,s⟩:=S.sl.at_ j sl f;refine⟨Y,n,?_⟩;cases sl with
 |no=>trivial
 |sh d=>obtain⟨v,c,g⟩:=s;exact⟨v,c,g.mono B⟩
 |ow t=>
  obtain⟨b,x,c,g,u,A⟩:=s;have y:b≠a:=λq=>by
   subst q;subst c;exact z (S.dj j i _ _ b f e rfl w₀ n h1)
  exact⟨b,x,c,by rw[aA y];exact g,u,A.mono B⟩
 |dc t=>
  obtain⟨b,x,c,g,u,A,Q⟩:=s;have y:b≠a:=λq=>by
   subst q;subst c;exact z (S.dj j i _ _ b f e rfl w₀ n h1)
  exact⟨b,x,c,by rw[aA y];exact g,u,A.mono B,Q⟩
 |sd t=>
  obtain⟨b,x,c,g,u,A,Q⟩:=s;have y:b≠a:=λq=>by
   subst q;subst c;exact z (S.dj j i _ _ b f e rfl w₀ n h1)
  exact⟨b,x,c,by rw[aA y];exact g,u,A.mono B,Q⟩
 |rk C r=>
  refine gzq λRz ez=>?_;obtain⟨p,N,d,M,J,c,g⟩:=s;subst ez;have ft:fF H ρ σ j [p,N,d,M,J]:=⟨C,r,p,N,d,M,J,f,by rw[n,c],g.ins,rfl⟩;exact⟨p,N,d,M,J,c,g.shr (λm=>S.rs.ow j _ ft a m i sl₀ e w₀ h1) B⟩
 rcases l j _ f with ⟨_,z⟩|⟨z,f⟩;rw[z,wn]at w;exact(bf w).elim;exact S.ow j t b f w h;rcases l j _ I with ⟨_,z⟩|⟨z,I⟩;rw[z,wn]at O;exact(bf O).elim;rcases l U _ L with ⟨_,T⟩|⟨T,L⟩;rw[T,wn]at E;exact(bf E).elim;exact S.dj j U t zs b I L O E n s
end
section
variable{X:Cx}{ad:Ad}{cc:cf}{s:Shared}{σ:St}{H G G₀:Hp}{ρ:Rho}{E:St->Nat->Hp->Prop}{e:Expr}{f:F}{st:Stmt}
def SS.updG{i:Nat}{sl₀ sn:Slot}{a:Addr}{o:HO}(S:SS X ad G₀ G H ρ σ)(e:ρ[i]? =pi sl₀)(w₀:sl₀.owns=qc)(h1:σ[i]? =pi (pi (.ref a)))(r:SLi X.K ad G (upd H a o) sn (pi (.ref a)))(wr:sn.isRk=qe:=by rfl):SS X ad G₀ G (upd H a o) (ρ.set i sn) σ:=by
 have n0:X.H₀ a=qb:=S.ow i sl₀ a e w₀ h1;have h2:G a=qb:=(S.sl.own_at e w₀ h1).1;have hl:i<ρ.length:=(ay.mp e).1;have s: ∀(j:Nat) (sl:Slot),(ρ.set i sn)[j]? =pi sl->(j=i/\sl=sn)\/(j≠i/\ρ[j]? =pi sl):=λj sl e=>by
  by_cases z:j=i;subst z;rw[bj hl]at e;cases e;exact .inl ⟨rfl,rfl⟩;rw[bc (qa z)]at e;exact .inr ⟨z,e⟩
 refine⟨rJ S.st n0 h2,⟨by rw[ke];exact S.sl.len,λj sl Z=>?_⟩,λj E b Z w h=>?_,λj W E N b e1 e2 w1 w2 t u=>?_,?_⟩;rcases s j sl Z with ⟨q1,x⟩|⟨z,g⟩;rw[q1,x];exact⟨pi (.ref a),h1,r⟩;obtain⟨ov,t,u⟩:=S.sl.at_ j sl g;refine⟨ov,t,?_⟩;cases sl with
 |no=>trivial
 |sh d=>exact u
 |ow E=>
  obtain⟨b,l,n,y,I,Q⟩:=u;have A:b≠a:=λq=>by
   subst q;subst n;exact z (S.dj j i _ _ b g e rfl w₀ t h1)
  exact⟨b,l,n,y,by rw[aA A];exact I,Q⟩
 |dc E=>
  obtain⟨b,l,n,y,I,Q⟩:=u;have A:b≠a:=λq=>by
   subst q;subst n;exact z (S.dj j i _ _ b g e rfl w₀ t h1)
  exact⟨b,l,n,y,by rw[aA A];exact I,Q⟩
 |sd E=>
  obtain⟨b,l,n,y,I,Q⟩:=u;have A:b≠a:=λq=>by
   subst q;subst n;exact z (S.dj j i _ _ b g e rfl w₀ t h1)
  exact⟨b,l,n,y,by rw[aA A];exact I,Q⟩
 |rk C r=>
  refine gzq λRz ez=>?_;obtain⟨p,T,d,O,M,n,y⟩:=u;subst ez;have Y:fF H ρ σ j [p,T,d,O,M]:=⟨C,r,p,T,d,O,M,g,by rw[t,n],y.ins,rfl⟩;exact⟨p,T,d,O,M,n,y.ups (λm=>S.rs.ow j _ Y a m i sl₀ e w₀ h1)⟩
 rcases s j _ Z with ⟨q1,x⟩|⟨z,g⟩;rw[q1,h1]at h;cases h;exact n0;exact S.ow j E b g w h;rcases s j _ e1 with ⟨q1,_⟩|⟨z,g⟩;rcases s W _ e2 with ⟨x,_⟩|⟨z',B⟩;rw[q1,x];rw[q1]at t ⊢;exact S.dj i W _ N b e B w₀ w2 t u;rcases s W _ e2 with ⟨x,_⟩|⟨z',B⟩;rw[x]at u ⊢;exact S.dj j i E _ b g e w1 w₀ t u;exact S.dj j W E N b g B w1 w2 t u;refine RS.re (H:=upd H a o) ?_ wr e w₀;have bk: ∀{k:Nat} {v:L1 Addr},fF (upd H a o) ρ σ k v->fF H ρ σ k v:=λ{k v} f=>by
  refine gzq λRz ez=>?_;obtain⟨C,r,p,T,d,O,M,g,B,f3,f4⟩:=f;obtain⟨p',L,d',U,J,q1,x⟩:=S.sl.rk g;subst ez;rw[B]at q1;cases q1;have Y:fF H ρ σ k [p,L,d',U,J]:=⟨C,r,p,L,d',U,J,g,B,x.ins,rfl⟩;have A:p≠a:=λz=>S.rs.ow k _ Y p (by simp) i sl₀ e w₀ (by rw[z];exact h1);rw[aA A]at f3;exact⟨C,r,p,T,d,O,M,g,B,f3,f4⟩
 exact⟨λk v f=>S.rs.h0 k v (bk f),λk v f=>S.rs.ow k v (bk f),λk k' v ab c f f'=>S.rs.rr k k' v ab c (bk f) (bk f')⟩
def HR.rep{K}(h:HR K ad G kvs es):es.map (·.1)=(kvs.map (·.1)).map pu/\aK K ad G (kvs.map (·.2)) (es.map (·.2)):=by
 unfold HR at h;induction h with
 |nil=>exact⟨rfl,aK.nil⟩
 |@cons p q e d h t c=>
  obtain⟨a,b⟩:=c;refine⟨?_,aK.cons h.2 b⟩;rw[lm,lm,lm,h.1,a]
def Gf{K}(g:G a=pi (.frz o (.dK es)))(h:HR K ad G kvs es):Rep K ad G (.dct (kvs.map (·.1)) (kvs.map (·.2))) (.ref a):=by obtain⟨b,c⟩:=h.rep;unfold Rep;exact⟨a,o,es,rfl,g,b,c⟩
def Inv.frzD(I:Inv X cc σ H s)(e:H a=pi (.dK es)): ∃o,Inv X cc σ (upd H a (.frz o (.dK es))) s:=by obtain⟨z,d,f,b,dd⟩:=yV I.hok e;obtain⟨o,c⟩: ∃o,s.heap.get? a=pi o:=let ⟨o,_,_,h,_⟩:=dd;⟨o,h⟩;exact⟨o,jM (h':=s.heap) (t':=s.toks) I (by rw[e];exact oy) ⟨rfl,λ_ _=>rfl⟩ ⟨o,c⟩ ⟨c,nB z d b dd⟩⟩
theorem SS.frz1(S:SS X ad G₀ G H ρ σ)(I:Inv X cc σ H s): ∃G' H',SS X ad G₀ G' H' (SK.frz1 i ρ) σ/\Same G G'/\Inv X cc σ H' s:=by
 unfold SK.frz1;rcases e:ρ[i]? with _|sl;exact⟨G,H,S,Same.refl _,I⟩;cases sl with
 |no=>exact⟨G,H,S,Same.refl _,I⟩
 |sd d=>exact⟨G,H,S,Same.refl _,I⟩
 |rk _ _=>exact⟨G,H,S,Same.refl _,I⟩
 |sh d=>exact⟨G,H,S,Same.refl _,I⟩
 |dc b=>
  refine gzq λRz ez=>?_;obtain⟨a,l,f,c,h,j,r⟩:=S.sl.dc e;obtain⟨o,v⟩:=Inv.frzD I h;subst ez;have t:i<ρ.length:=(ay.mp e).1;have n:SS X ad G₀ G (upd H a (sdO a (o,l))) (ρ.set i (.sd b)) σ:=S.updG e rfl f ⟨a,(o,l),rfl,c,aD,j,r⟩;have u:(ρ.set i (.sd b))[i]? =pi (.sd b):=bj t;have g:Same G (upd G a (sdO a (o,l))):=Same.upd_new c;have m:=n.shareG (sn:=Slot.sh (D.dct (b.map λp:Str×D=>p.1) (b.map λp:Str×D=>p.2))) u rfl f aD (n.st.shareO (S.ow i _ a e rfl f) c aD) rfl ⟨.ref a,rfl,Gf aD (j.mono g)⟩;rw[List.set_set]at m;exact⟨_,_,m,g,v⟩
 |ow w=>
  obtain⟨a,q,f,c,h,j⟩:=S.sl.ow e;have g:Same G (upd G a (.lst q)):=Same.upd_new c;exact⟨_,H,S.shareG e rfl f h (S.st.share (S.ow i _ a e rfl f) c h) rfl ⟨.ref a,rfl,by unfold Rep;exact⟨a,q,rfl,SqL.of aD,j.mono g⟩⟩,g,I⟩
theorem SS.frz{is}: ∀{ρ} {G H},SS X ad G₀ G H ρ σ->Inv X cc σ H s->∃G' H',SS X ad G₀ G' H' (SK.frz is ρ) σ/\Same G G'/\Inv X cc σ H' s:=by
 induction is with
 |nil=>intro ρ G H S I;exact⟨G,H,S,Same.refl _,I⟩
 |cons i is h=>
  intro ρ G H S I;refine gzq λRz ez=>?_;obtain⟨l,m,f,a,b⟩:=S.frz1 (i:=i) I;obtain⟨c,g,d,j,e⟩:=h f b;subst ez;exact⟨c,g,d,a.trans j,e⟩
def iX(h1:MS X ad Z st g):MS X ad Z st (fE is g):=by rcases is with _|⟨i,is⟩;exact h1;rintro l s d H b I ⟨a,G,n,E,S,c,h⟩;obtain⟨e,m,f,_,j⟩:=S.frz (is:=i::is) I;exact h1 l s d m b j ⟨a,e,_,E,f,c,h⟩
theorem SS.upd(S:SS X ad G₀ G H ρ σ)(e:ρ[i]? =pi (.ow xs))(h1:σ[i]? =pi (pi (.ref a)))(h2:G a=qb)(r:aK X.K ad G ys ws):SS X ad G₀ G (L2.upd H a (.lst ws)) (ρ.set i (.ow ys)) σ:=
 S.updG e rfl h1 ⟨a,ws,rfl,h2,aD,r⟩
def vJ(hs:starEach [e] X.env=(qe,eval e X.env)::starEach [] X.env):((backTo cpos (starEach [e] X.env)).all (fun x=> !x.1)&&(backToKw cpos (keywordEach [] X.env)).all (fun x=>x.1.isSome)
   &&decide ([e].length+([]:L1 Keyword).length+(if([]:L1 Keyword).isEmpty then 0 else 1)<30))=qc:=by
 rw[hs];rfl
structure ItG(X:Cx)(ad:Ad)(J:It)(G:Hp)(ds:List D):Prop where
 go: ∀(i:Nat) (G1 H1:Hp) (d:D),Same G G1->Same G1 H1->ds[i]? =pi d->J.go i H1/\∀x H2,J.yld i H1 x H2->∃G2,Step G1 H1 G2 H2/\Rep X.K ad G2 d x
 stop: ∀(G1 H1:Hp),Same G G1->Same G1 H1->J.stop ds.length H1
def IGK(X:Cx)(ad:Ad)(G H:Hp)(r:R)(W:It->Hp->Prop)(E:Nat->Hp->Prop):Prop:=match r with
 |.ok d=>∃ds,m8 d=pi ds/\∀J G' H',Step G H G' H'->ItG X ad J G' ds->W J H'
 |.ow xs=>∀J G' H',Step G H G' H'->ItG X ad J G' xs->W J H'
 |.ex c=>∀G' H',Step G H G' H'->E c H'
 |.bad=>False
def tIG(X:Cx)(ad:Ad)(f:F):TI:=λσ H W=>∃G ρ E,Same G H/\SL X.K ad G H ρ σ/\XP X ad σ E/\IGK X ad G H (f ρ) W E
abbrev MIG(X:Cx)(ad:Ad)(tg e:Expr)(f:F):Prop:=PI X tg e (tIG X ad f)
def Gg(hq:SqT X.K G a vs)(r:aK X.K ad G ds vs):ItG X ad (Itt X.K a) G ds:=by refine⟨λi g j d b c e=>?_,λg j b c=>⟨vs,c.seqT (b.seqT hq),by rw[r.length];exact aj _⟩⟩;obtain⟨v,f,h⟩:=r.get e;refine⟨⟨vs,v,c.seqT (b.seqT hq),f⟩,?_⟩;rintro x l ⟨rfl,y⟩;have:=y vs (c.seqT (b.seqT hq));rw[f]at this;cases this;exact⟨g,Step.refl c,h.mono b⟩
def Gh(hq:SqL X.K G a vs)(r:aK X.K ad G ds vs):ItG X ad (Itl X.K a) G ds:=by refine⟨λi g j d b c e=>?_,λg j b c=>⟨vs,c.seq (b.seq hq),by rw[r.length];exact aj _⟩⟩;obtain⟨v,f,h⟩:=r.get e;refine⟨⟨vs,v,c.seq (b.seq hq),f⟩,?_⟩;rintro x l ⟨rfl,y⟩;have:=y vs (c.seq (b.seq hq));rw[f]at this;cases this;exact⟨g,Step.refl c,h.mono b⟩
def Gi{lo}:ItG X ad (Itr lo n) G ((oo n).map λ(i:Nat)=>D.int (lo+(i:Int))):=by refine⟨λi a h d g f e=>?_,λa h g f=>by simp[Itr]⟩;rw[i6]at e;rcases q:(oo n)[i]? with _|j;rw[q]at e;cases e;rw[q]at e;obtain⟨c,b⟩:=ay.mp q;rw[List.length_range]at c;rw[List.getElem_range]at b;subst b;cases e;refine⟨c,?_⟩;rintro x l ⟨rfl,rfl⟩;exact⟨a,Step.refl f,bT⟩
def Gj{a}{o}{ks:L1 Str}{es}(ha:G a=pi (.frz o (.dK es)))(h:es.map (·.1)=ks.map pu):ItG X ad (Itk a o es) G (ks.map D.str):=by
 have l:es.length=ks.length:=by have:=congrArg og h;simpa using this
 refine⟨λi f n d c b e=>?_,λf n c b=>⟨by rw[aq,l];exact aj _,b _ _ (c _ _ ha)⟩⟩;obtain⟨q,q1,x,j,rfl⟩:=zQ h e;refine⟨⟨(ay.mp q1).1,b _ _ (c _ _ ha)⟩,λv r m=>?_⟩;obtain⟨rfl,p,g,rfl⟩:=m;rw[q1]at g;cases g;rw[j];exact⟨f,Step.refl b,by unfold Rep;rfl⟩
def tU{tg a}{f}(ha:ME X ad a f):MIG X ad tg a f:=by
 rintro L s C H W I ⟨G,Z,E,hG,hS,hx,B⟩;have Y: ∀(d:D) (t:L1 D),items d=pi t->(∀J G' H',Step G H G' H'->ItG X ad J G' t->W J H')->∀u h v g i,Inv X L C g h->bJ v u->Step G H i g->Rep X.K ad i d v->X.wp (pyIter u) (PIE X L C tg W) X.xe h:=by
  intro d t e N u h v g i j y r q;obtain⟨p,vs,rfl,M,rq⟩:=rB e q;cases (show u=pf p from y);rcases M with M|M;obtain⟨O,rv,pt,hz⟩:=j.tuple (r.gh.seqT M);refine wpAny_pyIter_tuple (show h.heap.IsTuple p O.toArray from pt) ?_;refine⟨h.z,[h.z],_,_,g,rfl,j.kept (t':=h.toks) λb o e=>ae _ e,mW p _,⟨_,af _ rfl,rfl,rfl⟩,λb T=>?_,N _ i g r (Gg M rq)⟩;have e:b=h.z:=by simpa using T
  subst e;exact j.fpOk (aj _) (j.hok.fresh (aj _));obtain⟨O,rv,pt,hz⟩:=j.list (r.gh.seq M);refine wpAny_pyIter_list pt.isList ?_;refine⟨h.z,[h.z],_,_,g,rfl,j.kept (t':=h.toks) λb o e=>ae _ e,lB p _,⟨_,af _ rfl,rfl,rfl⟩,λb T=>?_,N _ i g r (Gh M rq)⟩;have e:b=h.z:=by simpa using T
  subst e;exact j.fpOk (aj _) (j.hok.fresh (aj _))
 have Q: ∀(d:D) (t:L1 D),m8 d=pi t->(∀J G' H',Step G H G' H'->ItG X ad J G' t->W J H')->∀u h v g i,Inv X L C g h->bJ v u->Step G H i g->Rep X.K ad i d v->X.wp (pyIter u) (PIE X L C tg W) X.xe h:=by
  intro d t e N u h v g i j y r q;by_cases hd: ∃U vs,d= .dct U vs;obtain⟨U,vs,rfl⟩:=hd;have z:(if U.length<=1000 then pi (U.map D.str)else qb)=pi t:=e;by_cases hl:U.length<=1000;rw[if_pos hl]at z;cases z;unfold Rep at q;obtain⟨a,o,es,rfl,ga,a1,a2⟩:=q;cases (show u=pf a from y);obtain⟨hd,ag,ep,ab,da,ar,S⟩:=vF j (r.gh _ _ ga);refine wpAny_pyIter_dict (knd:=bE X.prog X.w) hd da ?_;refine⟨h.z,[h.z],_,_,g,rfl,j.kept (t':=h.toks) λb o e=>ae _ e,vG _,⟨ep,ar,S,_,af _ rfl,rfl,by rw[KV.length ab];rfl⟩,λb T=>?_,N _ i g r (Gj ga a1)⟩;have e:b=h.z:=by simpa using T
  subst e;exact j.fpOk (aj _) (j.hok.fresh (aj _));rw[if_neg hl]at z;cases z;have z:items d=pi t:=by
   cases d<;>first|exact e|exact absurd ⟨_,_,rfl⟩ hd
  exact Y d t z N u h v g i j y r q
 cases e:f Z with
 |ok d=>
  rw[e]at B;obtain⟨t,e2,N⟩:=B;exact L2.thn (ha L s C H (λv g=>∃i,Step G H i g/\Rep X.K ad i d v) I ⟨G,Z,E,hG,hS,hx,by rw[e];exact λv i g r q=>⟨i,r,q⟩⟩) λu h x=>by obtain⟨v,g,j,y,i,r,q⟩:=x;exact Q d t e2 N u h v g i j y r q
 |ow l=>
  rw[e]at B;exact L2.thn (ha L s C H (λv g=>∃i,Step G H i g/\Rep X.K ad i (.lst l) v) I ⟨G,Z,E,hG,hS,hx,by rw[e];exact λp vs i g r n m z q=>dG r n m z q⟩) λu h x=>by obtain⟨v,g,j,y,i,r,q⟩:=x;exact Q (.lst l) l rfl B u h v g i j y r q
 |ex c=>
  rw[e]at B;exact L2.thn (ha L s C H (λv g=>False) I ⟨G,Z,E,hG,hS,hx,by rw[e];exact B⟩) λu h x=>by obtain⟨v,g,j,y,q⟩:=x;exact q.elim
 |bad=>
  rw[e]at B;exact ba B
def zT{tg a}{f}(hg:L2.Gl X "range")(hm:X.mg "range"=qb)(ha:ME X ad a f)(hs:starEach [a] X.env=(qe,eval a X.env)::starEach [] X.env):MIG X ad tg (.Call (.Name "range" p) [a] [] pos) (bX f):=by
 rintro y s m H W I ⟨G,n,E,x,q,t,b⟩;refine qA (ta:=sY (tE X ad f) IF) hg hm (bI ha cW hs) hs y s m H W I ?_;show tE X ad f m H λv h=>∃j:Int,[v]=[.int j]/\ -(2^62)<=j/\j<2^62/\W (Itr 0 j.toNat) h;refine⟨G,n,E,x,q,t,?_⟩;unfold bX at b;cases e:f n with
 |ok d=>
  rw[e]at b;cases d<;>try exact ba b
  rename_i i;have g:IGK X ad G H (if -100000<=i/\i<=100000 then .ok (.lst (qQ i.toNat))else .bad) W E:=b;by_cases o: -100000<=i/\i<=100000;rw[if_pos o]at g;obtain⟨A,e,z⟩:=g;cases e;intro v w h u r;unfold Rep at r;subst r;refine⟨i,rfl,by lia,by lia,z _ w h u ?_⟩;rw[zS];exact Gi;rw[if_neg o]at g;exact g.elim
 |ow l=>rw[e]at b;exact ba b
 |ex c=>rw[e]at b;exact b
 |bad=>rw[e]at b;exact b
end
def gIs:L1 Nat->TGs
 |[]=>Mu
 |i::is=>Fj (k9 i) (gIs is)
noncomputable def Cs:L1 Nat->L1 V->St->St
 |i::is,v::vs,σ=>Cs is vs (σ.set i (pi v))
 |_,_,σ=>σ
theorem vK: ∀{is} {vs} {σ} {H} {Q:St->Hp->Prop},vs.length=is.length->Q (Cs is vs σ) H->gIs is vs σ H Q
 |[],[],_,_,_,_,h=>⟨rfl,h⟩
 |i::is,v::vs,σ,H,Q,e,h=>⟨v,vs,rfl,vK (is:=is) (vs:=vs) (by simpa using e) h⟩
 |[],_::_,_,_,_,e,_=>by simp at e
 |_::_,[],_,_,_,e,_=>by simp at e
def gTs(K:mj)(k:Nat)(is:L1 Nat):TG:=match k,is with
 |0,[i]=>k9 i
 |k,is=>IE K is.length (gIs is)
def L6(X:Cx)(x:Str)(i:Nat):Prop:=X.N[i]? =pi x/\Loc X.env.scope x/\(X.fn x=qc\/X.env.scope.names.lookup x=pi .local)
inductive NmsOk(X:Cx):List Str->List Nat->Prop
 |nil:NmsOk X [] []
 |cons {x:Str} {i:Nat} {xs:List Str} {is:List Nat}:L6 X x i->NmsOk X xs is->NmsOk X (x::xs) (i::is)
section
variable{X:Cx}{ad:Ad}{Z:(St->Nat->Hp->Prop)->Prop}{σ:St}{H G G₀:Hp}{ρ:Rho}{D':Ends}{E:St->Nat->Hp->Prop}{e tg:Expr}{f:F}{g h:FS}
theorem NmsOk.len: ∀{xs} {is},NmsOk X xs is->is.length=xs.length
 |_,_,.nil=>rfl
 |_,_,.cons _ h=>by simp[NmsOk.len h]
theorem zU(hN:X.N.Nodup): ∀{es} {xs} {is},eG (λe=>match e with|.Name x _=>pi x|_=>qb) es=pi xs->NmsOk X xs is->PGs X es (gIs is)
 |[],xs,is,e,h=>by
  cases e;cases h;exact x9
 |a::es,xs,is,e,h=>by
  unfold eG at e;cases a<;>try (cases e)
  rename_i x g;simp only at e;obtain⟨r,c,d⟩:=zMd e;subst d;cases h with
  |cons b f=>exact uQ (lA hN b.1 b.2.1 b.2.2) (zU hN c f) rfl
theorem jQ: ∀{es} {xs},eG (λe=>match e with|.Name x _=>pi x|_=>qb) es=pi xs->(assignEach es X.env).length=xs.length/\(assignEach es X.env).findIdx? (·.1)=qb
 |[],xs,e=>by cases e;exact⟨rfl,rfl⟩
 |a::es,xs,e=>by
  unfold eG at e;cases a<;>try (cases e)
  rename_i x b;simp only at e;obtain⟨r,c,d⟩:=zMd e;subst d;obtain⟨f,g⟩:=jQ c;have q:assignEach (.Name x b::es) X.env=(qe,assign (.Name x b) X.env)::assignEach es X.env:=rfl;rw[q];refine⟨by simp[f],?_⟩;rw[ik];simp[g]
def Gk(hc:X.calm=qc)(hN:X.N.Nodup)(e:cF tg=pi (xs,k))(h:NmsOk X xs is):PG X tg (gTs X.K k is)/\(k=0/\is.length=1\/k≠0/\k=is.length):=by
 cases tg<;>try (cases e)
 rename_i x f;cases h with
 |cons b l=>
  cases l;exact⟨lA hN b.1 b.2.1 b.2.2,.inl ⟨rfl,rfl⟩⟩
 rename_i o j f;unfold cF at e;obtain⟨m,c,a⟩:=zBd e;by_cases d:2<=m.length;rw[if_pos d]at a;cases a;obtain⟨q1,g⟩:=jQ (X:=X) c;have hk:=h.len;refine⟨?_,.inr ⟨by lia,hk.symm⟩⟩;have P:=D0 (pos:=f) (k:=j) (n:=is.length) hc (zU hN c h) (by rw[q1,hk]) g;have:gTs X.K xs.length is=IE X.K is.length (gIs is):=by
  unfold gTs;rcases is with _|⟨i,is⟩;simp at hk;lia;cases p:xs.length with
  |zero=>lia
  |succ n=>rfl
 rw[this];exact P;rw[if_neg d]at a;cases a
theorem SS.setN: ∀{is} {ds} {vs} {ρ} {σ},SS X ad G₀ G H ρ σ->aK X.K ad G ds vs->SS X ad G₀ G H (SK.setN is ds ρ) (Cs is vs σ)
 |[],ds,vs,ρ,σ,S,r=>by
  have a:SK.setN [] ds ρ=ρ:=by cases ds<;>rfl
  have c:Cs [] vs σ=σ:=by cases vs<;>rfl
  rw[a,c];exact S
 |i::is,[],vs,ρ,σ,S,r=>by
  unfold aK at r;subst r;exact S
 |i::is,d::ds,vs,ρ,σ,S,r=>by
  unfold aK at r;obtain⟨v,e,rfl,f,b⟩:=r;exact SS.setN (is:=is) (ds:=ds) (vs:=e) (ρ:=ρ.set i (.sh d)) (σ:=σ.set i (pi v)) (S.set f) b
def Ev{Q:St->Hp->Prop}(hk:k=0/\is.length=1\/k≠0/\k=is.length)(e:uV is (k==0) d ρ=pi ρ1)(S:SS X ad G₀ G H ρ σ)(r:Rep X.K ad G d v)(q: ∀σ1,SS X ad G₀ G H ρ1 σ1->Q σ1 H):gTs X.K k is v σ H Q:=by
 rcases hk with ⟨rfl,g⟩|⟨g,p⟩;obtain⟨i,rfl⟩:=fq.mp g;cases e;exact q _ (S.set r);have j:(k==0)=qe:=by simpa using g
 rw[j]at e;have l:uV is qe d ρ=match(generalizing:=false) d with|.tup f=>if f.length=is.length then pi (SK.setN is f ρ)else qb|_=>qb:=by
  rcases is with _|⟨_,_⟩;rfl;rfl
 have b:=l.symm.trans e;have n:gTs X.K k is=IE X.K is.length (gIs is):=by
  unfold gTs;cases k with
  |zero=>exact absurd rfl g
  |succ k=>rfl
 rw[n];cases d<;>try (cases b)
 rename_i f;simp only at b;by_cases c:f.length=is.length;rw[if_pos c]at b;cases b;unfold Rep at r;obtain⟨a,m,rfl,o,h⟩:=r;exact⟨a,m,rfl,S.st.gh.seqT o,by rw[h.length,c],vK (by rw[h.length,c]) (q _ (S.setN h))⟩;rw[if_neg c]at b;cases b
def Gm{α:Type}{ds:L1 α}{d}(e:ds[i]? =pi d):ds.drop i=d::ds.drop (i+1):=by obtain⟨h,rfl⟩:=ay.mp e;exact dv h
def vL{J}{G' H'}{ds}{k}{is}(hk:k=0/\is.length=1\/k≠0/\k=is.length)(S:SS X ad G₀ G' H' ρ σ)(hx:XA X ad Z E)(it:ItG X ad J G' ds)(hr:OKo X ad G₀ (jK (uV is (k==0)) g ds ρ) D' E):
  ∃W:Nat->Nat->St->Hp->Prop,(∃m,W 0 m σ H')/\∀i m σ H,W i m σ H->
   (J.stop i H/\D'.nx σ H)\/(J.go i H/\∃N:St->Hp->Prop,(∀σ' H',N σ' H'->∃m',m'<m/\W (i+1) m' σ' H')/\∀x H',J.yld i H x H'->gTs X.K k is x σ H' λσ2 H2=>tS X ad Z g {D' with nx:=N,ct:=N,bk:=D'.nx} σ2 H2):=by
 refine⟨λi m σ H=>m=ds.length-i/\i<=ds.length/\∃G ρ,SS X ad G₀ G H ρ σ/\Same G' G/\OKo X ad G₀ (jK (uV is (k==0)) g (ds.drop i) ρ) D' E,⟨_,rfl,bu _,G',ρ,S,Same.refl _,hr⟩,?_⟩;rintro i m s t ⟨rfl,Y,z,w,n,o,e⟩;rcases q:ds[i]? with _|d;have U:ds.length<=i:=List.getElem?_eq_none_iff.mp q;have:i=ds.length:=by lia
 subst this;refine .inl ⟨it.stop z t o n.st.gh,?_⟩;rw[jp]at e;exact e s z t n;have p:i<ds.length:=(ay.mp q).1;obtain⟨go,T⟩:=it.go i z t d o n.st.gh q;refine .inr ⟨go,λσ' H'=>∃G ρ,SS X ad G₀ G H' ρ σ'/\Same G' G/\OKo X ad G₀ (jK (uV is (k==0)) g (ds.drop (i+1)) ρ) D' E,λσ' H' v=>by obtain⟨L,u,Q,C,O⟩:=v;exact⟨_,by lia,rfl,p,L,u,Q,C,O⟩,λx H2 y=>?_⟩;obtain⟨B,st,M⟩:=T x H2 y;rw[Gm q]at e;unfold jK at e;rcases A:uV is (k==0) d w with _|a;rw[A]at e;exact e.elim;rw[A]at e;have I:=n.step st;refine Ev hk A I M λσ2 j=>?_;refine⟨B,B,a,E,j.here,hx,?_⟩;have b:OKo X ad G₀ (match g a with
  |.nx a=>jK (uV is (k==0)) g (ds.drop (i+1)) a
  |.ct a=>jK (uV is (k==0)) g (ds.drop (i+1)) a
  |.bk a=>.nx a
  |.rt r=>.rt r
  |.ex c a=>.ex c a) D' E:=e
 cases l:g a with
 |nx f=>
  rw[l]at b;exact λσ G H h=>⟨G,f,h.up j.st,(o.trans st.sg).trans h.st.sg,b⟩
 |ct f=>
  rw[l]at b;exact λσ G H h=>⟨G,f,h.up j.st,(o.trans st.sg).trans h.st.sg,b⟩
 |bk f=>
  rw[l]at b;exact λσ G H h=>b σ G H (h.up j.st)
 |ex c f=>
  rw[l]at b;exact λσ G H h=>b σ G H (h.up j.st)
 |rt r=>
  rw[l]at b;have:=b.rebase j.st;cases r<;>exact this
def Kc{st}:MS X ad Z st LY:=λ_ _ _ _ _ _ a=>by obtain⟨_,_,_,_,_,_,b⟩:=a;exact ba b
end
section
variable{X:Cx}{ad:Ad}{s3:Shared}{σ σ2:St}{H3:Hp}{pos pos' cpos:Pos}{elt it tg:Expr}{ifs:L1 Expr}{fi fe:F}{fc:L7 F}{sc:Scope}{k:Nat}{cs:L1 Nat}{xs:L1 Str}
def tV(I3:Inv X cc σ H3 s3)(I2:Inv X cc σ2 H' s2)(hf:H' s3.z=qb)(sb:mz s3.z s2.heap h'):Inv X cc σ2 H' {s2 with heap:=h'}:=by refine I2.turned (t':=s2.toks) (it:=s3.z) (λb o f e=>(sb.2 b f).trans e) hf ?_ (.inr I3.sz) (λx c h z=>?_) λp d z=>?_;intro z;obtain⟨m,g,_⟩:=I3.loc;obtain⟨o,_,_,a,_⟩:=g;exact absurd (ah a) (by rw[<-z];exact lj _);obtain⟨v,o,a,_⟩:=I3.cell x c h;exact absurd (ah a) (by rw[z];exact lj _);obtain⟨a,_⟩:=I3.pin p d;exact absurd (ah a) (by rw[z];exact lj _)
def Ct(n:h.Ns C m)(sb:mz a h h')(ne:C≠a):h'.Ns C m:=by obtain⟨o,c,d,b,r⟩:=n;exact⟨o,c,d,(sb.2 C ne).trans b,r⟩
def Gn{C}{i}{x}(hN:X.N.Nodup)(hi:L6 X x i)(hc:X.calm=qc)(S:CompSc X C sc xs cs)(hit:MI X ad tg it fi)(hset: ∀a b c,it≠ .Set a b c)(hxs:xs.length=if k=0 then 1 else k)
  (hg: ∀fp s3 H3 pins',PG (cX X (xs++bF sc) sc s3 H3 fp pins') tg (gTg X.K k)) (hts: ∀fp s3 H3 pins',MTs (cX X (xs++bF sc) sc s3 H3 fp pins') ad ifs fc) (he: ∀fp s3 H3 pins',ME (cX X (xs++bF sc) sc s3 H3 fp pins') ad elt fe)
  (hs:swapsWith (.ListComp elt [⟨tg,it,ifs,0⟩] sc cpos) (pi (.Name x pos')) pos.line X.env=pure qc):
  PS X (.Assign [.Name x pos'] (.ListComp elt [⟨tg,it,ifs,0⟩] sc cpos) pos) (Fk (tE X ad (bS k cs fi fc fe)) (k9 i)):=by
 rintro t s n H D' I ⟨G,ρ,E,hG,hS,Y,hr⟩;rw[exec_Assign_Name_used _ _ _ _ hs]
 have O:closureFor sc X.env=pure (lQ X.env.cells sc.names []):=jN λx Y=>by
  obtain⟨c,h⟩:=I.ok.has x (S.fre x Y);rw[h];rfl
 refine aa (wpAny_standAt (aa ?_));show wpAny _ X.A (do let _<-comprehension (.ListComp elt [⟨tg,it,ifs,0⟩] sc cpos) sc X.env _ (newList []) qe (eval it X.env) (pi (assign (.Name x pos') X.env))) _ _ s
 refine aa (wpAny_mono (wpAny_comprehension_free (use:=pi (assign (.Name x pos') X.env)) (Q:=λ_ l=>SP X t D' .next l) rfl (Cq hset) O S.kind S.names ?_) (λ_ l hq=>ac (ac hq)) λ_ _ e=>e)
 refine L2.thn (hit t s n H _ I ⟨G,ρ,E,hG,hS,Y,J9 (W:=λJ j=>∃f g all,Step G H f j/\ItH X ad J f j g/\bM (dN k (mP cs ρ) fc fe) g=pi all/\RK X.K ad f j (.ow all) (λv H1=>k9 i v n H1 D'.nx) E) hr λJ f j g all a b c d=>⟨f,g,all,a,b,c,d⟩⟩) λv s1 h1=>
  L2.thn h1 λag s2 q=>?_
 refine gzq λRz ez=>?_;obtain⟨ak,fp,tn,J,j,e,I2,T,st2,f2,f,g,all,sp,hit,r,Z⟩:=q;subst ez;subst e;obtain⟨σc,l1,l2,l3⟩:=nG (xs:=xs) (sc:=sc) (nt:=if k=0 then 1 else k) hxs S.N S.cs (λx h=>rM h) (hS.step sp) I2.len
 refine rL (σc:=σc) hc I2 T st2 f2 hit r sp.gh S.kind S.cell S.fre S.frl l1 l2 rfl l3 (hg fp) (hts fp) (he fp) λs3 l H3 U G' al D vs p f3 M u hD gD L r'=>?_
 obtain⟨m,B,_⟩:=M.loc;have I4:Inv X t n U l:=Et (fpO:=f3) p M ⟨rfl,λ_ _=>rfl⟩
 show wpAny _ X.A (assign (.Name x pos') X.env (.ref D)) _ _ _;refine wpAny_assign_Name (pZ I4 hN hi.1 hi.2.1 (v:=.ref D) rfl (λam I5 ⟨a,sb,w⟩=>?_) hi.2.2)
 have ne:s3.z≠a:=by
  rcases w with rfl|w
  .intro z;refine gzq λRz ez=>?_;obtain⟨m',hn,_⟩:=p.loc;obtain⟨o,_,_,y,_⟩:=hn;subst ez;exact absurd (ah y) (by rw[<-z];exact lj _)
  .intro z;obtain⟨v,o,y,_⟩:=p.cell x a w;exact absurd (ah y) (by rw[<-z];exact lj _)
 refine⟨m,Ct B sb ne,λh' ab=>?_⟩
 exact⟨n.set i (pi (.ref D)),U,tV p I5 M.free ab,Z D vs G' U u hD gD L r'⟩
end
open PySem.Calls Builtin Builtin.ObjectAttr Builtin.Getset_descriptor
section
variable{E:ce}{K:Frag}{R:Result->Shared->Prop}
def oE.ty(I:oE h x C):Looks M h (typeOf (.ref x)) (.ref C):=by obtain⟨o,d,a,b,c⟩:=I;exact b▸(Looks.ld a).andThen .now
def Go(X:K.In s.heap)(I:oE s.heap x C)(hm:mroIn K C (.type "object")=pi qc)(h:R (.ok (.ret (.ref C))) s):
  codeAny (model prog w) A (.call (.builtin "getset_descriptor.__get__") ⟨[.builtin "object.__class__",.ref x,tp],[]⟩) R s:=by
 obtain⟨b,g,dr,t,c⟩:=s;have d:=I.ty (M:=model prog w);have a:=looks_mroIn (M:=model prog w) X hm;refine codeAny_call_builtin KF.slot_gs.plain KF.entry_gs (KF.slot_gs.check _ _ _ _ _ _ _ _ KF.type_class (KF.args_gs _ _ _) ?_);unfold Builtin.«getset_descriptor.__get__» descrGet;rw[dga_obj];refine aa (ac ?_);unfold descrGetter descrCheckInstance descrNameAndClass isInstance;simp only[KF.owner_class];repeat lk
 refine⟨Code.quiet_builtin _ (by decide+kernel),codeAny_builtin KF.entry_class ?_⟩;unfold Builtin.«object.__class__» shownTypeOf;repeat lk
 exact h
def zV(X:K.In s.heap)(I:oE s.heap x C)(hm:mroIn K C (.type "BaseException")=pi qc)(hq:Q () s):wpAny M A (checkBuiltinCall "BaseException.__getattribute__" ⟨[.ref x,nameV],[]⟩) Q E s:=by
 obtain⟨e,g,dr,t,d⟩:=s;have hk:builtinKind "BaseException.__getattribute__"=pi .slot:=by decide+kernel
 have a:splitId "BaseException.__getattribute__"=pi ("BaseException","__getattribute__"):=by decide+kernel
 have b:=I.ty (M:=M);have c:=looks_mroIn (M:=M) X hm;have f:=F.args_bexc_ga (.ref x) nameV;simp only[checkBuiltinCall,hk,a];refine aa ?_;unfold isInstance;refine aa (b.at (c.at ?_));repeat (any_goals (first|assumption|wp_step))
def zW(X:K.In s.heap)(I:oE s.heap x C)(hm:mroIn K C (.type "object")=pi qc)(ha:findIn K (.ref C) "__class__"=pi (pi (.builtin "object.__class__")))(hq:Q (.done (.ret (.ref C))) s):
  wpAny (model prog w) A (Builtin.«object.__getattribute__» ⟨[.ref x,.str "__class__" tk],[]⟩) Q E s:=by
 obtain⟨f,g,d,t,b⟩:=s;have h:(⟨f,g,d,t,b⟩:Shared).TypeIs (.builtin "object.__class__") "getset_descriptor":=F.typeOf_object_class;have m:=F.typeOf_object_class;have j:=F.slot_gs_get.lookup;have l:=F.slot_gs_set.lookup;have i:=I.ty (M:=model prog w);have a:=looks_findIn (M:=model prog w) X ha;obtain⟨o,p,c,e,n⟩:=id I;repeat (any_goals (first|assumption|(with_reducible refine wpAny_loadPart_at c ?_;rw[e])|with_reducible refine a.at ?_|wp_step))
 refine Go X I hm ?_;repeat (any_goals (first|assumption|wp_step))
def zX(X:K.In s.heap)(I:oE s.heap x C)(hm:mroIn K C (.type "object")=pi qc)(hb:mroIn K C (.type "BaseException")=pi qc)(ha:findIn K (.ref C) "__class__"=pi (pi (.builtin "object.__class__")))(hg:findIn K (.ref C) "__getattribute__"=pi (pi (.builtin "BaseException.__getattribute__")))(hn:findIn K (.ref C) "__getattr__"=pi qb)(h:Q (pi (.ref C)) {s with toks:=s.toks+1}):
  wpAny (model prog w) A (getAttr? (.ref x) "__class__") Q E s:=by
 obtain⟨n,g,d,t,j⟩:=s;have m:=I.ty (M:=model prog w);have i:=looks_findIn (M:=model prog w) X hg;have c:=looks_findIn (M:=model prog w) X hn;have l:=PySem.F.excAttr_ValueError.ga.bind (.ref x);have a:(mh "BaseException.__getattribute__"==mh "object.__getattribute__")=qe:=by decide+kernel
 have f:(onTheHeap (pf C)&&mh "BaseException.__getattribute__"==mh "object.__getattribute__")=qe:=by rw[a];rfl
 obtain⟨o,q,b,e,p⟩:=id I;unfold getAttr? getAttrBy? getAttrBy;repeat (any_goals (first|assumption|(with_reducible refine wpAny_loadPart_at b ?_;rw[e])|with_reducible refine i.at ?_|with_reducible refine c.at ?_|wp_step))
 refine codeAny_call_builtin PySem.F.excAttr_ValueError.ga.plain F.entry_bexc_ga (zV X I hb (zW X I hm ha ?_));repeat (any_goals (first|assumption|wp_step))
end
def _root_.L2.ObjOk.there(x:ObjOk P w H h a o): ∃ob,h.get? a=pi ob:=by
 cases o with
 |lst c=>obtain⟨_,_,_,_,e⟩:=x;exact⟨_,e⟩
 |tup c=>refine gzq λRz ez=>?_;obtain⟨_,_,_,⟨ob,e,_⟩,_⟩:=x;subst ez;exact⟨_,e⟩
 |dK b=>refine gzq λRz ez=>?_;obtain⟨_,_,_,_,o,_,_,e,_⟩:=x;subst ez;exact⟨_,e⟩
 |dT b=>refine gzq λRz ez=>?_;obtain⟨_,_,_,_,o,_,_,e,_⟩:=x;subst ez;exact⟨_,e⟩
 |set S n=>obtain⟨o,_,_,_,e,_⟩:=x;exact⟨_,e⟩
 |ins C i fs=>obtain⟨_,_,_,e,_⟩:=x;exact⟨_,e⟩
 |own y=>exact x
 |xd fs=>refine gzq λRz ez=>?_;obtain⟨_,⟨_,_,_,e,_⟩,_⟩:=x;subst ez;exact⟨_,e⟩
 |rng d j=>obtain⟨_,_,_,e⟩:=x;exact⟨_,e⟩
 |frz ob u=>obtain⟨e,_⟩:=x;exact⟨_,e⟩
 |tbl g=>exact⟨_,(show h.get? a=pi _ from x)⟩
 |met f y=>exact⟨_,(show h.get? a=pi _ from x)⟩
 |ext l=>obtain⟨_,e,_⟩:=x;exact e
section
variable{X:Cx}{ad:Ad}{σ:St}{E₀:XK}
structure DefX(X:Cx)(E₀:XK):Prop where
 ex:X.ex=[]
 stk:X.stack=X.env::X.outer
 fr:X.env.frame=pi X.env.locals
 xe: ∀e s',X.wp (leaving X.env e) (λ_ s''=>CXe X.prog X.w X.outer X.H₀ X.s₀ E₀ e s'') (λe' s''=>CXe X.prog X.w X.outer X.H₀ X.s₀ E₀ e' s'') s'->X.xe e s'
def vM(J:Inv X cc σ H s)(e:X.s₀.heap.get? b=pi o):b≠X.env.locals:=λz=>by
 have:=ah e;rw[z]at this;exact absurd (bg this J.ok.above) (lj _)
def zY(J:Inv X cc σ H s)(e:X.s₀.heap.get? b=pi o)(nf:b∉X.fs):b∉frs X.stack:=λz=>by
 rcases av.mp (J.stkSub b z)with q|q;exact vM J e q;exact nf q
def Ew(T:DefX X E₀)(J:Inv X cc σ H' s)(fly:Heap.FlyingW B X.outer ea cls a0 h')(ff:s.heap.FunFrames B X.stack)(stays:B.StaysIn s.heap)(up:s.heap.UpToSlots h')(c8: ∀b o,X.s₀.heap.get? b=pi o->b∉X.fs->∃o',B.get? b=pi o')(c9: ∀b o,H' b=pi o->∃o',B.get? b=pi o')(ne:H' ea=qb)(q:E₀ cls qb H'):
  CXe X.prog X.w X.outer X.H₀ X.s₀ E₀ (.ref ea) {s with heap:=h'}:=by
 have nx: ∀b,b∉X.ex:=λb=>by rw[T.ex];simp
 have st2:B.StaysIn h':=fly.1;have d: ∀b o,s.heap.get? b=pi o->(∃o',B.get? b=pi o')->h'.get? b=pi o:=λb o e ⟨o',m⟩=>by
  have:=stays b o' m;rw[e]at this;cases this;exact st2 b o m
 have a: ∀b∈X.fs, ∀o,s.heap.get? b=pi o->∃i,h'.get? b=pi {o with slots:=i}:=λb p o e=>by
  obtain⟨_,t,h,r⟩:=ff.mem (b:=b) (by rw[T.stk];show b∈frs (X.env::X.outer);unfold frs;rw[gj,T.fr];exact f7 _ p);rw[e]at h;cases h;exact up b o e r
 refine⟨ea,cls,a0,H',B,rfl,J.os,J.bare,fly,⟨λb o e n f _=>?_,λb o e n f _=>?_,λb o e n _=>?_,λb o e _=>?_,J.base.tups,J.base.frzs,J.base.tbls⟩,λb o e=>?_,ne,c8,c9,q⟩;exact d b o (J.base.keep b o e n f (nx b)) (c8 b o e f);obtain⟨i,g⟩:=J.base.slot b o e n f (nx b);obtain⟨j,h⟩:=a b f _ g;exact⟨j,h⟩;exact J.base.free b o e n (nx b);obtain⟨o',g⟩:=J.base.there b o e (nx b);by_cases f:b∈X.fs;obtain⟨i,h⟩:=a b f _ g;exact⟨_,h⟩;exact⟨o',d b o' g (c8 b o e f)⟩;refine(J.hok b o e).stay (λc v l g=>?_) (λ_ z=>z) λ_ _ z=>z;rcases l with rfl|l;exact d c v g (c9 c o e);exact d c v g (c9 c _ l)
def zZ(T:DefX X E₀):XP X ad σ (λc H'=>E₀ (.ref (ad.cls c)) qb H'):=by
 intro v H s e p I m;obtain⟨y,cls,x,H',B,rfl,i,l,a,un,f,u,n,r,c,rfl,q⟩:=m;have J:Inv X v σ H' p:=I.call' (ch:=[]) i un f l λb h=>by simp at h
 refine T.xe _ _ ?_;have g:X.A.frames=pi (X.env::X.outer):=by rw[<-T.stk];exact I.ok.frames
 rw[T.stk]at a;refine wpAny_leaves_onW g T.fr a λz d up=>?_;refine Ew T J d (by rw[T.stk];exact a.2.2.1) a.1 up (λb o e t=>?_) r u q;obtain⟨w,j⟩:=I.base.there b o e (by rw[T.ex];simp);exact n b w j (zY I e t)
def vN(T:DefX X E₀)(hc:X.calm=qc)(hg:L2.Gl X x)(hm:X.mg x=pi (.ref C))(hd:(x==("__debug__":Str))=qe)(hi:excIn X.K C [.type "ValueError",.type "Exception",.type "BaseException",.type "object"] "ValueError.__new__"=qc)(I:Inv X cc σ H s)(q:E₀ (.ref C) qb H):X.wp (exec (.Raise (pi (.Call (.Name x np) [.Constant (.str msg) j kp] [] cpos)) qb pos) X.env) (SP X cc D') X.xe s:=by
 have y: ∀c:Heap,X.K.In c->∃bm N nm q bs hdct sn sub ab col dd k0 k1 k2 k3 k5 mN,c.get? C=pi (excClassObj nm q C N bs bm hdct sn sub ab col dd k0 k1 k2 k3 k5 "ValueError.__new__")/\c.Ns N mN/\mN "__init__"=qb/\OwnTail c [.type "ValueError",.type "Exception",.type "BaseException",.type "object"] bm:=by
  intro c Z;have q:=hi;unfold excIn at q;split at q
  .rename_i dd W G ho;split at q
   .rename_i C' bm k0 k1 k2 k3 n k5 hm U;simp only[aw,beq_iff_eq,jg]at q;obtain⟨⟨⟨⟨⟨rfl,rfl⟩,g⟩,ht⟩,hok⟩,d⟩:=q;obtain⟨nm,bs,ad,ns,B,hd,sn,sub,ab,col,ag⟩:=W
    dsimp only at hm g hok d
    subst hm g
    have u:G= #[k0,k1,k2,k3,pi (.builtin "ValueError.__new__"),k5]:=by
     obtain⟨l⟩:=G
     simp only at U
     rw[U]
    subst u;exact⟨bm,ns,nm,B,bs,hd,sn,sub,ab,col,dd,k0,k1,k2,k3,k5,_,Z _ _ ho,.of_isNs (isNs_of_in Z hok),nsMap_none_of_in Z hok d,tail_of_in Z ht⟩
   .cases q
  .cases q
 obtain⟨bm,N,nm,B,bs,hdct,sn,sub,ab,col,dd,k0,k1,k2,k3,k5,mN,Y,hN,d,L⟩:=y X.base I.ok.mod.kin
 refine wpAny_Raise_call_subT (C:=C) (nm:=nm) (q:=B) (N:=N) (bs:=bs) (bm:=bm) (hdct:=hdct) (sn:=sn) (sub:=sub) (ab:=ab) (col:=col) (dd:=dd) (k0:=k0) (k1:=k1) (k2:=k2) (k3:=k3) (k5:=k5)
  PySem.F.excBase_ValueError (mN:=mN) (L.hasType PySem.F.excBase_ValueError.hasBase) (I.ok.hd hc) rfl d (fT I hg hm ⟨rfl,?_⟩ hd)
 refine gf (ii (Calls.Constant_str (k:=j) (pos:=kp) (i4 ⟨rfl,(show 1<=sizeLine from by decide),?_,?_,?_,λQ e M=>?_⟩)))
 .exact I.bk _ _ Y
 .exact hN.keeps I.bk
 .exact L.keeps I.bk
 .
  have I1:Inv X cc σ H {s with toks:=s.toks+1}:=I.tok _
  have J:Inv X cc σ H {s with heap:=Q,toks:=s.toks+1}:=I.kept (t':=s.toks+1) M.keeps
  refine T.xe _ _ ?_
  have E:X.A.frames=pi (X.env::X.outer):=by rw[<-T.stk];exact I.ok.frames
  have S:s.heap.FunFrames (hideAll s.heap (frs X.stack)) X.stack:=funFrames_hide I.stack λenv he a ea=>ig.mpr ⟨env,he,ea⟩
  have O:Q.FunFrames (hideAll s.heap (frs X.stack)) X.stack:=S.of_keeps λb o hb _=>⟨o,M.keeps b o hb,rfl⟩
  have v:(hideAll s.heap (frs X.stack)).StaysIn s.heap:=λb o e=>of_hideAll _ e
  have m:=S;rw[T.stk]at m;have f:(hideAll s.heap (frs (X.env::X.outer))).StaysIn s.heap:=λb o e=>of_hideAll _ e
  refine wpAny_leaves_madeW (h:=s.heap) (base:=hideAll s.heap (frs (X.env::X.outer))) E T.fr f m M λh2 t r _ _ up=>?_
  refine Ew T J r (by rw[T.stk]at O ⊢;exact O) (λb o e=>M.keeps b o (of_hideAll _ e)) up (λb o e hf=>?_) (λb o e=>?_) ?_ q
  .obtain⟨p,i⟩:=I.base.there b o e (by rw[T.ex];simp)
   exact⟨p,hideAll_get _ i (by have:=zY I e hf;rwa [T.stk]at this)⟩
  .obtain⟨p,i⟩:=(I.hok b o e).there
   exact⟨p,hideAll_get _ i λz=>by
    have:=I.stkFree b (by rw[T.stk];exact z)
    rw[this]at e
    cases e⟩
  .cases z:H e with
   |none=>rfl
   |some o=>
    obtain⟨p,i⟩:=(I.hok e o z).there;rw[M.new]at i;cases i
end
section
variable{ad:Ad}{σ:St}{B:Heap}
def Cu{E:ce}(I:Inv X cc σ H s)(hN:X.N.Nodup)(hi:X.N[i]? =pi x)(hk:X.env.scope.names.lookup x=pi .local)(hv:σ[i]? =pi (pi v))(h: ∀s',Inv X cc (σ.set i qb) H s'->Q () s'):wpAny M A (unbindName X.env x) Q E s:=by
 obtain⟨m,L,J⟩:=id I.loc;have g:(X.env.scope.kind== .class||(X.env.scope.kind== .module&&X.env.locals != X.env.globals))=qe:=by rw[I.ok.kind];rfl
 have cne:=I.cne;obtain⟨S,_,W⟩:=J i x v hi hv (.inl hk);have T:m x=pi S:=by
  rcases W with ⟨_,e⟩|⟨k,_⟩;exact e;rcases k with k|k;have:X.env.kindOf x=pi .local:=hk;rw[this]at k;cases k;have:X.env.kindOf x=pi .local:=hk;rw[this]at k;cases k
 refine wpAny_unbindName_local hk L T g λZ u C a=>?_;obtain⟨oL,_,_,ab,_⟩:=id L;refine h {s with heap:=Z} ⟨I.ok,I.os,I.bare,⟨λb o e n B l=>?_,λb o e n B l=>?_,I.base.free,λb o e l=>?_,I.base.tups,I.base.frzs,I.base.tbls⟩,⟨_,C,λj y Y f r e3=>?_⟩,λy c e=>?_,I.free,I.freeC,λp hp=>?_,λb ob e=>?_,by simpa using I.len⟩;exact(a.2 b (vM I e)).trans (I.base.keep b o e n B l);obtain⟨U,f⟩:=I.base.slot b o e n B l;exact⟨U,(a.2 b (vM I e)).trans f⟩;obtain⟨o',f⟩:=I.base.there b o e l;exact⟨o',(a.2 b (vM I e)).trans f⟩;by_cases w:j=i;subst w;have G:j<σ.length:=(ay.mp hv).1;rw[bj G]at r;cases r;rw[bc (qa w)]at r;obtain⟨u',r',q⟩:=J j y Y f r e3;refine⟨u',r',?_⟩;rcases q with ⟨k,e⟩|⟨k,c,e,z⟩;refine .inl ⟨k,?_⟩;have:y≠x:=λe=>w (nX hN f (e▸hi));simp[this,e];exact .inr ⟨k,c,e,z.sameBut a (cne y c e)⟩;obtain⟨O,z⟩:=I.cell y c e;exact⟨O,z.sameBut a (cne y c e)⟩;obtain⟨e,n,K,nf,d⟩:=I.pin p hp;exact⟨(a.2 p.1 K).trans e,n,K,nf,d⟩;refine(I.hok b ob e).stay (λc O t q=>(a.2 c ?_).trans q) (λ_ q=>q) λ_ _ q=>q;rintro rfl;rcases t with rfl|t;rw[I.free]at e;cases e;rw[I.free]at t;cases t
def Na(un:Un fs [] H H' h h1)(stays:B.StaysIn h1)(st2:B.StaysIn h2)(up:h1.UpToSlots h2)(nf: ∀b∈fs, ∀o,h1.get? b=pi o->∀vs,o.data≠ .fields vs)(c8: ∀b o,h.get? b=pi o->b∉fs->∃o',B.get? b=pi o'):Un fs [] H H' h h2:=by
 have f: ∀b o,h1.get? b=pi o->(∃o',B.get? b=pi o')->h2.get? b=pi o:=λb o e ⟨o',j⟩=>by
  have:=stays b o' j;rw[e]at this;cases this;exact st2 b o j
 refine⟨λb o e n a d=>f b o (un.keep b o e n a d) (c8 b o e a),λb o e n a d=>?_,un.free,λb o e d=>?_,un.tups,un.frzs,un.tbls⟩;obtain⟨l,c⟩:=un.slot b o e n a d;obtain⟨i,g⟩:=up b _ c (nf b a _ c);exact⟨i,g⟩;obtain⟨o',c⟩:=un.there b o e d;by_cases a:b∈fs;obtain⟨l,g⟩:=up b _ c (nf b a _ c);exact⟨_,g⟩;exact⟨o',f b o' c (c8 b o e a)⟩
def Kd(hok:HOk P w H' h1)(stays:B.StaysIn h1)(st2:B.StaysIn h2)(c9: ∀b o,H' b=pi o->∃o',B.get? b=pi o'):HOk P w H' h2:=by
 have a: ∀b o,h1.get? b=pi o->(∃o',B.get? b=pi o')->h2.get? b=pi o:=λb o e ⟨o',g⟩=>by
  have:=stays b o' g;rw[e]at this;cases this;exact st2 b o g
 intro b o e;refine(hok b o e).stay (λc v d f=>?_) (λ_ z=>z) λ_ _ z=>z;rcases d with rfl|d;exact a c v f (c9 c o e);exact a c v f (c9 c _ d)
def _root_.L2.Inv.track(J:Inv X cc σ H s)(hn:H a=qb)(n0:X.s₀.heap.get? a=qb)(hL:a≠X.env.locals)(hC: ∀x c,X.env.cells.lookup x=pi c->c≠a)(hp: ∀p∈X.pn++cc,p.1≠a)(new:ObjOk X.prog X.w (upd H a o) s.heap a o):Inv X cc σ (upd H a o) s:=by
 refine⟨J.ok,J.os,J.bare,⟨J.base.keep,J.base.slot,λb g e n l=>?_,J.base.there,λb j e=>?_,λb g u e=>?_,λb r e=>?_⟩,J.loc,J.cell,?_,λx c e=>?_,λp i=>?_,λb u e=>?_,J.len⟩;have:b≠a:=λz=>by rw[z,n0]at e;cases e
 rw[aA this];exact J.base.free b g e n l;have f:=J.base.tups b j e;rw[aA (aJ f hn)];exact f;have f:=J.base.frzs b g u e;rw[aA (aJ f hn)];exact f;obtain⟨m,f⟩:=J.base.tbls b r e;exact⟨m,by rw[aA (aJ f hn)];exact f⟩;rw[aA (qa hL)];exact J.free;rw[aA (hC x c e)];exact J.freeC x c e;obtain⟨e,n,v,t,d⟩:=J.pin p i;exact⟨e,by rw[aA (hp p i)];exact n,v,t,d⟩;by_cases h:b=a;subst h;rw[aD]at e;cases e;exact new;rw[aA h]at e;exact(J.hok b u e).stay (λ_ _ _ q=>q) (λc q=>by rw[aA (aJ q hn)];exact q) λc j q=>by rw[aA (aJ q hn)];exact q
def _root_.SK.SS.setNo(S:SS X ad G₀ G H ρ σ):SS X ad G₀ G H (ρ.set i .no) (σ.set i ov):=by
 have b: ∀(j:Nat) (sl:Slot),(ρ.set i .no)[j]? =pi sl->(j=i/\sl= .no/\i<ρ.length)\/(j≠i/\ρ[j]? =pi sl):=λj sl e=>by
  by_cases z:j=i;subst z;have c:j<ρ.length:=by have:=(ay.mp e).1;rwa [ke]at this
  rw[bj c]at e;cases e;exact .inl ⟨rfl,rfl,c⟩;rw[bc (qa z)]at e;exact .inr ⟨z,e⟩
 refine⟨S.st,⟨by rw[ke,ke];exact S.sl.len,λj sl e=>?_⟩,λj l a e w h=>?_,λj o l q a e d w m h n=>?_,S.rs.set rfl λ_ z=>nomatch z⟩;rcases b j sl e with ⟨rfl,rfl,c⟩|⟨z,e⟩;exact⟨ov,bj (by rw[<-S.sl.len];exact c),trivial⟩;obtain⟨g,r,p⟩:=S.sl.at_ j sl e;exact⟨g,by rw[bc (qa z)];exact r,p⟩;rcases b j _ e with ⟨_,z,_⟩|⟨z,e⟩;subst z;exact(bf w).elim;rw[bc (qa z)]at h;exact S.ow j l a e w h;rcases b j _ e with ⟨_,z,_⟩|⟨z,e⟩;subst z;exact(bf w).elim;rcases b o _ d with ⟨_,f,_⟩|⟨f,d⟩;subst f;exact(bf m).elim;rw[bc (qa z)]at h;rw[bc (qa f)]at n;exact S.dj j o l q a e d w m h n
end
noncomputable def tX(X:Cx)(cc:cf)(D':Ends)(hd:ExceptHandler):Cx:=
 {X with pn:=X.pn++cc,xe:=λe s₁=>X.wp (noteFrame e X.env) (λ_ s₂=>X.wp (setFlight e qb) (λ_ s₃=>X.wp (handleBy e X.env [hd]) (SP X cc D') X.xe s₃) X.xe s₂) X.xe s₁}
section
variable{X:Cx}{ad:Ad}{σ:St}{H:Hp}
def Nb(I:Inv X cc σ H s):Inv (tX X cc D' hd) [] σ H s:=
 ⟨⟨I.ok.mod,I.ok.kind,I.ok.glob,I.ok.blt,I.ok.above,I.ok.inj,I.ok.has,I.ok.cab,I.ok.hd,I.ok.frames,I.ok.stk,I.ok.exf,I.ok.bs,I.ok.bsz,I.ok.noex,I.ok.exfs,I.ok.funs,I.ok.frf⟩,I.os,I.bare,I.base,I.loc,I.cell,I.free,I.freeC,
  λp a=>I.pin p (by have:p∈(X.pn++cc)++[]:=a;rwa [j3]at this),I.hok,I.len⟩
def Ke(I:Inv (tX X cc D' hd) pins' σ H s):Inv X cc σ H s:=
 ⟨⟨I.ok.mod,I.ok.kind,I.ok.glob,I.ok.blt,I.ok.above,I.ok.inj,I.ok.has,I.ok.cab,I.ok.hd,I.ok.frames,I.ok.stk,I.ok.exf,I.ok.bs,I.ok.bsz,I.ok.noex,I.ok.exfs,I.ok.funs,I.ok.frf⟩,I.os,I.bare,I.base,I.loc,I.cell,I.free,I.freeC,
  λp a=>I.pin p (gc _ a),I.hok,I.len⟩
structure Fram(X:Cx):Prop where
 ex:X.ex=[]
 stk:X.stack=X.env::X.outer
 fr:X.env.frame=pi X.env.locals
def Cv{E₀}{x}{c}{np cpos pos kp}{msg}{j}(T:DefX X E₀)(hc:X.calm=qc)(hg:L2.Gl X x)(hm:X.mg x=pi (.ref (ad.cls c)))(hd:(x==("__debug__":Str))=qe)(hi:excIn X.K (ad.cls c) [.type "ValueError",.type "Exception",.type "BaseException",.type "object"] "ValueError.__new__"=qc):
  MS X ad (λE=>∀σ c H,E σ c H->E₀ (.ref (ad.cls c)) qb H) (.Raise (pi (.Call (.Name x np) [.Constant (.str msg) j kp] [] cpos)) qb pos) (mZ c):=by
 rintro f s σ H e I ⟨b,G,g,E,S,a,d⟩;exact vN T hc hg hm hd hi I (a.2 σ c H (d σ G H S))
end
structure ExcCls(K:Frag)(C:Addr):Prop where
 is:(clsIn K C).isSome=qc
 ob:mroIn K C (.type "object")=pi qc
 be:mroIn K C (.type "BaseException")=pi qc
 ca:findIn K (.ref C) "__class__"=pi (pi (.builtin "object.__class__"))
 ga:findIn K (.ref C) "__getattribute__"=pi (pi (.builtin "BaseException.__getattribute__"))
 gn:findIn K (.ref C) "__getattr__"=pi qb
def Cw{K}(T:ExcCls K C):KitX K (.ref x) (.ref C) (λh=>oE h x C) where
 ty:=λ_ _ _ I=>I.ty;it:=λ_ _ Z _=>by
  obtain⟨c,a⟩:=dz.mp T.is;unfold clsIn at a;split at a;rename_i l m b g f;intro p o t s k q;unfold isType loadHead;exact aa (wpAny_loadPart (k _ _ (Z _ _ f)) (ac q));cases a
 ne:=λh i dd j n r Z d=>by
  obtain⟨c,a⟩:=dz.mp T.is;refine Bool.eq_false_iff.mpr λq=>?_;have e:C=i:=pf.inj (beq_iff_eq.mp q);subst e;unfold clsIn at a;split at a;rename_i l m b g f;have z:=(Z _ _ f).symm.trans d;cases z;cases a
 ca:=λZ I k=>zX Z I T.ob T.be T.ca T.ga T.gn k
noncomputable def tyD(ad:Ad):D->L7 Value
 |.non=>pi (.type "NoneType")
 |.bl _=>pi (.type "bool")
 |.int _=>pi (.type "int")
 |.str _=>pi (.type "str")
 |.tup _=>pi (.type "tuple")
 |.lst _=>pi (.type "list")
 |.exc c=>pi (.ref (ad.cls c))
 |.fn _=>qb
 |.dct _ _=>qb
def Nc(X:Cx)(ad:Ad)(cv:Value)(p:D->L7 Bool):Prop:= ∀d b,p d=pi b->∃t,tyD ad d=pi t/\kitOne X.K t cv=pi b
section
variable{X:Cx}{ad:Ad}{σ:St}
def z9{Q:ce}{Ex:ce}(hx: ∀c,ExcCls X.K (ad.cls c))(I:Inv X cc σ H s)(hG:Same G H)(q:Rep X.K ad G d v)(r:bJ v u)(ht:tyD ad d=pi t)(e:kitOne X.K t cv=pi b)(h: ∀tk,Q (.bool b) {s with toks:=tk}):wpAny (model X.prog X.w) A (call (.builtin "isinstance") [u,cv]) Q Ex s:=by
 cases d with
 |non=>unfold Rep at q;subst q;cases (show u=oq from r);cases ht;exact kia_one kitx_none I.kIn oy e (by intro z;cases z) h
 |bl k=>unfold Rep at q;subst q;cases (show u=ou k from r);cases ht;exact kia_one kitx_bool I.kIn oy e (by intro z;cases z) h
 |int k=>unfold Rep at q;subst q;obtain⟨l,rfl⟩:=r;cases ht;exact kia_one kitx_int I.kIn oy e (by intro z;cases z) h
 |str k=>unfold Rep at q;subst q;obtain⟨l,rfl⟩:=r;cases ht;exact kia_one kitx_str I.kIn oy e (by intro z;cases z) h
 |tup j=>
  unfold Rep at q;obtain⟨p,m,rfl,a,_⟩:=q;cases (show u=pf p from r);cases ht;refine gzq λRz ez=>?_;obtain⟨f,_,⟨o,i,g,_⟩,_⟩:=I.tuple (hG.seqT a);subst ez;exact kia_one kitx_tuple I.kIn ⟨o,i,g⟩ e (by intro z;cases z) h
 |lst j=>
  unfold Rep at q;obtain⟨p,m,rfl,a,_⟩:=q;cases (show u=pf p from r);cases ht;refine gzq λRz ez=>?_;obtain⟨f,_,⟨o,n,i,g,_⟩,_⟩:=I.list (hG.seq a);subst ez;exact kia_one kitx_list I.kIn ⟨o,i,g⟩ e (by intro z;cases z) h
 |exc c=>
  unfold Rep at q;obtain⟨p,rfl,a⟩:=q;cases (show u=pf p from r);cases ht;obtain⟨ex,_,_⟩:=(show ObjOk X.prog X.w H s.heap p (Eb (ad.cls c) p) from I.hok p _ (hG _ _ a));exact kia_one (Cw (hx c)) I.kIn ex e (by intro z;cases z) h
 |fn k=>cases ht
 |dct _ _=>cases ht
inductive ClNm(X:Cx)(t:Str)(cv:Value):Prop
 |blt (T:String):cv= .type T->L2.Gl X t->X.mg t=qb->bootBuiltins t=pi (.type T)->t≠"__name__"->(t==("__debug__":Str))=qe->ClNm X t cv
 |own (C:Addr):cv= .ref C->L2.Gl X t->X.mg t=pi (.ref C)->(t==("__debug__":Str))=qe->ClNm X t cv
def ClNm.ev{Ex:ce}{Q:ce}(c:ClNm X t cv)(I:Inv X cc σ H s)(h:Q cv s):X.wp (eval (.Name t tp) X.env) Q Ex s:=by
 cases c with
 |blt T e g m b n d=>subst e;exact f9 I g m b h n d
 |own C e g m d=>subst e;exact fT I g m h d
def tW(hx: ∀c,ExcCls X.K (ad.cls c))(hg:L2.Gl X "isinstance")(hm:X.mg "isinstance"=qb)(c:ClNm X t cv)(k:Nc X ad cv P)(ha:ML X ad a f)(he:starEach [a,.Name t tp] X.env=(qe,eval a X.env)::starEach [.Name t tp] X.env):ME X ad (.Call (.Name "isinstance" p) [a,.Name t tp] [] pos) (rIs P f):=by refine λB s w H Q I M=>M.el λG N E T J j S=>?_;refine wpAny_Call_Name_kw (f9 (u:=.builtin "isinstance") I hg hm (by decide+kernel) ?_ (by decide) (by decide));refine dk ?_ he rfl;rw[he];refine ii (L2.thn (ha.lk B s w H G N _ Q E I T J j S) λu L m=>?_);obtain⟨v,d,A,C,i,y,l,q,O⟩:=m;refine ii (c.ev i (i4 ?_));have g:RK X.K ad A C (match P d with|some b=>.ok (.bl b)|none=>.bad) Q E:=O;rcases e:P d with _|b;rw[e]at g;exact g.elim;rw[e]at g;obtain⟨ty,x,r⟩:=k d b e;have h: ∀n,EP X B w Q (.bool b) {L with toks:=n}:=λn=>⟨.bl b,C,i.tok n,rfl,g.ok_now l.gh cS⟩;rcases q with q|⟨a',vs,ds,rfl,rfl,g1,h1,rp⟩;exact z9 hx i l.gh q y x r h;refine z9 (G:=upd A a' (.lst vs)) hx i (λb o e=>?_) ?_ y x r h;by_cases z:b=a';subst z;rw[aD]at e;rw[h1];exact e;rw[aA z]at e;exact l.gh b o e;unfold Rep;exact⟨a',vs,rfl,SqL.of aD,rp.mono (Same.upd_new g1)⟩
end
structure RkC(K:Frag)(A:Addr):Prop where
 cl:Cls K A
 n1:iB K A "held"
 n2:iB K A "done"
 n3:iB K A "undone"
structure StepR(foot:List Addr)(G H G' H':Hp):Prop where
 sg:Same G G'
 gh:Same G' H'
 sh: ∀b o,b∉foot->H b=pi o->H' b=pi o
 nw: ∀b,G b=qb->G' b≠qb->H b=qb
 th: ∀b,H b≠qb->H' b≠qb
def RMK(K:Frag)(ad:Ad)(A:Nat)(G H:Hp)(p dx d l1 l2:Addr)(m:RM)(Q:VK)(E:Nat->Hp->Prop):Prop:=match m with
 |.pure x=>RK K ad G H x Q E
 |.chg x r'=>∀v G' H' l2',StepR [p,dx,d,l1,l2] G H G' H'->RackIn K ad A G' H' p r' dx d l1 l2'->(l2'=l2\/H l2'=qb)->Rep K ad G' x v->Q v H'
def spM(K:Frag)(ad:Ad)(A n:Nat)(m:FM):Sp:=λvs H Q E=>∃G p r dx d l1 l2 ds ws,vs=V.ref p::ws/\Same G H/\RackIn K ad A G H p r dx d l1 l2/\aK K ad G ds ws/\ds.length=n/\RMK K ad A G H p dx d l1 l2 (m r ds) Q (λc H'=>E (.ref (ad.cls c)) qb H')
structure MetOk(X:Cx)(ad:Ad)(A:Addr)(m:Str)(n:Nat)(M:FM):Prop where
 no:m≠"held"/\m≠"done"/\m≠"undone"
 ok: ∃f k fd ps,Meth X.K A m f/\FnOk X.prog X.w X.K X.mg X.base (CXe X.prog X.w) k f fd ps (spM X.K ad A n M)/\Room k X.A/\dO X.K fd ps []
section
variable{ad:Ad}{G:Hp}{p:Pos}{o:Expr}
def Kf(P:Program)(w:World)(K:mj)(ad:Ad)(A:Addr)(kvs:L1 (Str×D)):Prop:=
 (A==sysModules)=qe/\∃vs:L1 (Str×Value),(∃o es ep,K.lookup A=pi o/\o.ExactDict/\o.data= .dict es ep/\KeysOf (PySem.strKind P w) es/\Pairs (PySem.strKind P w) es.toList vs/\(vs.map (·.1)).Nodup)/\
  Paired (λ(p:Str×D) (q:Str×Value)=>p.1=q.1/\∃v,bJ v q.2/\∀G,Rep K ad G p.2 v) kvs vs
end
noncomputable def dS:Py->Str
 |.len=>"len"|.range=>"range"|.enum=>"enumerate"|.zip=>"zip"|.isin=>"isinstance"|.int=>"int"|.bool=>"bool"|.str=>"str"|.tuple=>"tuple"|.list=>"list"
 |.sum=>"sum"|.all=>"all"|.any=>"any"|.sorted=>"sorted"|.min=>"min"|.max=>"max"|.abs=>"abs"|.set=>"set"|.dict=>"dict"
def Nd(X:Cx)(ad:Ad)(x:Str):SK.Gl->Prop
 |.fn k n F=>∃r f,FnGood X ad r x n F f/\Room r X.A/\f=ad.fnA k
 |.exc c=>X.mg x=pi (.ref (ad.cls c))/\c<ad.nb
 |.verr=>x="ValueError"/\X.mg x=qb
 |.val d=>∃u v,X.mg x=pi u/\bJ v u/\∀G,Rep X.K ad G d v
 |.py p=>x=dS p/\X.mg x=qb
 |.tbl kvs=>∃A,X.mg x=pi (.ref A)/\Kf X.prog X.w X.K ad A kvs
 |.cls A ms=>X.mg x=pi (.ref A)/\RkC X.K A/\∀m n M,ms.lookup m=pi (n,M)->MetOk X ad A m n M
structure CtxOk(X:Cx)(ad:Ad)(C:SK.Ctx):Prop where
 N:X.N=C.N
 nd:X.N.Nodup
 vis: ∀x i,loc C x=pi i->X.N[i]? =pi x/\Vis X.env.scope x/\(x==("__debug__":Str))=qe/\(x==("__classdict__":Str))=qe
 gk: ∀x,C.sc.names.lookup x=pi .globalImplicit->L2.Gl X x
 gt: ∀x g,C.tab.lookup x=pi g->(x==("__debug__":Str))=qe/\Nd X ad x g
 cap: ∀x i,fK C x=pi i->X.env.kindOf x=pi .cell\/X.env.kindOf x=pi .free
 calm:X.calm=qc
 un:X.A.units+62<cLine
 hd:X.A.handled=qb
 exc: ∀c,ExcCls X.K (ad.cls c)
 kin: ∀c e,c<ad.nb->kitOne X.K (.ref (ad.cls e)) (.ref (ad.cls c))=pi (hit c e)
 kve: ∀e,kitOne X.K (.ref (ad.cls e)) (.type "ValueError")=pi qc
 fnv: ∀j n F,C.fns[j]? =pi (n,F)->∃r,FnAt X ad r n F (ad.fnA j)/\Room r X.A
section
variable{ad:Ad}
def Gp(h:glo C x=pi g):C.sc.names.lookup x=pi .globalImplicit/\C.tab.lookup x=pi g:=by unfold glo at h;split at h;rename_i e;exact⟨e,h⟩;cases h
def CtxOk.gl(O:CtxOk X ad C)(h:glo C x=pi g):L2.Gl X x/\(x==("__debug__":Str))=qe/\Nd X ad x g:=
 let ⟨a,b⟩:=Gp h;⟨O.gk x a,(O.gt x g b).1,(O.gt x g b).2⟩
def Ey(O:CtxOk X ad C)(h:glo C t=pi g)(e:isP g=pi P): ∃cv,ClNm X t cv/\Nc X ad cv P:=by
 obtain⟨i,j,hk⟩:=O.gl h;cases g with
 |fn _ _ _=>cases e
 |cls _ _=>cases e
 |val _=>cases e
 |tbl _=>cases e
 |exc c=>
  cases e;obtain⟨f,m⟩:=hk;refine⟨.ref (ad.cls c),.own _ rfl i f j,λd b a=>?_⟩;cases d<;>try (cases a;done)
  rename_i k;cases a;exact⟨_,rfl,O.kin c k m⟩
 |verr=>
  cases e;obtain⟨l,f⟩:=hk;subst l;refine⟨.type "ValueError",.blt "ValueError" rfl i f (by decide+kernel) (by decide) j,λd b a=>?_⟩;cases d<;>try (cases a;done)
  rename_i k;cases a;refine⟨_,rfl,?_⟩;rw[O.kve k];congr 1;unfold hit;simp
 |py p=>
  obtain⟨l,f⟩:=hk;cases p<;>try (cases e;done)
  all_goals
   cases e;subst l
  refine⟨.type "int",.blt "int" rfl i f (by decide+kernel) (by decide) j,λd b a=>?_⟩;cases d<;>first|(cases a;done)|(cases a;exact⟨_,rfl,by rfl⟩)
  refine⟨.type "bool",.blt "bool" rfl i f (by decide+kernel) (by decide) j,λd b a=>?_⟩;cases d<;>first|(cases a;done)|(cases a;exact⟨_,rfl,by rfl⟩)
  refine⟨.type "str",.blt "str" rfl i f (by decide+kernel) (by decide) j,λd b a=>?_⟩;cases d<;>first|(cases a;done)|(cases a;exact⟨_,rfl,by rfl⟩)
  refine⟨.type "tuple",.blt "tuple" rfl i f (by decide+kernel) (by decide) j,λd b a=>?_⟩;cases d<;>first|(cases a;done)|(cases a;exact⟨_,rfl,by rfl⟩)
  refine⟨.type "list",.blt "list" rfl i f (by decide+kernel) (by decide) j,λd b a=>?_⟩;cases d<;>first|(cases a;done)|(cases a;exact⟨_,rfl,by rfl⟩)
def bU{l:L1 (Str×NameKind)}(h:(l.lookup x==pi k)=qc):l.lookup x=pi k:=by simpa using h
def jR(h:lK sc xs=qc):sc.kind= .function/\(qV sc=[]\/(qV sc=xs/\xs.length=1))/\(∀x∈xs,sc.names.lookup x=pi (if(qV sc).isEmpty then .local else .cell))/\(∀y∈sc.names,y.2= .local->sc.names.lookup y.1=pi .local)/\
  (xs++bF sc).Nodup/\(∀x∈xs++bF sc,(x==("__debug__":Str))=qe/\(x==("__classdict__":Str))=qe)/\∀x∈bF sc,sc.names.lookup x=pi .free:=by
 unfold lK at h;simp only[aw]at h;refine gzq λRz ez=>?_;obtain⟨⟨⟨⟨⟨⟨i,f⟩,c⟩,g⟩,e⟩,d⟩,j⟩:=h;subst ez;refine⟨by simpa using i,by simpa using f,λx a=>?_,λy b z=>?_,of_decide_eq_true e,λx a=>?_,λx a=>?_⟩;exact bU (zAd c x a);have:=zAd g y b;rw[z]at this;simpa using this;have:=zAd d x a;simpa using this;exact bU (zAd j x a)
def lU(h:idx x N=pi i):x∈N:=List.mem_of_getElem? (fY h)
def lV(h:loc C x=pi i):idx x C.N=pi i/\(C.sc.names.lookup x=pi .local\/C.sc.names.lookup x=pi .cell\/C.sc.names.lookup x=pi .free):=by unfold loc at h;split at h;rename_i e;exact⟨h,.inl e⟩;rename_i e;exact⟨h,.inr (.inl e)⟩;rename_i e;exact⟨h,.inr (.inr e)⟩;cases h
def eP(h:fK C x=pi i):idx x C.N=pi i/\(C.sc.names.lookup x=pi .cell\/C.sc.names.lookup x=pi .free):=by unfold fK at h;split at h;rename_i e;exact⟨h,.inl e⟩;rename_i e;exact⟨h,.inr e⟩;cases h
theorem oM{α β}{f:α->L7 β}: ∀{l} {r},eG f l=pi r->∀a∈l, ∃b,f a=pi b
 |[],_,_,a,ha=>by cases ha
 |x::l,r,h,a,ha=>by
  unfold eG at h;rcases e:f x with _|y;rw[e]at h;cases h;rw[e]at h;obtain⟨d,c,_⟩:=zMd h;rcases av.mp ha with rfl|ha;exact⟨y,e⟩;exact oM c a ha
def eQ{l:L1 (Str×NameKind)}(h:l.lookup x=pi k):(x,k)∈l:=gy h
def oN(h:(x,l0)∈sc.names):x∈bF sc:=by unfold bF;exact au.mpr ⟨(x,.free),jy.mpr ⟨h,by simp⟩,rfl⟩
def Aa(O:CtxOk X ad C)(h:lK sc xs=qc)(hc:eG (λx=>fK C x) (bF sc)=pi cs):CompSc X C sc xs cs:=by
 obtain⟨g,c,b,f,n,m,j⟩:=jR h;have d:Cel sc:=by
  rcases c with z|⟨z,l⟩;exact .inl z;obtain⟨x,rfl⟩:=fq.mp l;have:=b x (.head _);rw[z]at this;exact .inr ⟨x,z,this⟩
 refine⟨g,d,f,λx a=>?_,λx a=>j x (oN a),O.N,hc⟩;obtain⟨i,e⟩:=oM hc x (oN a);exact O.cap x i e
def Gq{tg}(hN:X.N.Nodup)(e:cF tg=pi (xs,k))(hx:xs=[x])(h1:X.N[0]? =pi x)(h2:X.env.scope.names.lookup x=pi .cell)(h3:X.fn x=qc):PG X tg (gTg X.K k):=by
 subst hx;cases tg<;>try (cases e)
 exact lA hN h1 (.inr h2) (.inl h3);rename_i f j g;unfold cF at e;obtain⟨c,d,a⟩:=zBd e;by_cases b:2<=c.length;rw[if_pos b]at a;cases a;exact absurd b (by simp);rw[if_neg b]at a;cases a
def Kg(O:CtxOk X ad C)(h:lK sc xs=qc)(hc:eG (λx=>fK C x) (bF sc)=pi cs):
  CtxOk (cX X (xs++bF sc) sc s3 H3 fp cc) ad {C with sc:=sc,N:=xs++bF sc}:=by
 obtain⟨E,B,G,H,v,t,J⟩:=jR h;have o: ∀x,(relabel sc X.env).names.lookup x=(sc.names.lookup x).map (λk=>if(k==l0&&X.env.scope.kind== .function&&X.env.kindOf x==pi .cell)then mf else k):=λx=>cM;have u: ∀x,sc.names.lookup x=pi .free->(relabel sc X.env).names.lookup x=pi .cell\/(relabel sc X.env).names.lookup x=pi .free:=λx e=>by
  rw[o x,e];simp only[pc];split;exact .inl rfl;exact .inr rfl
 have s: ∀x,sc.names.lookup x=pi .cell->(relabel sc X.env).names.lookup x=pi .cell:=λx e=>by rw[o x,e];rfl
 refine⟨rfl,v,λx i e=>?_,λx e=>?_,λx g e=>?_,λx i e=>?_,O.calm,O.un,O.hd,O.exc,O.kin,O.kve,λj n F e=>let ⟨r,T,q⟩:=O.fnv j n F e;⟨r,⟨T.kp,T.ok⟩,q⟩⟩;obtain⟨b,a⟩:=lV e;have l:=lU b;refine⟨fY b,?_,(t x l).1,(t x l).2⟩;rcases a with a|a|a;refine .inl ?_;show(relabel sc X.env).names.lookup x=pi .local;rw[o x];have:sc.names.lookup x=pi .local:=a;rw[this];rfl;exact .inr (.inl (s x a));rcases u x a with z|z;exact .inr (.inl z);exact .inr (.inr z);show(relabel sc X.env).names.lookup x=pi .globalImplicit;rw[o x];have:sc.names.lookup x=pi .globalImplicit:=e;rw[this];rfl;obtain⟨b,a⟩:=O.gt x g e;refine⟨b,?_⟩;cases g with
 |fn k n F=>
  obtain⟨r,f,T,q,y⟩:=a;exact⟨r,f,⟨T.mg,T.kp,T.ok⟩,q,y⟩
 |exc c=>exact a
 |verr=>exact a
 |val d=>exact a
 |tbl w=>exact a
 |py p=>exact a
 |cls A I=>exact⟨a.1,a.2.1,λm n M l=>let z:=a.2.2 m n M l;⟨z.no,z.ok⟩⟩
 obtain⟨b,a⟩:=eP e;rcases a with a|a;exact .inl (s x a);exact u x a
end
section
variable{Ex:ce}
def w8{items}{Q:ce}(hit:s.heap.IsTupleIter it t i)(ht:s.heap.IsTuple t items)(hx:items[i]? =pi x)(hQ: ∀h',h'.IsTupleIter it t (i+1)->mz it s.heap h'->Q x {s with heap:=h'}):wpAny (model prog w) A (dw (.ref it)) Q Ex s:=by obtain⟨o,b,c,a⟩:=id hit;obtain⟨u,d,_,f,e⟩:=ht;unfold dw;refine aa (wpAny_callSpecial?_slot (name:=nu "__next__") hit.typeIs du (wpAny_call_entry du hit.typeIs F.entry_tuple_iterator_next ?_ (F.args_tuple_iterator_next_1 _)));show wpAny _ _ (field (.ref it) 0 >>= _) _ _ s;refine aa (wpAny_field b a (x:=.ref t) rfl ?_);show wpAny _ _ (if(pf t==oq)=qc then _ else _) _ _ s;rw[if_neg (show ¬((pf t==oq)=qc) from bf)];show wpAny _ _ (field (.ref it) 1 >>= _) _ _ s;refine aa (wpAny_field b a (x:=.int i 0) rfl ?_);show wpAny _ _ (seqItems? (.ref t) >>= _) _ _ s;refine aa (wpAny_seqItems d e ?_);simp only[jh,hx];refine aa (wpAny_setField b a (by simp) (ac ⟨x,rfl,ac (hQ _ ?_ (mz.update ..))⟩));exact⟨_,fw _ b (Obj.isFreed_of_fields (Obj.data_mapFields a _)),(Obj.cls_mapFields ..).trans c,by rw[Obj.data_mapFields a];simp[rawInt]⟩
def Ab{items}{Q:ce}(hh:A.handled=qb)(hit:s.heap.IsTupleIter it t i)(ht:s.heap.IsTuple t items)(hx:items[i]? =qb)(hE: ∀h' e,Heap.ExtBut it s.heap h'->(∃o,h'.get? e=pi o/\o.cls= .type "StopIteration")->Ex (.ref e) {s with heap:=h'}):wpAny (model prog w) A (dw (.ref it)) Q Ex s:=by
 obtain⟨o,d,j,c⟩:=id hit;obtain⟨u,f,_,l,g⟩:=ht;unfold dw;refine aa (wpAny_callSpecial?_slot (name:=nu "__next__") hit.typeIs du (wpAny_call_entry du hit.typeIs F.entry_tuple_iterator_next ?_ (F.args_tuple_iterator_next_1 _)));show wpAny _ _ (field (.ref it) 0 >>= _) _ _ s;refine aa (wpAny_field d c (x:=.ref t) rfl ?_);show wpAny _ _ (if(pf t==oq)=qc then _ else _) _ _ s;rw[if_neg (show ¬((pf t==oq)=qc) from bf)];show wpAny _ _ (field (.ref it) 1 >>= _) _ _ s;refine aa (wpAny_field d c (x:=.int i 0) rfl ?_);show wpAny _ _ (seqItems? (.ref t) >>= _) _ _ s;refine aa (wpAny_seqItems f g ?_);simp only[jh,hx];refine aa (wpAny_rule (aa (wpAny_setField d c (by simp) ?_)));show wpAny _ _ (newExc (.type "StopIteration") [] >>= _) _ _ _;refine aa ?_;simp only[newExc,newTuple];refine aa (wpAny_newObj_type ?_ (by size_fits));refine aa (m:=firstArgMember _ _) (wpAny_of_eq (a:=oq) (by first|rfl|(simp only[firstArgMember];rfl)) ?_);refine wpAny_newObj_type ?_ (by size_fits);simp only[raiseNew];refine aa (wpAny_handled ?_);first|rw[show A.in1.handled=qb from hh]|rw[hh]
 refine aa (ac (wpAny_throw ?_));refine hE _ _ (λb n h e=>?_) ⟨_,af _ rfl,rfl⟩;exact ae _ (ae _ ((fg _ _ (qa h)).trans e))
end
def rN{n l m:Nat}(a:l<n)(b:m<n):ZipApart (n+4) (n+2) (n+3) n (n+1) l m:=by constructor<;>(intro h;have c:(_:Nat)=_:=h;revert c;lia)
def gJ{σ:L2.St}{fp:L1 Addr}(I:Inv X cc σ H s)(k: ∀b o,b∉fp->s.heap.get? b=pi o->h'.get? b=pi o)(hf: ∀b∈fp,pV X cc H b):Inv X cc σ H {s with heap:=h',toks:=t'}:=by
 have d: ∀b u,H b=pi u->b∉fp:=λb u e z=>by rw[(hf b z).1]at e;cases e
 refine I.step (g':=s.gens) (d':=s.drawn) (ch:=fp) (λb f=>?_) (λb o _ _ a e _=>k b o a e) (λb o _ _ a e _=>⟨o.slots,k b o a e⟩) (λ_ _ _ _ n=>n)
  (λb o a e=>⟨o,k b o a e⟩) (λ_ _ e=>e) (λ_ _ _ e=>e) (λb x e=>⟨#[],by rw[e];simp⟩) (λm l=>?_) (λb u e=>?_) I.bare
 obtain⟨_,p,_,h,i,t⟩:=hf b f;exact⟨h,p,i,t⟩;obtain⟨o,g,w,j,r⟩:=l;exact⟨o,g,w,k _ o (λz=>(hf _ z).2.1 rfl) j,r⟩;refine(I.hok b u e).stay (λc v a q=>k c v ?_ q) (λ_ q=>q) λ_ _ q=>q;rcases a with z|z;rw[z];exact d b u e;exact d c _ z
def SqA(t:Bool)(K:mj)(H:Hp)(a:Addr)(xs:L1 V):Prop:=match t with
 |true=>SqT K H a xs
 |false=>SqL K H a xs
def ItA(t:Bool)(h:Heap)(it l:Addr)(i:Nat):Prop:=match t with
 |true=>h.IsTupleIter it l i
 |false=>h.IsListIter it l i
def SeA(t:Bool)(h:Heap)(l:Addr)(xs:Array Value):Prop:=match t with
 |true=>h.IsTuple l xs
 |false=>h.IsList l xs
section
variable{σ:L2.St}
def eI(I:Inv X cc σ H s)(h:SqA t X.K H a xs): ∃its,b9 xs its/\SeA t s.heap a its.toArray/\xs.length<=sizeLine:=by rcases t with _|_;obtain⟨its,r,p,z⟩:=I.list h;exact⟨its,r,p.isList,z⟩;obtain⟨its,r,p,z⟩:=I.tuple h;exact⟨its,r,p,z⟩
def lW(I:Inv X cc σ H s)(h:SqA t X.K H a xs)(h':SqA t X.K H a ys):xs=ys:=by rcases t with _|_;exact I.list_inj h h';exact I.tuple_inj h h'
def a8{K}(e:Same H H')(h:SqA t K H a xs):SqA t K H' a xs:=by rcases t with _|_;exact e.seq h;exact e.seqT h
def cD(q:ItA t h it l i)(k: ∀o,h.get? it=pi o->h'.get? it=pi o):ItA t h' it l i:=by rcases t with _|_;obtain⟨o,e,r⟩:=q;exact⟨o,k o e,r⟩;obtain⟨o,e,r⟩:=q;exact⟨o,k o e,r⟩
def eR{Ex:ce}{Q:ce}(q:ItA t s.heap it l i)(hl:SeA t s.heap l xs)(hx:xs[i]? =pi x)(hQ: ∀h',ItA t h' it l (i+1)->mz it s.heap h'->Q x {s with heap:=h'}):wpAny (model prog w) A (dw (.ref it)) Q Ex s:=by rcases t with _|_;exact wpAny_nextOf_list_item q hl hx hQ;exact w8 q hl hx hQ
def iY{Ex:ce}{Q:ce}(hh:A.handled=qb)(q:ItA t s.heap it l i)(hl:SeA t s.heap l xs)(hx:xs[i]? =qb)(hE: ∀h' e,Heap.ExtBut it s.heap h'->(∃o,h'.get? e=pi o/\o.cls= .type "StopIteration")->Ex (.ref e) {s with heap:=h'}):wpAny (model prog w) A (dw (.ref it)) Q Ex s:=by rcases t with _|_;exact wpAny_nextOf_list_end hh q hl hx hE;exact Ab hh q hl hx hE
end
def oO(q:SeA t h l it)(k: ∀o,h.get? l=pi o->h'.get? l=pi o):SeA t h' l it:=by rcases t with _|_;obtain⟨o,a,b⟩:=q;exact⟨o,k o a,b⟩;obtain⟨o,a,b⟩:=q;exact⟨o,k o a,b⟩
def oP(x:ItA t h it l k): ∃o,h.get? it=pi o/\o.data= .fields #[.ref l,.int k 0]:=by rcases t with _|_;obtain⟨o,a,_,c⟩:=x;exact⟨o,a,c⟩;obtain⟨o,a,_,c⟩:=x;exact⟨o,a,c⟩
section
variable{Ex:ce}
def rO{z TI TO i1 i2 l1 l2}(D:ZipApart z TI TO i1 i2 l1 l2)(hz:IsZip s.heap z TI TO .none)(hTI:IsPair s.heap TI (.ref i1) (.ref i2))(hTO:IsPair s.heap TO a b)(h1:ItA t s.heap i1 l1 k1)(h2:ItA t2 s.heap i2 l2 k2)(hl1:SeA t s.heap l1 xs)(hl2:SeA t2 s.heap l2 ys)(hx:xs[k1]? =pi x)(hy:ys[k2]? =pi y)(hQ: ∀h',IsZip h' z TI TO (rawInt s.z)->IsPair h' TO x y->ItA t h' i1 l1 (k1+1)->ItA t2 h' i2 l2 (k2+1)->IsPair h' s.z x y->h'.objs.size=s.z+1->
   (∀c o,c≠z->c≠TO->c≠i1->c≠i2->s.heap.get? c=pi o->h'.get? c=pi o)->Q (pi (.ref s.z)) {s with heap:=h'}):wpAny (model prog w) A (pyNext (.ref z)) Q Ex s:=by
 have T:s.TypeIs (.ref z) "zip":=⟨_,hz,rfl⟩;have d: ∀{t:Bool} {h h':Heap} {it l:Addr} {k:Nat} {c:Addr},ItA t h it l k->mz c h h'->it≠c->ItA t h' it l k:=λq H N=>cD q λo e=>(H.2 _ N).trans e;have g: ∀{t:Bool} {h h':Heap} {l:Addr} {it:Array Value} {c:Addr},SeA t h l it->mz c h h'->l≠c->SeA t h' l it:=λq H N=>oO q λo e=>(H.2 _ N).trans e;unfold pyNext;refine aa (wpAny_attempt (wpAny_callSpecial?_slot (name:=nu "__next__") T km (wpAny_call_entry km T jr ?_ (ji _))));show wpAny _ _ (field (.ref z) 2 >>= _) _ _ _;refine aa (wpAny_field hz rfl (x:=.bool qe) rfl ?_);show wpAny _ _ (field (.ref z) 3 >>= _) _ _ _;refine aa (wpAny_field hz rfl (x:=.ref TI) rfl (aa (wpAny_seqItems hTI rfl ?_)));show wpAny _ _ (di (.ref z) >>= _) _ _ _;refine aa ?_;unfold di;refine aa (wpAny_field hz rfl (x:=.none) rfl (ac ?_));simp only[if_true];refine aa (wpAny_rule (aa (wpAny_field hz rfl (x:=.ref TO) rfl (aa (wpAny_setField_rec hz (by simp) λg1 I j=>?_)))));replace I:IsZip g1 z TI TO .ellipsis:=I;refine aa ?_;simp only[List.zipIdx_cons,List.zipIdx_nil,kl,k7];refine aa (aa (wpAny_onRaise ?_));show wpAny _ _ (dw (.ref i1) >>= _) _ _ _;refine aa (eR (d h1 j D.i1z) (g hl1 j D.l1z) hx λg2 p2 n=>ac ?_);have Y:IsPair g2 TO a b:=(n.2 _ D.TOi1).trans ((j.2 _ D.TOz).trans hTO);refine aa (wpAny_seqItems Y rfl (aa (wpAny_updateSeq_pair Y λg3 M m=>?_)));replace M:IsPair g3 TO x b:=M;refine aa (wpAny_letGo (ac (aa (aa (wpAny_onRaise ?_)))));show wpAny _ _ (dw (.ref i2) >>= _) _ _ _;refine aa (eR (d (d (d h2 j D.i2z) n D.i12.symm) m D.TOi2.symm) (g (g (g hl2 j D.l2z) n D.l2i1) m D.l2TO) hy λg4 p4 r=>ac ?_);have W:IsPair g4 TO x b:=(r.2 _ D.TOi2).trans M;refine aa (wpAny_seqItems W rfl (aa (wpAny_updateSeq_pair W λf C v=>?_)));replace C:IsPair f TO x y:=C;refine aa (wpAny_letGo (ac (ac (aa (wpAny_seqItems C rfl (aa (wpAny_newTuple ?_)))))));have u:f.objs.size=s.z:=by rw[v.1,r.1,m.1,n.1,j.1]
 have Z:IsZip f z TI TO .ellipsis:=(v.2 _ D.TOz.symm).trans ((r.2 _ D.i2z.symm).trans ((m.2 _ D.TOz.symm).trans ((n.2 _ D.i1z.symm).trans I)));have k5: ∀c o,c≠z->c≠TO->c≠i1->c≠i2->s.heap.get? c=pi o->f.get? c=pi o:=λc o i B G O e=>(v.2 _ B).trans ((r.2 _ O).trans ((m.2 _ B).trans ((n.2 _ G).trans ((j.2 _ i).trans e))));have q1:ItA t f i1 l1 (k1+1):=d (d (d p2 m D.TOi1.symm) r D.i12) v D.TOi1.symm;have q2:ItA t2 f i2 l2 (k2+1):=d p4 v D.TOi2.symm;have U:z<f.objs.size:=ah Z;show wpAny _ _ (dh (.ref z) (.ref f.objs.size) >>= _) _ _ _;refine aa ?_;unfold dh;have z6:IsZip (f.push {cls:=.type "tuple",data:=.seq #[x,y]}) z TI TO .ellipsis:=ae _ Z;refine aa (wpAny_setField_rec z6 (by simp) λg7 J L=>?_);replace J:IsZip g7 z TI TO (rawInt f.objs.size):=J;refine wpAny_setField_rec J (by simp) λp E K=>?_;replace E:IsZip p z TI TO (rawInt f.objs.size):=E;have up: ∀c o,c≠z->f.get? c=pi o->p.get? c=pi o:=λc o i e=>(K.2 _ i).trans ((L.2 _ i).trans (ae _ e));have S:IsPair p f.objs.size x y:=(K.2 _ (ng U)).trans ((L.2 _ (ng U)).trans (af _ rfl));have X:p.objs.size=f.objs.size+1:=by rw[K.1,L.1,ai]
 rw[u]at E S X;refine ac ⟨_,rfl,ac ?_⟩;show Q (pi (.ref f.objs.size)) _;rw[u];refine hQ p E (up _ _ D.TOz C) ?_ ?_ S X λc o i B G O e=>up c o i (k5 c o i B G O e);exact cD q1 λo e=>up _ o D.i1z e;exact cD q2 λo e=>up _ o D.i2z e
def vO{z TI TO i1 i2 l1 l2}(hh:A.handled=qb)(D:ZipApart z TI TO i1 i2 l1 l2)(hz:IsZip s.heap z TI TO .none)(hTI:IsPair s.heap TI (.ref i1) (.ref i2))(hTO:IsPair s.heap TO a b)(h1:ItA t s.heap i1 l1 k1)(h2:ItA t2 s.heap i2 l2 k2)(hl1:SeA t s.heap l1 xs)(hl2:SeA t2 s.heap l2 ys)(he:xs[k1]? =qb\/ys[k2]? =qb)(hQ: ∀h',(∀c o,c≠z->c≠TO->c≠i1->c≠i2->s.heap.get? c=pi o->h'.get? c=pi o)->Q qb {s with heap:=h'}):wpAny (model prog w) A (pyNext (.ref z)) Q Ex s:=by
 have J:s.TypeIs (.ref z) "zip":=⟨_,hz,rfl⟩;have d: ∀{t:Bool} {h h':Heap} {it l:Addr} {k:Nat} {c:Addr},ItA t h it l k->mz c h h'->it≠c->ItA t h' it l k:=λq B C=>cD q λo e=>(B.2 _ C).trans e;have f: ∀{t:Bool} {h h':Heap} {l:Addr} {it:Array Value} {c:Addr},SeA t h l it->mz c h h'->l≠c->SeA t h' l it:=λq B C=>oO q λo e=>(B.2 _ C).trans e;unfold pyNext;have p: ∀(h':Heap) (e:Addr),(∀c o,c≠z->c≠TO->c≠i1->c≠i2->s.heap.get? c=pi o->h'.get? c=pi o)->(∃o,h'.get? e=pi o/\o.cls= .type "StopIteration")->wpAny (model prog w) A (do if(<-isInstance (.ref e) (.type "StopIteration"))=qc then pure qb else throw (.ref e)) Q Ex {s with heap:=h'}:=λh' e S he=>by
  obtain⟨o,ho,hc⟩:=he;exact aa (wpAny_isInstance (T:="StopIteration") (b:=qc) ⟨o,ho,hc⟩ isSubtype_stop (ac (hQ _ S)))
 refine aa (wpAny_attempt (wpAny_callSpecial?_slot (name:=nu "__next__") J km (wpAny_call_entry km J jr ?_ (ji _))));show wpAny _ _ (field (.ref z) 2 >>= _) _ _ _;refine aa (wpAny_field hz rfl (x:=.bool qe) rfl ?_);show wpAny _ _ (field (.ref z) 3 >>= _) _ _ _;refine aa (wpAny_field hz rfl (x:=.ref TI) rfl (aa (wpAny_seqItems hTI rfl ?_)));show wpAny _ _ (di (.ref z) >>= _) _ _ _;refine aa ?_;unfold di;refine aa (wpAny_field hz rfl (x:=.none) rfl (ac ?_));simp only[if_true];refine aa (wpAny_rule (aa (wpAny_field hz rfl (x:=.ref TO) rfl (aa (wpAny_setField_rec hz (by simp) λW r g=>?_)))));replace r:IsZip W z TI TO .ellipsis:=r;refine aa ?_;simp only[List.zipIdx_cons,List.zipIdx_nil,kl,k7];refine aa (aa (wpAny_onRaise ?_));show wpAny _ _ (dw (.ref i1) >>= _) _ _ _;rcases E:xs[k1]? with _|x;refine aa (iY hh (d h1 g D.i1z) (f hl1 g D.l1z) E λv e i he=>?_);obtain⟨u,q1,m⟩:=he;have H:IsZip v z TI TO .ellipsis:=i _ _ D.i1z.symm r;have G:e≠z:=λx=>by subst x;rw[H]at q1;cases q1;simp at m
 exact wpAny_setField_rec H (by simp) λI _ j=>p I e (λc o n _ y _ x=>(j.2 _ n).trans (i _ _ y ((g.2 _ n).trans x))) ⟨u,(j.2 _ G).trans q1,m⟩;have O:ys[k2]? =qb:=he.resolve_left λh=>by rw[E]at h;cases h
 refine aa (eR (d h1 g D.i1z) (f hl1 g D.l1z) E λv p2 i=>ac ?_);have M:IsPair v TO a b:=(i.2 _ D.TOi1).trans ((g.2 _ D.TOz).trans hTO);refine aa (wpAny_seqItems M rfl (aa (wpAny_updateSeq_pair M λI o3 j=>?_)));refine aa (wpAny_letGo (ac (aa (aa (wpAny_onRaise ?_)))));show wpAny _ _ (dw (.ref i2) >>= _) _ _ _;refine aa (iY hh (d (d (d h2 g D.i2z) i D.i12.symm) j D.TOi2.symm) (f (f (f hl2 g D.l2z) i D.l2i1) j D.l2TO) O λY e K he=>?_);obtain⟨u,q1,m⟩:=he;have L:IsZip Y z TI TO .ellipsis:=K _ _ D.i2z.symm ((j.2 _ D.TOz.symm).trans ((i.2 _ D.i1z.symm).trans r));have G:e≠z:=λx=>by subst x;rw[L]at q1;cases q1;simp at m
 exact wpAny_setField_rec L (by simp) λX _ N=>p X e (λc o n U y Z x=>(N.2 _ n).trans (K _ _ Z ((j.2 _ U).trans ((i.2 _ y).trans ((g.2 _ n).trans x))))) ⟨u,(N.2 _ G).trans q1,m⟩
end
noncomputable def itC(t:Bool):String:=if t then "tuple_iterator" else "list_iterator"
abbrev zg1(t:Bool)(h:Heap)(l:Addr):Heap:=h.push {cls:=.type (itC t),data:=.fields #[.ref l,.int 0 0]}
abbrev zg3(t t2:Bool)(h:Heap)(l m:Addr):Heap:=(zg1 t2 (zg1 t h l) m).push {cls:=.type "tuple",data:=.seq #[.ref h.objs.size,.ref (zg1 t h l).objs.size]}
abbrev zg4(t t2:Bool)(h:Heap)(l m:Addr):Heap:=(zg3 t t2 h l m).push {cls:=.type "tuple",data:=.seq #[.none,.none]}
abbrev zg5(t t2:Bool)(h:Heap)(l m:Addr):Heap:=(zg4 t t2 h l m).push {cls:=.type "zip",data:=.fields #[.none,.bool qe,.bool qe,.ref (zg1 t2 (zg1 t h l) m).objs.size,.ref (zg3 t t2 h l m).objs.size]}
def Cy t t2 l m xs ys:Meets (Builtin.«zip.__new__» ⟨[.type "zip",.ref l,.ref m],[]⟩) (λ_ R s=>SeA t s.heap l xs/\SeA t2 s.heap m ys/\R (.ok (.ret (.ref (zg4 t t2 s.heap l m).objs.size))) {s with heap:=zg5 t t2 s.heap l m}):=
 .of_wp λi w A R s h=>by
  obtain⟨e,g,d,f,c⟩:=s;obtain⟨n,a,h⟩:=h;have j:=sub_zip;rcases t with _|_;have q1:om (oj ⟨e,g,d,f,c⟩) l xs:=n;rcases t2 with _|_;have b:om (oj ⟨e.push {cls:=.type "list_iterator",data:=.fields #[.ref l,.int 0 0]},g,d,f,c⟩) m ys:=om.push a _;wp_walk using wpAny_pyIter_list q1,wpAny_pyIter_list b
  exact⟨_,rfl,h⟩;have b:ny (oj ⟨e.push {cls:=.type "list_iterator",data:=.fields #[.ref l,.int 0 0]},g,d,f,c⟩) m ys:=ny.push a _;wp_walk using wpAny_pyIter_list q1,wpAny_pyIter_tuple b
  exact⟨_,rfl,h⟩;have q1:ny (oj ⟨e,g,d,f,c⟩) l xs:=n;rcases t2 with _|_;have b:om (oj ⟨e.push {cls:=.type "tuple_iterator",data:=.fields #[.ref l,.int 0 0]},g,d,f,c⟩) m ys:=om.push a _;wp_walk using wpAny_pyIter_tuple q1,wpAny_pyIter_list b
  exact⟨_,rfl,h⟩;have b:ny (oj ⟨e.push {cls:=.type "tuple_iterator",data:=.fields #[.ref l,.int 0 0]},g,d,f,c⟩) m ys:=ny.push a _;wp_walk using wpAny_pyIter_tuple q1,wpAny_pyIter_tuple b
  exact⟨_,rfl,h⟩
section
variable{Ex:ce}{s:Shared}
def Ac(e:h.get? it=pi {cls:=.type (itC t),data:=.fields #[.ref l,.int 0 0]}):ItA t h it l 0:=by rcases t with _|_;exact⟨_,e,rfl,rfl⟩;exact⟨_,e,rfl,rfl⟩
def rP{Q:ce}(t1:SeA t s.heap l xs)(t2':SeA t2 s.heap m ys)(h: ∀h',IsZip h' (s.z+4) (s.z+2) (s.z+3) .none->IsPair h' (s.z+2) (.ref s.z) (.ref (s.z+1))->IsPair h' (s.z+3) .none .none->
   ItA t h' s.z l 0->ItA t2 h' (s.z+1) m 0->h'.objs.size=s.z+5->(∀c o,s.heap.get? c=pi o->h'.get? c=pi o)->Q (.ref (s.z+4)) {s with heap:=h'}):
  wpAny (model prog w) A (call (.type "zip") [.ref l,.ref m]) Q Ex s:=by
 refine callType_new F.called_zip rfl (F.typeCall_zip_2 _ _) (F.newCall_zip_2 _ _) (λd=>F.args_object_init_3 d _ _) F.entry_zip_new (Cy t t2 l m xs ys) ⟨t1,t2',?_⟩;have a:(zg1 t s.heap l).objs.size=s.z+1:=ai ..;have f:(zg1 t2 (zg1 t s.heap l) m).objs.size=s.z+2:=by rw[ai,a]
 have b:(zg3 t t2 s.heap l m).objs.size=s.z+3:=by rw[ai,f]
 have g:(zg4 t t2 s.heap l m).objs.size=s.z+4:=by rw[ai,b]
 have q:(zg5 t t2 s.heap l m).objs.size=s.z+5:=by rw[ai,g]
 have up: ∀{h:Heap} {o:Obj} {c:Addr} {x:Obj},h.get? c=pi x->(h.push o).get? c=pi x:=λe=>ae _ e;have i:(zg5 t t2 s.heap l m).get? (zg4 t t2 s.heap l m).objs.size=pi _:=af _ rfl;have n:(zg5 t t2 s.heap l m).get? (zg3 t t2 s.heap l m).objs.size=pi _:=up (af _ rfl);have p:(zg5 t t2 s.heap l m).get? (zg1 t2 (zg1 t s.heap l) m).objs.size=pi _:=up (up (af _ rfl));have j:(zg5 t t2 s.heap l m).get? (zg1 t s.heap l).objs.size=pi _:=up (up (up (af _ rfl)));have r:(zg5 t t2 s.heap l m).get? s.z=pi _:=up (up (up (up (af _ rfl))));show _/\_;rw[f,b,g]at i;rw[a,f]at p;rw[b]at n;rw[a]at j;rw[g];exact⟨⟨_,i,rfl⟩,h _ i p n (Ac r) (Ac j) q λc o x=>up (up (up (up (up x))))⟩
end
noncomputable def Gr(t t2:Bool)(K:mj)(l m:Addr):It:=
 ⟨λi H=>∃xs ys x y,SqA t K H l xs/\SqA t2 K H m ys/\xs[i]? =pi x/\ys[i]? =pi y,
  λi H v H'=>∃p x y,H p=qb/\v= .ref p/\(∀xs,SqA t K H l xs->xs[i]? =pi x)/\(∀ys,SqA t2 K H m ys->ys[i]? =pi y)/\H'=upd H p (.tup [x,y]),
  λi H=>∃xs ys,SqA t K H l xs/\SqA t2 K H m ys/\(xs.length<=i\/ys.length<=i)⟩
def Ae{K}{z TI TO i1 i2 l m}(D:ZipApart z TI TO i1 i2 l m):
  Turn P w K (.Tuple es x1 tp) (Gr t t2 K l m) [z,TI,TO,i1,i2] z (λi h=>IsZip h z TI TO .none/\IsPair h TI (.ref i1) (.ref i2)/\(∃a b,IsPair h TO a b)/\ItA t h i1 l i/\ItA t2 h i2 m i) where
 mem:=by simp
 obj:=λi h g b d=>by
  refine gzq λRz ez=>?_;obtain⟨n,f,⟨a,c,j⟩,S,Y⟩:=g;obtain⟨o4,r,d4⟩:=oP S;obtain⟨o5,A,d5⟩:=oP Y;subst ez;simp only[av,jq,or_false]at d;rcases d with rfl|rfl|rfl|rfl|rfl
  .exact⟨_,n,λv e=>by cases e⟩
  .exact⟨_,f,λv e=>by cases e⟩
  .exact⟨_,j,λv e=>by cases e⟩
  .exact⟨_,r,λv e=>by rw[d4]at e;cases e⟩
  .exact⟨_,A,λv e=>by rw[d5]at e;cases e⟩
 keep:=λi h J g k=>by
  refine gzq λRz ez=>?_;obtain⟨n,f,⟨a,c,j⟩,S,Y⟩:=g;subst ez;exact⟨k _ (by simp) _ n,k _ (by simp) _ f,⟨a,c,k _ (by simp) _ j⟩,cD S λo e=>k _ (by simp) o e,cD Y λo e=>k _ (by simp) o e⟩
 item:=by
  intro X Q Z hK hc i B s M H E I L g hg;subst Q Z hK;obtain⟨xs,ys,x,y,q1,G,N,hy⟩:=hg;obtain⟨us,T,p1,_⟩:=eI I q1;obtain⟨vs,r2,O,_⟩:=eI I G;obtain⟨u,hu,ru⟩:=T.get N;obtain⟨v,hv,rv⟩:=r2.get hy;obtain⟨n,f,⟨a,c,j⟩,r,A⟩:=g;have tI:TI<s.z:=ah f;have tz:z<s.z:=ah n;have tO:TO<s.z:=ah j;have t4:i1<s.z:=by obtain⟨o,e,_⟩:=oP r;exact ah e
  have t5:i2<s.z:=by obtain⟨o,e,_⟩:=oP A;exact ah e
  refine rO D n f j r A p1 O (x:=u) (y:=v) (by simpa using hu) (by simpa using hv) λJ a1 a2 a3 a4 a5 a6 a7=>⟨_,rfl,?_⟩
  have U:H s.z=qb:=I.hok.fresh (aj _)
  have Ia:Inv X B M (upd H s.z (.tup [x,y])) {s with heap:=s.heap.push {cls:=.type "tuple",data:=.seq #[u,v]} }:=
   I.laid (t':=s.toks) (λb o e=>ae _ e) (aj _) (show ObjOk X.prog X.w _ _ _ (.tup [x,y]) from⟨by rw[sizeLine_eq];simp,[u,v],.cons ru (.cons rv .nil),⟨_,af _ rfl,rfl,_,rfl⟩,⟨_,af _ rfl,rfl⟩⟩)
  have ag: ∀b∈[z,TI,TO,i1,i2],b≠s.z:=λb d=>by
   simp only[av,jq,or_false]at d;rcases d with rfl|rfl|rfl|rfl|rfl
   .exact bh tz
   .exact bh tI
   .exact bh tO
   .exact bh t4
   .exact bh t5
  have p: ∀b∈[z,TI,TO,i1,i2],pV X B (upd H s.z (.tup [x,y])) b:=λb d=>⟨by rw[aA (ag b d)];exact(L b d).1,(L b d).2⟩
  have Ib:Inv X B M (upd H s.z (.tup [x,y])) {s with heap:=J}:=by
   refine gJ (s:={s with heap:=s.heap.push {cls:=.type "tuple",data:=.seq #[u,v]} }) (t':=s.toks) Ia (λb o d e=>?_) p
   simp only[av,jq,or_false,not_or]at d
   by_cases hq:b=s.z
   .subst hq;rw[show(s.heap.push {cls:=.type "tuple",data:=.seq #[u,v]}).get? s.z=pi _ from af _ rfl]at e
    cases e;exact a5
   .have e2:s.heap.get? b=pi o:=by
     exact(jj _ b _ hq).symm.trans e
    exact a7 b o d.1 d.2.2.1 d.2.2.2.1 d.2.2.2.2 e2
  refine wpAny_letOwnedTupleGo_zip a1 λh2 b1 C=>?_
  have Ic:Inv X B M (upd H s.z (.tup [x,y])) {s with heap:=h2}:=gJ (s:={s with heap:=J}) (t':=s.toks) Ib (λb o d e=>(C.2 b (λq=>d (by simp[q]))).trans e) p
  refine⟨.ref s.z,_,Ic,rfl,⟨_,x,y,U,rfl,λal ad=>by rw[lW I ad q1];exact N,λak ab=>by rw[lW I ab G];exact hy,rfl⟩,⟨b1,?_,⟨u,v,?_⟩,?_,?_⟩,λb d=>(p b d).1⟩
  .exact(C.2 _ D.TIz).trans (a7 _ _ D.TIz D.TITO D.TIi1 D.TIi2 f)
  .exact(C.2 _ D.TOz).trans a2
  .exact cD a3 λo e=>(C.2 _ D.i1z).trans e
  .exact cD a4 λo e=>(C.2 _ D.i2z).trans e
 done:=by
  intro X Q Z hK hc i B s M H E I L g hg;subst Q Z hK;refine gzq λRz ez=>?_;obtain⟨xs,ys,q1,G,N⟩:=hg;obtain⟨us,T,p1,_⟩:=eI I q1;obtain⟨vs,r2,O,_⟩:=eI I G;obtain⟨n,f,⟨a,c,j⟩,r,A⟩:=g;have n1:=T.length;have n2:=r2.length;subst ez;refine vO (I.ok.hd hc) D n f j r A p1 O (N.elim (λh=>.inl (by simp;lia)) λh=>.inr (by simp;lia)) λJ k=>⟨rfl,gJ (t':=s.toks) I (λb o d e=>?_) L⟩
  simp only[av,jq,or_false,not_or]at d;exact k b o d.1 d.2.2.1 d.2.2.2.1 d.2.2.2.2 e
 self:=λ_ _ _ _ _ g h=>wpAny_pyIter_zip g.1 h
section
variable{X:Cx}{ad:Ad}{cc:cf}{s:Shared}{σ:St}{H G:Hp}{Q:VK}{E:Nat->Hp->Prop}{ap cp:Pos}{o a:Expr}{f g:F}
def Af(e:Same G1 H1)(q:Seq X ad G1 H1 (.lst ds) x): ∃l xs,x= .ref l/\SqL X.K H1 l xs/\aK X.K ad G1 ds xs:=by rcases q with q|⟨l,a,ds',e1,e2,e3,e4,e5⟩;unfold Rep at q;obtain⟨l,a,rfl,b,c⟩:=q;exact⟨l,a,rfl,e.seq b,c⟩;cases e1;exact⟨l,a,e2,SqL.of e4,e5⟩
def Ag{m}{id}{r}(slot:PySem.Slot "list" m id)(hty:typeOf (.builtin id)=pure (.type "method_descriptor"))
  (ho:ML X ad o f) (ha:ME X ad a g) (hs:starEach [a] X.env=(qe,eval a X.env)::starEach [] X.env) (hbase:attributeBase o m X.env (eval o X.env)=eval o X.env) (hline:(ap.endLine==cp.line)=qc)
  (hm: ∀cc s (σ:St) H G l xs ds y v u Q E,Inv X cc σ H s->Same G H->SqL X.K H l xs->aK X.K ad G ds xs->Rep X.K ad G y v->bJ v u->
   RK X.K ad G H (r [.lst ds,y]) Q E->X.wp (call (.builtin id) [.ref l,u]) (EP X cc σ Q) X.xe s):ME X ad (.Call (.Attribute o m ap) [a] [] cp) (tD r f g):=by
 refine λcc s σ H Q I U=>U.el λG B E hG j p hr=>?_
 refine wpAny_Call_method_late hbase (vJ hs) hline rfl (L2.thn (ho.lk cc s σ H G B _ Q E I hG j p hr) λv s1 b=>?_)
 obtain⟨x,d,G1,H1,q,r1,st1,q1,e⟩:=b
 cases d<;>try exact ba e
 rename_i ds;obtain⟨l,xs,rfl,i,W⟩:=Af st1.gh q1
 cases (show v=pf l from r1)
 refine gzq λRz ez=>?_;obtain⟨z,rv,N,_⟩:=q.list i;obtain⟨h,n,c,M,T,e4⟩:=N;subst ez;refine⟨"list",id,et,slot,hty,⟨h,c,M⟩,λa' J=>by cases J;exact⟨h,c,T⟩,?_⟩
 rw[hs];refine fh rfl (gf (ii (L2.thn (ha.thn q st1.gh (j.step st1) p e) λu Z ⟨w,y,Y,L,C,O,st2,t,S⟩=>i4 ?_)))
 exact hm cc Z σ L Y l xs ds y w u Q E C st2.gh (st2.sh.seq i) (W.mono st2.sg) t O S
def Cz(hu:X.A.units+62<cLine)(ho:ML X ad o f)(ha:ME X ad a g)(hs:starEach [a] X.env=(qe,eval a X.env)::starEach [] X.env)(hbase:attributeBase o "count" X.env (eval o X.env)=eval o X.env)(hline:(ap.endLine==cp.line)=qc):
  ME X ad (.Call (.Attribute o "count" ap) [a] [] cp) (tD yL f g):=by
 refine Ag PySem.F.slot_list_count PySem.F.type_list_count ho ha hs hbase hline ?_;intro S s O H G l T h y v u Q E I w C M q r k;have c:RK X.K ad G H (if uU y h then .ok (.int ((h.countP λz=>deq z y):Nat))else .bad) Q E:=k;by_cases i:uU y h=qc
 .rw[if_pos i]at c;refine gzq λRz ez=>?_;obtain⟨d,L,⟨⟨B,dd,p,x⟩,n,j,m,J,t⟩,_⟩:=I.list C;subst ez;simp only at m J t;subst m t;obtain⟨e,N,_,b,_⟩:=u9 hu I w i q r M L;refine call_meets PySem.F.slot_list_count ⟨_,j,rfl⟩ PySem.F.entry_list_count (PySem.F.args_list_count_2 _ _) (SeqAt.list_countAt l d.toArray n dd x u e) ⟨j,N,?_⟩;refine⟨.int _,H,I.tok _,⟨_,rfl⟩,?_⟩;rw[<-b]at c;exact c.ok_now w bT
 .rw[if_neg i]at c;exact c.elim
def CB(hu:X.A.units+62<cLine)(ho:ML X ad o f)(ha:ME X ad a g)(hs:starEach [a] X.env=(qe,eval a X.env)::starEach [] X.env)(hbase:attributeBase o "index" X.env (eval o X.env)=eval o X.env)(hline:(ap.endLine==cp.line)=qc):
  ME X ad (.Call (.Attribute o "index" ap) [a] [] cp) (tD yM f g):=by
 refine Ag PySem.F.slot_list_index PySem.F.type_list_index ho ha hs hbase hline ?_;intro cc s Z H G l xs d y v u Q E I M T W q r k;have c:RK X.K ad G H (if uU y d then(match d.findIdx? λz=>deq z y with|some k=>.ok (.int (k:Nat))|none=>.bad)else .bad) Q E:=k;by_cases i:uU y d=qc;rw[if_pos i]at c;obtain⟨h,B,⟨⟨S,dd,C,O⟩,n,w,x,U,J⟩,hz⟩:=I.list T;simp only at x U J;subst x J;obtain⟨e,Y,_,_,b⟩:=u9 hu I M i q r W B;cases L:d.findIdx? λz=>deq z y with
 |none=>rw[L]at c;exact c.elim
 |some j=>
  rw[L]at c b;obtain⟨N,hit,p⟩:=List.findIdx?_eq_some_iff_getElem.mp b;have hl:=B.length;refine call_meets PySem.F.slot_list_index ⟨_,w,rfl⟩ PySem.F.entry_list_index (PySem.F.args_list_index_2 _ _) (SeqAt.list_indexAt l h.toArray n dd O u e j (by simpa using N) ?_ (by simpa using hit) (λm hm t=>by simpa using p m t)) ⟨w,Y,?_⟩;have:(sizeLine:Nat)<2^63-1:=by decide
  lia;exact⟨.int _,H,I.tok _,⟨_,rfl⟩,c.ok_now M bT⟩
 rw[if_neg i]at c;exact c.elim
def iZp(K:mj)(ta:TA):TI:=λσ H R=>ta σ H λvs H1=>∃t t2 l m xs ys,vs=[.ref l,.ref m]/\SqA t K H1 l xs/\SqA t2 K H1 m ys/\(xs.length<=sizeLine->R (Gr t t2 K l m) H1)
def Kh{kt}(hg:L2.Gl X "zip")(hm:X.mg "zip"=qb)(ha:PA X [a,b] ta)(he:starEach [a,b] X.env=(qe,eval a X.env)::starEach [b] X.env)(he2:starEach [b] X.env=(qe,eval b X.env)::starEach [] X.env):
  PI X (.Tuple es kt tp) (.Call (.Name "zip" p) [a,b] [] pos) (iZp X.K ta):=by
 intro L s B H R I h;refine Call_ (f9 (u:=.type "zip") I hg hm (by decide+kernel) (dm (L2.thn (ha pos L s B H _ I h) λus c ⟨vs,M,f,S,q1⟩=>?_) he (by rw[he2];rfl)) (by decide) (by decide));obtain⟨t,y,l,m,Z,ys,rfl,i,g,q⟩:=q1;obtain⟨u,v,rfl,A,O⟩:=S.two;cases (show u=pf l from A);cases (show v=pf m from O);obtain⟨z,_,n,C⟩:=eI f i;obtain⟨j,_,r,_⟩:=eI f g;refine rP n r λY w G E Q T W U=>wpAny_pyIter_zip w ?_;have N:l<c.z:=by cases t<;>(obtain⟨o,e,_⟩:=n;exact ah e)
 have J:m<c.z:=by cases y<;>(obtain⟨o,e,_⟩:=r;exact ah e)
 refine⟨c.z+4,[c.z+4,c.z+2,c.z+3,c.z,c.z+1],_,Gr t y X.K l m,M,rfl,f.kept (t':=c.toks) U,Ae (rN N J),⟨w,G,⟨_,_,E⟩,Q,T⟩,λb x=>?_,q C⟩;have d:c.z<=b:=by
  simp only[av,jq,or_false]at x;rcases x with rfl|rfl|rfl|rfl|rfl;exact js _ 4;exact js _ 2;exact js _ 3;exact aj _;exact js _ 1
 exact f.fpOk d (f.hok.fresh d)
def Ah{ds es:L1 D}{i:Nat}{d}(e:((ds.zip es).map λp=>D.tup [p.1,p.2])[i]? =pi d): ∃x y,ds[i]? =pi x/\es[i]? =pi y/\d= .tup [x,y]:=by rw[i6]at e;rcases q:(ds.zip es)[i]? with _|p;rw[q]at e;cases e;rw[q]at e;rw[List.getElem?_zip_eq_some]at q;exact⟨p.1,p.2,q.1,q.2,(jw e).symm⟩
def isA:Bool->L1 D->D->Prop
 |true,ds,d=>d= .tup ds
 |false,ds,d=>d= .lst ds
def oQ(c:isA t ds d)(r:Rep X.K ad G1 d v): ∃l vs,v= .ref l/\SqA t X.K G1 l vs/\aK X.K ad G1 ds vs:=by rcases t with _|_;cases c;unfold Rep at r;exact r;cases c;unfold Rep at r;exact r
def CC{t t2}{G1 H1 H2:Hp}{l m}{i}{vs ws}{ds es}{d}{x:V}(h1:SqA t X.K G1 l vs)(r1:aK X.K ad G1 ds vs)(h2:SqA t2 X.K G1 m ws)(r2:aK X.K ad G1 es ws)(hg:Same G1 H1)(e:((ds.zip es).map λp=>D.tup [p.1,p.2])[i]? =pi d):
  (Gr t t2 X.K l m).go i H1/\∀x H2,(Gr t t2 X.K l m).yld i H1 x H2->∃G2,Step G1 H1 G2 H2/\Rep X.K ad G2 d x:=by
 obtain⟨x,y,r,n,rfl⟩:=Ah e;obtain⟨v,g,q1⟩:=r1.get r;obtain⟨w,a,o⟩:=r2.get n;refine⟨⟨vs,ws,v,w,a8 hg h1,a8 hg h2,g,a⟩,?_⟩;rintro A q ⟨p,u,z,h,rfl,j,s,rfl⟩;have b:=j vs (a8 hg h1);rw[g]at b;cases b;have c:=s ws (a8 hg h2);rw[a]at c;cases c;refine⟨upd G1 p (.tup [v,w]),Step.new hg h,?_⟩;have f:Same G1 (upd G1 p (.tup [v,w])):=Same.upd_new (hg.free h);unfold Rep;exact⟨p,[v,w],rfl,SqT.of aD,aK.cons (q1.mono f) (aK.cons (o.mono f) aK.nil)⟩
def CD{t t2}{G1 H1:Hp}{l m}{vs ws}{ds es:L1 D}(h1:SqA t X.K H1 l vs)(n1:vs.length=ds.length)(h2:SqA t2 X.K H1 m ws)(n2:ws.length=es.length):(Gr t t2 X.K l m).stop ((ds.zip es).map λp=>D.tup [p.1,p.2]).length H1:=by
 refine⟨vs,ws,h1,h2,?_⟩;simp only[aq,kn]
 lia
def Ki{kt}(hg:L2.Gl X "zip")(hm:X.mg "zip"=qb)(ha:ME X ad a f)(hb:ME X ad b g)(he:starEach [a,b] X.env=(qe,eval a X.env)::starEach [b] X.env)(he2:starEach [b] X.env=(qe,eval b X.env)::starEach [] X.env):
  MI X ad (.Tuple es kt tp) (.Call (.Name "zip" p) [a,b] [] pos) (qR f g):=by
 rintro Z s w H W I ⟨G,ρ,E,hG,M,N,hr⟩;refine Kh (ta:=sY (tE X ad f) (sY (tE X ad g) IF)) hg hm (bI ha (bI hb cW he2) he) he he2 Z s w H W I ?_;show tE X ad f w H λv L=>tE X ad g w L λB H2=>∃t q l m xs ys,[v,B]=[.ref l,.ref m]/\SqA t X.K H2 l xs/\SqA q X.K H2 m ys/\(xs.length<=sizeLine->W (Gr t q X.K l m) H2);refine tQ hG M N hr λv d G1 L J r k=>?_;refine tQ J.gh (M.step J) N k λB y O H2 st2 r2 c=>?_;obtain⟨t,q,z,n,S,T,c⟩: ∃t q z n,isA t z d/\isA q n y/\IK X ad O H2 (.ok (.lst ((z.zip n).map λp=>D.tup [p.1,p.2]))) W E:=by
  cases d<;>try exact ba c
  cases y<;>try exact ba c
  exact⟨qc,qc,_,_,rfl,rfl,c⟩;exact⟨qc,qe,_,_,rfl,rfl,c⟩;cases y<;>try exact ba c
  exact⟨qe,qc,_,_,rfl,rfl,c⟩;exact⟨qe,qe,_,_,rfl,rfl,c⟩
 obtain⟨al,e,hw⟩:=c;cases e;obtain⟨l,vs,rfl,q1,U⟩:=oQ S r;obtain⟨m,Y,rfl,u,Q⟩:=oQ T r2;have o:=a8 st2.sg q1;have j:=U.mono st2.sg;refine⟨t,q,l,m,vs,Y,rfl,a8 st2.gh o,a8 st2.gh u,λab=>hw _ O H2 (Step.refl st2.gh) ⟨λi C A d' h e=>?_,λC A h=>CD (G1:=C) (a8 h.sh (a8 st2.gh o)) j.length (a8 h.sh (a8 st2.gh u)) Q.length,?_⟩⟩;exact CC (H2:=A) (x:=.ref l) (a8 h.sg o) (j.mono h.sg) (a8 h.sg u) (Q.mono h.sg) h.gh e;have:=j.length;simp only[aq,kn];lia
end
section
open AutoSeq1 (wpAny_loadPart')
open MeetsSeq MeetsSeq2 MeetsSeq3 SeqRoads2 SeqAt
end
section
variable{X:Cx}{ad:Ad}
def aK.rev(r:aK X.K ad G ds vs):aK X.K ad G ds.reverse vs.reverse:=by
 induction ds generalizing vs with
 |nil=>cases vs with
  |nil=>exact r
  |cons v vs=>exact absurd r.length (by simp)
 |cons d ds c=>
  rcases vs with _|⟨v,vs⟩;exact absurd r.length (by simp);obtain⟨w,f,e,b,a⟩:=r;cases e;rw[ja,ja];exact(c a).append (aK.cons b aK.nil)
def Kj(ha:MLk X ad a f):ME X ad (.Subscript a (.Slice qb qb (pi (.UnaryOp .USub (.Constant (.int 1) j p4) p3)) p2) pos) (JA f):=by
 refine λJ s A H Q I h9=>h9.el λG B E hG L M hr=>?_;refine Subscript_ (L2.thn (ha J s A H G B Jz Q E I hG L M hr) λv s1 c=>?_);obtain⟨x,e,G1,H1,I1,r1,st1,q1,Y⟩:=c;refine wpAny_Slice ?_;rw[evalPart_none];refine ac (ac ?_);rw[evalPart_some];have u:RK X.K ad G1 H1 ((BN (rK (.int 1)) B).bind λy=>match y with|.int i=>if i= -1 then Jz e else .bad|_=>.bad) Q E:=Y;refine L2.thn (ME.thn (Ei (gX (d:=.int 1) rfl)) I1 st1.gh (L.step st1) M u) λvk h c=>?_;obtain⟨y,Z,O,n,W,r2,st2,z,p⟩:=c;cases Z<;>try exact ba p
 rename_i i;by_cases S:i= -1
 .subst S;have m:RK X.K ad O n (Jz e) Q E:=p;unfold Rep at z;subst z;obtain⟨t,rfl⟩:=r2;have w:Inv X J A n {h with heap:=h.heap.push {cls:=.type "slice",data:=.fields #[.none,.none,.int (-1) t]} }:=W.kept (t':=h.toks) λb ob q=>ae _ q;obtain⟨g,hd⟩: ∃g,e= .lst g\/e= .tup g:=by cases e<;>first|exact⟨_,.inl rfl⟩|exact⟨_,.inr rfl⟩|exact ba m
  rcases hd with rfl|rfl;rotate_left
  .exact ba m
  obtain⟨l,xs,rfl,hq,rq⟩:=Af st2.gh (Seq.step q1 st2);cases (show v=pf l from r1);obtain⟨U,r,N,hz⟩:=w.list hq;have C:=r.length;refine tail_any (T:="list") N.isList.typeIs list_getitem_lookup ?_ (by with_unfolding_all rfl);refine wpAny_getItem_list_slice N.isList (Heap.IsSliceOf.new ..) .none .none (.int (-1) t) (by decide) ?_ (by rw[ax]<;>lia);rw[krv_pick];refine⟨.ref _,_,w.laid (t':=h.toks) (o:=.lst xs.reverse) (λb ob q=>ae _ q) (aj _) ?_,rfl,RK.ow_new (xs:=g.reverse) m st2.gh rq.rev (w.hok.fresh (aj _))⟩;exact⟨by simpa using hz,_,0,r.reverse,af _ rfl⟩
 .have:RK X.K ad O n (if i= -1 then Jz e else .bad) Q E:=p;rw[if_neg S]at this;exact this.elim
end
abbrev lX(h:Heap)(z TI TO T:Addr)(f:Bool):Prop:=h.get? z=pi {cls:=.type "zip",dict:=qb,data:=.fields #[rawInt T,.bool f,.bool qe,.ref TI,.ref TO],slots:= #[]}
section
variable{Ex:ce}
def Kk(ho:s.heap.get? a=pi o)(h:Q (pi o) s):wpAny (model prog w) A (loadIfAlive a) Q Ex s:=by
 have b:Q (s.heap.get? a) s:=by rw[ho];exact h
 exact λ_ _ _=>b
def Kl{z TI TO T}(hz:lX s.heap z TI TO T f)(hT:s.heap.get? T=pi o)(hQ: ∀h',lX h' z TI TO T qc->mz z s.heap h'->Q qe {s with heap:=h'}):
  wpAny (model prog w) A (di (.ref z)) Q Ex s:=by
 unfold di;refine aa (wpAny_field hz rfl (x:=rawInt T) rfl ?_);show wpAny _ _ (loadIfAlive ((T:Int).toNat) >>= _) _ _ _;rw[jh];refine aa (Kk hT ?_);simp only[Option.isNone_some,az,if_false];refine aa (wpAny_field hz rfl (x:=.bool f) rfl ?_);rcases f with _|_;rw[if_pos (show(ou qe != ou qc)=qc from rfl)];refine aa (wpAny_setField_rec hz (by simp) λc b a=>?_);exact ac (hQ c b a);rw[if_neg (show ¬((ou qc != ou qc)=qc) from bf)];exact ac (hQ s.heap hz (mz.refl _ _))
def Ai{z TI TO i1 i2 l1 l2 T}(D:ZipApart z TI TO i1 i2 l1 l2)(hz:lX s.heap z TI TO T f)(hT:s.heap.get? T=pi o)(hTI:IsPair s.heap TI (.ref i1) (.ref i2))(h1:ItA t s.heap i1 l1 k1)(h2:ItA t2 s.heap i2 l2 k2)(hl1:SeA t s.heap l1 xs)(hl2:SeA t2 s.heap l2 ys)(hx:xs[k1]? =pi x)(hy:ys[k2]? =pi y)(hQ: ∀h',lX h' z TI TO T qc->ItA t h' i1 l1 (k1+1)->ItA t2 h' i2 l2 (k2+1)->IsPair h' s.z x y->h'.objs.size=s.z+1->
   (∀c o,c≠z->c≠i1->c≠i2->s.heap.get? c=pi o->h'.get? c=pi o)->Q (pi (.ref s.z)) {s with heap:=h'}):wpAny (model prog w) A (pyNext (.ref z)) Q Ex s:=by
 have j:s.TypeIs (.ref z) "zip":=⟨_,hz,rfl⟩;have a: ∀{t:Bool} {h h':Heap} {it l:Addr} {k:Nat} {c:Addr},ItA t h it l k->mz c h h'->it≠c->ItA t h' it l k:=λq u v=>cD q λo e=>(u.2 _ v).trans e;have b: ∀{t:Bool} {h h':Heap} {l:Addr} {it:Array Value} {c:Addr},SeA t h l it->mz c h h'->l≠c->SeA t h' l it:=λq u v=>oO q λo e=>(u.2 _ v).trans e;unfold pyNext;refine aa (wpAny_attempt (wpAny_callSpecial?_slot (name:=nu "__next__") j km (wpAny_call_entry km j jr ?_ (ji _))));show wpAny _ _ (field (.ref z) 2 >>= _) _ _ _;refine aa (wpAny_field hz rfl (x:=.bool qe) rfl ?_);show wpAny _ _ (field (.ref z) 3 >>= _) _ _ _;refine aa (wpAny_field hz rfl (x:=.ref TI) rfl (aa (wpAny_seqItems hTI rfl ?_)));show wpAny _ _ (di (.ref z) >>= _) _ _ _;refine aa (Kl hz hT λJ C d=>?_);simp only[az,if_false];refine aa ?_;simp only[Array.forIn_toList,List.forIn_toArray,kl,k7];refine aa (aa (wpAny_holding ?_));show wpAny _ _ (dw (.ref i1) >>= _) _ _ _;refine aa (eR (a h1 d D.i1z) (b hl1 d D.l1z) hx λI G i=>ac ?_);refine ac (aa (aa (wpAny_holding ?_)));show wpAny _ _ (dw (.ref i2) >>= _) _ _ _;refine aa (eR (a (a h2 d D.i2z) i D.i12.symm) (b (b hl2 d D.l2z) i D.l2i1) hy λg H m=>ac ?_);refine ac (ac (aa (wpAny_newTuple (hsz:=by rw[sizeLine_eq];simp) ?_)));have hsz:g.objs.size=s.z:=by rw[m.1,i.1,d.1]
 have E:lX g z TI TO T qc:=(m.2 _ D.i2z.symm).trans ((i.2 _ D.i1z.symm).trans C);have B: ∀c o,c≠z->c≠i1->c≠i2->s.heap.get? c=pi o->g.get? c=pi o:=λc o n r p e=>(m.2 _ p).trans ((i.2 _ r).trans ((d.2 _ n).trans e));have up: ∀{c:Addr} {x':Obj},g.get? c=pi x'->(g.push {cls:=.type "tuple",data:=.seq #[x,y]}).get? c=pi x':=λe=>ae _ e;refine ac ⟨_,rfl,ac ?_⟩;show Q (pi (.ref g.objs.size)) _;rw[hsz];refine hQ _ (up E) ?_ ?_ (by rw[<-hsz];exact af _ rfl) (by rw[ai,hsz]) λc o n r p e=>up (B c o n r p e);exact cD (a G m D.i12) λo e=>up e;exact cD H λo e=>up e
def CF{z TI TO i1 i2 l1 l2 T}(hh:A.handled=qb)(D:ZipApart z TI TO i1 i2 l1 l2)(hz:lX s.heap z TI TO T f)(hT:s.heap.get? T=pi o)(hTI:IsPair s.heap TI (.ref i1) (.ref i2))(h1:ItA t s.heap i1 l1 k1)(h2:ItA t2 s.heap i2 l2 k2)(hl1:SeA t s.heap l1 xs)(hl2:SeA t2 s.heap l2 ys)(he:xs[k1]? =qb\/ys[k2]? =qb)(hQ: ∀h',(∀c o,c≠z->c≠TO->c≠i1->c≠i2->s.heap.get? c=pi o->h'.get? c=pi o)->Q qb {s with heap:=h'}):wpAny (model prog w) A (pyNext (.ref z)) Q Ex s:=by
 have j:s.TypeIs (.ref z) "zip":=⟨_,hz,rfl⟩;have a: ∀{t:Bool} {h h':Heap} {it l:Addr} {k:Nat} {c:Addr},ItA t h it l k->mz c h h'->it≠c->ItA t h' it l k:=λq u v=>cD q λo e=>(u.2 _ v).trans e;have d: ∀{t:Bool} {h h':Heap} {l:Addr} {it:Array Value} {c:Addr},SeA t h l it->mz c h h'->l≠c->SeA t h' l it:=λq u v=>oO q λo e=>(u.2 _ v).trans e;unfold pyNext;have m: ∀(h':Heap) (e:Addr),(∀c o,c≠z->c≠TO->c≠i1->c≠i2->s.heap.get? c=pi o->h'.get? c=pi o)->(∃o,h'.get? e=pi o/\o.cls= .type "StopIteration")->wpAny (model prog w) A (do if(<-isInstance (.ref e) (.type "StopIteration"))=qc then pure qb else throw (.ref e)) Q Ex {s with heap:=h'}:=λh' e G he=>by
  obtain⟨o,H,J⟩:=he;exact aa (wpAny_isInstance (T:="StopIteration") (b:=qc) ⟨o,H,J⟩ isSubtype_stop (ac (hQ _ G)))
 refine aa (wpAny_attempt (wpAny_callSpecial?_slot (name:=nu "__next__") j km (wpAny_call_entry km j jr ?_ (ji _))));show wpAny _ _ (field (.ref z) 2 >>= _) _ _ _;refine aa (wpAny_field hz rfl (x:=.bool qe) rfl ?_);show wpAny _ _ (field (.ref z) 3 >>= _) _ _ _;refine aa (wpAny_field hz rfl (x:=.ref TI) rfl (aa (wpAny_seqItems hTI rfl ?_)));show wpAny _ _ (di (.ref z) >>= _) _ _ _;refine aa (Kl hz hT λM L g=>?_);simp only[az,if_false];refine aa ?_;simp only[Array.forIn_toList,List.forIn_toArray,kl,k7];refine aa (aa (wpAny_holding ?_));show wpAny _ _ (dw (.ref i1) >>= _) _ _ _;rcases r:xs[k1]? with _|x;refine aa (iY hh (a h1 g D.i1z) (d hl1 g D.l1z) r λy e i he=>?_);exact m y e (λc o n _ p _ x=>i _ _ p ((g.2 _ n).trans x)) he;have B:ys[k2]? =qb:=he.resolve_left λh=>by rw[r]at h;cases h
 refine aa (eR (a h1 g D.i1z) (d hl1 g D.l1z) r λy N i=>ac ?_);refine ac (aa (aa (wpAny_holding ?_)));show wpAny _ _ (dw (.ref i2) >>= _) _ _ _;refine aa (iY hh (a (a h2 g D.i2z) i D.i12.symm) (d (d hl2 g D.l2z) i D.l2i1) B λC e I he=>?_);exact m C e (λc o n K p E x=>I _ _ E ((i.2 _ p).trans ((g.2 _ n).trans x))) he
end
def ZS(t t2:Bool)(z TI TO i1 i2 l m N:Addr)(i:Nat)(h:Heap):Prop:=
 (IsZip h z TI TO .none\/∃T f o,lX h z TI TO T f/\N<=T/\h.get? T=pi o)/\IsPair h TI (.ref i1) (.ref i2)/\(∃a b,IsPair h TO a b)/\ItA t h i1 l i/\ItA t2 h i2 m i
structure ZB(z TI TO i1 i2 N:Addr):Prop where
 z:z<N
 TI:TI<N
 TO:TO<N
 i1:i1<N
 i2:i2<N
section
variable{Ex:ce}{TI TO:Addr}
def ZS.keep(B:ZB z TI TO i1 i2 N)(q:ZS t t2 z TI TO i1 i2 l m N i h)(k: ∀c o,(c=z\/c=TI\/c=TO\/c=i1\/c=i2\/N<=c)->h.get? c=pi o->h'.get? c=pi o):ZS t t2 z TI TO i1 i2 l m N i h':=by obtain⟨d,q1,⟨a,b,g⟩,j,n⟩:=q;refine⟨?_,k _ _ (by simp) q1,⟨a,b,k _ _ (by simp) g⟩,cD j λo e=>k _ o (by simp) e,cD n λo e=>k _ o (by simp) e⟩;rcases d with d|⟨T,f,o,d,hN,hT⟩;exact .inl (k _ _ (by simp) d);exact .inr ⟨T,f,o,k _ _ (by simp) d,hN,k _ _ (by simp[hN]) hT⟩
def Gu(D:ZipApart z TI TO i1 i2 l m)(B:ZB z TI TO i1 i2 N)(hN:N<=s.z)(q:ZS t t2 z TI TO i1 i2 l m N i s.heap)(hl1:SeA t s.heap l xs)(hl2:SeA t2 s.heap m ys)(hx:xs[i]? =pi x)(hy:ys[i]? =pi y)(hQ: ∀h',ZS t t2 z TI TO i1 i2 l m N (i+1) h'->IsPair h' s.z x y->h'.objs.size=s.z+1->
   (∀c o,c≠z->c≠TO->c≠i1->c≠i2->s.heap.get? c=pi o->h'.get? c=pi o)->Q (pi (.ref s.z)) {s with heap:=h'}):wpAny (model prog w) A (pyNext (.ref z)) Q Ex s:=by
 refine gzq λRz ez=>?_;obtain⟨g,q1,⟨a,b,u⟩,v,C⟩:=q;subst ez;rcases g with g|⟨T,f,o,g,hT,hTo⟩;refine rO D g q1 u v C hl1 hl2 hx hy λh' r K n p h j d=>hQ h' ⟨.inr ⟨_,qe,_,r,hN,h⟩,d _ _ D.TIz D.TITO D.TIi1 D.TIi2 q1,⟨_,_,K⟩,n,p⟩ h j d;have J:=B.z;have E:=B.i1;have L:=B.i2;have O:=B.TO;refine Ai D g hTo q1 v C hl1 hl2 hx hy λh' r n p h j d=>hQ h' ⟨.inr ⟨T,qc,_,r,hT,d _ _ ?_ ?_ ?_ hTo⟩,d _ _ D.TIz D.TIi1 D.TIi2 q1,⟨_,_,d _ _ D.TOz D.TOi1 D.TOi2 u⟩,n,p⟩ h j λc o G M I H e=>d c o G I H e;exact ng (bg J hT);exact ng (bg E hT);exact ng (bg L hT)
def Km(hh:A.handled=qb)(D:ZipApart z TI TO i1 i2 l m)(q:ZS t t2 z TI TO i1 i2 l m N i s.heap)(hl1:SeA t s.heap l xs)(hl2:SeA t2 s.heap m ys)(he:xs[i]? =qb\/ys[i]? =qb)(hQ: ∀h',(∀c o,c≠z->c≠TO->c≠i1->c≠i2->s.heap.get? c=pi o->h'.get? c=pi o)->Q qb {s with heap:=h'}):wpAny (model prog w) A (pyNext (.ref z)) Q Ex s:=by obtain⟨d,q1,⟨a,b,h⟩,e,g⟩:=q;rcases d with d|⟨T,f,o,d,hT,hTo⟩;exact vO hh D d q1 h e g hl1 hl2 he hQ;exact CF hh D d hTo q1 e g hl1 hl2 he hQ
end
def Step.put(st:Step G H G' H')(n:H S=qb)(g:G' S=qb):Step G H G' (upd H' S o):=
 ⟨st.sg,λb u e=>by rw[aA (aJ e g)];exact st.gh b u e,λb u e=>by rw[aA (aJ e n)];exact st.sh b u e,st.nw⟩
section
variable{ad:Ad}{σ:L2.St}{TI TO:Addr}{R:Result->Shared->Prop}
noncomputable abbrev pD(ds es:L1 D):L1 D:=(ds.zip es).map λp=>D.tup [p.1,p.2]
def CG(hh:A.handled=qb)(D:ZipApart z TI TO i1 i2 l m)(B:ZB z TI TO i1 i2 N)(hSN:S<N)res(hq1:SqA t X.K G0 l xs)(hq2:SqA t2 X.K G0 m ys)(hr1:aK X.K ad G0 ds xs)(hr2:aK X.K ad G0 es ys)(hS0:H0 S=qb):
  ∀k i G H s acc c vs,(pD ds es).length-i=k->i<=(pD ds es).length->N<=s.z->Inv X cc σ H s->(∀b∈[z,TI,TO,i1,i2],pV X cc H b)->Step G0 H0 G H->G S=qb->H S=pi (.lst vs)->
   ZS t t2 z TI TO i1 i2 l m N i s.heap->s.heap.get? S=pi {cls:=.type "list",dict:=qb,data:=.seq acc c,slots:= #[]}->b9 vs acc.toList->aK X.K ad G ((pD ds es).take i) vs->
   (∀s' G' H' vs',Inv X cc σ H' s'->Step G0 H0 G' H'->G' S=qb->H' S=pi (.lst vs')->aK X.K ad G' (pD ds es) vs'->R (.ok (.ret res)) s')->
   codeAny (model X.prog X.w) A (.builtin "list.extend.loop" ⟨[.ref S,.ref z,res],[]⟩) R s:=by
 intro k
 induction k with
 |zero=>
  intro i G H s acc c vs hk hi j I L g gS Q Z E T J U
  have O:i=(pD ds es).length:=by lia
  refine gzq λRz ez=>?_;obtain⟨us,r1,p1,_⟩:=eI I (a8 g.gh (a8 g.sg hq1));obtain⟨ws,r2,W,_⟩:=eI I (a8 g.gh (a8 g.sg hq2));have n1:=r1.length;have n2:=r2.length;have n3:=hr1.length;have n4:=hr2.length;subst ez;refine codeAny_builtin F.entry_extend_loop ?_;rw[gi g8 _];show wpAny _ A.in1 (pyNext (.ref z) >>= _) _ _ s;refine aa (Km hh D Z p1 W ?_ λr kp=>?_)
  .simp only[pD,aq,kn]at O
   by_cases q:us.length<=i
   .exact .inl (by simpa using q)
   .exact .inr (by simp;lia)
  .have I2:Inv X cc σ H {s with heap:=r}:=gJ (t':=s.toks) I (λb o a e=>by
    simp only[av,jq,or_false,not_or]at a;exact kp b o a.1 a.2.2.1 a.2.2.2.1 a.2.2.2.2 e) L
   refine ac (U _ G H vs I2 g gS Q ?_);rw[O,List.take_length]at J;exact J
 |succ k ih=>
  intro i G H s acc c vs hk hi j I L g gS Q Z E T J U;have n:i<(pD ds es).length:=by lia
  obtain⟨us,r1,p1,z1⟩:=eI I (a8 g.gh (a8 g.sg hq1));obtain⟨ws,r2,W,_⟩:=eI I (a8 g.gh (a8 g.sg hq2));obtain⟨d1,d2,e1,Y,hd⟩:=Ah (bd n);obtain⟨x,g1,q1⟩:=hr1.get e1;obtain⟨y,g2,q2⟩:=hr2.get Y;obtain⟨u,hu,ru⟩:=r1.get g1;obtain⟨v,hw,rv⟩:=r2.get g2;have n3:=hr1.length
  have nv:vs.length=i:=by rw[J.length,List.length_take];lia
  have na:acc.size=i:=by have:=T.length;simp at this;lia
  have il:i+1<=sizeLine:=by simp only[pD,aq,kn]at n;lia
  refine codeAny_builtin F.entry_extend_loop ?_;rw[gi g8 _];show wpAny _ A.in1 (pyNext (.ref z) >>= _) _ _ s;refine aa (Gu D B j Z p1 W (x:=u) (y:=v) (by simpa using hu) (by simpa using hw) λr ak a5 a6 a7=>?_)
  have ab:H s.z=qb:=I.hok.fresh (aj _)
  have Ia:Inv X cc σ (upd H s.z (.tup [x,y])) {s with heap:=s.heap.push {cls:=.type "tuple",data:=.seq #[u,v]} }:=
   I.laid (t':=s.toks) (λb o e=>ae _ e) (aj _) (show ObjOk X.prog X.w _ _ _ (.tup [x,y]) from⟨by rw[sizeLine_eq];simp,[u,v],.cons ru (.cons rv .nil),⟨_,af _ rfl,rfl,_,rfl⟩,⟨_,af _ rfl,rfl⟩⟩)
  have bz:=B.z;have b1:=B.i1;have b2:=B.i2;have b3:=B.TO;have b4:=B.TI
  have al: ∀b∈[z,TI,TO,i1,i2],b≠s.z:=λb a=>by
   simp only[av,jq,or_false]at a;rcases a with rfl|rfl|rfl|rfl|rfl
   .exact bh (bg bz j)
   .exact bh (bg b4 j)
   .exact bh (bg b3 j)
   .exact bh (bg b1 j)
   .exact bh (bg b2 j)
  have C:S≠s.z:=bh (bg hSN j)
  have d: ∀b∈[z,TI,TO,i1,i2],b≠S:=λb a e=>by
   have:=(L b a).1
   rw[e,Q]at this;cases this
  have p: ∀b∈[z,TI,TO,i1,i2],pV X cc (upd H s.z (.tup [x,y])) b:=λb a=>⟨by rw[aA (al b a)];exact(L b a).1,(L b a).2⟩
  have Ib:Inv X cc σ (upd H s.z (.tup [x,y])) {s with heap:=r}:=by
   refine gJ (s:={s with heap:=s.heap.push {cls:=.type "tuple",data:=.seq #[u,v]} }) (t':=s.toks) Ia (λb o a e=>?_) p
   simp only[av,jq,or_false,not_or]at a
   by_cases hq:b=s.z
   .subst hq;rw[show(s.heap.push {cls:=.type "tuple",data:=.seq #[u,v]}).get? s.z=pi _ from af _ rfl]at e
    cases e;exact a5
   .have Y:s.heap.get? b=pi o:=by
     exact(jj _ b _ hq).symm.trans e
    exact a7 b o a.1 a.2.2.1 a.2.2.2.1 a.2.2.2.2 Y
  have ag:(upd H s.z (.tup [x,y])) S=pi (.lst vs):=by rw[aA C];exact Q
  have f:r.get? S=pi {cls:=.type "list",dict:=qb,data:=.seq acc c,slots:= #[]}:=a7 S _ (qa (d z (by simp))) (qa (d TO (by simp))) (qa (d i1 (by simp))) (qa (d i2 (by simp))) E
  have st1:Step G H (upd G s.z (.tup [x,y])) (upd H s.z (.tup [x,y])):=Step.new g.gh ab
  have rp:Rep X.K ad (upd G s.z (.tup [x,y])) (.tup [d1,d2]) (.ref s.z):=by
   unfold Rep;exact⟨_,[x,y],rfl,SqT.of aD,aK.cons (q1.mono (g.sg.trans st1.sg)) (aK.cons (q2.mono (g.sg.trans st1.sg)) aK.nil)⟩
  have M:(upd G s.z (.tup [x,y])) S=qb:=by rw[aA C];exact gS
  show wpAny _ A.in1 (updateSeq S (·.push (.ref s.z)) >>= _) _ _ _
  refine aa ?_
  have yB:b9 (vs++[.ref s.z]) (acc.push (.ref s.z)).toList:=by
   rw[Array.toList_push];exact T.append (.cons rfl .nil)
  refine wpAny_updateSeq f rfl (ac ⟨plainId_quiet g8 _,ih (i+1) (upd G s.z (.tup [x,y])) (upd (upd H s.z (.tup [x,y])) S (.lst (vs++[.ref s.z]))) _ (acc.push (.ref s.z)) _ (vs++[.ref s.z]) (by lia) n ?_ ?_ ?_ ((g.trans st1).put hS0 M) M aD (ZS.keep B ak λc o h e=>?_) (fw _ f rfl) yB ?_ U⟩)
   (by rw[na];lia) (by show(acc.push _).size<=sizeLine+1;rw[Array.size_push,na];lia)
  .show N<=(r.update S _).objs.size;rw[jt,a6];exact Nat.le_succ_of_le j
  .refine Inv.write (t':=s.toks) Ib (x:=S) (e:=S) (by rw[ag];trivial) (.inl rfl) (λb o a e=>(fg _ _ (qa a)).trans e) ⟨_,fw _ f rfl⟩ ?_
   exact show ObjOk X.prog X.w _ _ _ (.lst _) from⟨by simp;lia,(acc.push (.ref s.z)).toList,_,yB,by rw[Array.toArray_toList];exact fw (oz (·.push (.ref s.z))) f rfl⟩
  .intro b a;refine⟨?_,(p b a).2⟩;rw[aA (d b a)];exact(p b a).1
  .refine(fg _ _ (λq:S=c=>?_)).trans e
   subst q;rcases h with h|h|h|h|h|h
   .exact d z (by simp) h.symm
   .exact d TI (by simp) h.symm
   .exact d TO (by simp) h.symm
   .exact d i1 (by simp) h.symm
   .exact d i2 (by simp) h.symm
   .exact absurd hSN (o0.mpr h)
  .rw[List.take_succ,bd n,hd];exact(J.mono st1.sg).append (aK.cons rp aK.nil)
end
def w9:typeLookup (.type "zip") "__len__"=pure qb:=by rw[typeLookup_type,builtinLookup_eq_fast];kernel_rfl
def tY:typeLookup (.type "zip") "__length_hint__"=pure qb:=by rw[typeLookup_type,builtinLookup_eq_fast];kernel_rfl
section
variable{R:Result->Shared->Prop}
noncomputable def Gv{z TI TO S}(hz:IsZip s.heap z TI TO .none)(hS:s.heap.get? S=pi {cls:=.type "list",data:=.seq #[] c₀})(hL: ∀h' c,(∀b o,b≠S->s.heap.get? b=pi o->h'.get? b=pi o)->h'.objs.size=s.z->h'.get? S=pi {cls:=.type "list",dict:=qb,data:=.seq #[] c,slots:= #[]}->codeAny (model prog w) A (.builtin "list.extend.loop" ⟨[.ref S,.ref z,res],[]⟩) R {s with heap:=h'}):
  wpAny (model prog w) A.in1 (dq (.ref S) (.ref z) res)
   (λfin s'=>match fin with|.done f=>R (.ok f) s'|.again c'=>c'.quiet=qc/\codeAny (model prog w) A c' R s') (λe s'=>R (.error e) s') s:=by
 have g:S≠z:=λe=>by rw[e,hz]at hS;simp at hS
 have h:s.TypeIs (.ref z) "zip":=⟨_,hz,rfl⟩;unfold dq;refine aa (wpAny_typeOf h ?_);have n:Builtin.List.listSameRef (.ref S) (.ref z)=qe:=by simp[Builtin.List.listSameRef,g]
 have m:(ox "zip"==ox "list")=qe:=by decide
 have l:(ox "zip"==ox "tuple")=qe:=by decide
 simp only[n,m,l,Bool.or_false,az,if_false];refine aa (wpAny_pyIter_zip hz ?_);refine aa (wpAny_holding ?_);unfold Builtin.List.listLengthHint;refine aa (wpAny_specialOf h w9 ?_);show wpAny _ A.in1 (specialOf (pf z) (nu "__length_hint__") >>= _) _ _ _;refine aa (wpAny_specialOf h tY ?_);refine ac ?_;show wpAny _ A.in1 (rule "list.extend.makes-room" >>= λ_=>Builtin.List.listTouch (.ref S) >>= λ_=>
  again (.builtin "list.extend.loop" ⟨[.ref S,.ref z,res],[]⟩)) _ _ _
 refine aa (wpAny_rule ?_);refine aa ?_;show wpAny _ A.in1 (updateSeq S (·.push .none) >>= λ_=>updateSeq S (·.pop)) _ _ _;refine aa (wpAny_updateSeq hS rfl ?_);have a:=fw (oz (·.push oq)) hS rfl;refine wpAny_updateSeq (hz:=by seq_fits) a rfl ?_;have d:=fw (oz (·.pop)) a rfl;have i: ∀b o,b≠S->s.heap.get? b=pi o->((s.heap.update S (oz (·.push oq))).update S (oz (·.pop))).get? b=pi o:=
  λb o j e=>(fg _ _ (qa j)).trans ((fg _ _ (qa j)).trans e)
 exact ac ⟨plainId_quiet g8 _,hL _ _ i (by rw[jt,jt]) d⟩
def CH{z TI TO S}(hz:IsZip s.heap z TI TO .none)(hS:s.heap.get? S=pi {cls:=.type "list",data:=.seq #[]})(hL: ∀h' c,(∀b o,b≠S->s.heap.get? b=pi o->h'.get? b=pi o)->h'.objs.size=s.z->h'.get? S=pi {cls:=.type "list",dict:=qb,data:=.seq #[] c,slots:= #[]}->codeAny (model prog w) A (.builtin "list.extend.loop" ⟨[.ref S,.ref z,.none],[]⟩) R {s with heap:=h'}):
  wpAny (model prog w) A.in1 (Builtin.«list.__init__» ⟨[.ref S,.ref z],[]⟩)
   (λfin s'=>match fin with|.done f=>R (.ok f) s'|.again c'=>c'.quiet=qc/\codeAny (model prog w) A c' R s') (λe s'=>R (.error e) s') s:=by
 have h:S≠z:=λe=>by rw[e,hz]at hS;simp at hS
 show wpAny _ _ (do let old<-Builtin.List.listItems (.ref S);Builtin.List.listUpdate (.ref S) (λ_=> #[]);letGo old.toList.reverse;dq (.ref S) (.ref z) .none) _ _ s;refine aa ?_;unfold Builtin.List.listItems;refine aa (wpAny_seqItems hS rfl (ac ?_));show wpAny _ _ (updateSeq S (λ_=> #[]) >>= λ_=>letGo (#[]:Array Value).toList.reverse >>= λ_=>dq (.ref S) (.ref z) .none) _ _ s;refine aa (wpAny_updateSeq hS rfl ?_);have a:=fw (oz (λ_=>(#[]:Array Value))) hS rfl;have d: ∀b o,b≠S->s.heap.get? b=pi o->(s.heap.update S (oz (λ_=>(#[]:Array Value)))).get? b=pi o:=
  λb o g e=>(fg _ _ (qa g)).trans e
 refine aa (wpAny_letGo ?_);refine Gv (d z _ (qa h) hz) a λh' c hk j i=>?_;exact hL h' c (λb o g e=>hk b o g (d b o g e)) (by rw[j];exact jt ..) i
end
section
variable{ad:Ad}{σ:St}
def oR(hc:X.calm=qc)(I:Inv X cc σ H s)(hG:Same G H)(hq1:SqA t X.K G l xs)(hq2:SqA t2 X.K G m ys)(hr1:aK X.K ad G ds xs)(hr2:aK X.K ad G es ys)(k:RK X.K ad G H (.ow (pD ds es)) Q E):
  X.wp (call (.type "zip") [.ref l,.ref m]) (λv s1=>X.wp (call (.type "list") [v]) (EP X cc σ Q) X.xe s1) X.xe s:=by
 obtain⟨us,_,C,_⟩:=eI I (a8 hG hq1);obtain⟨ws,_,M,_⟩:=eI I (a8 hG hq2);refine rP C M λa J Y U a4 a5 g a7=>?_;have l1:l<s.heap.objs.size:=by cases t<;>(obtain⟨o,e,_⟩:=C;exact ah e)
 have Z:m<s.heap.objs.size:=by cases t2<;>(obtain⟨o,e,_⟩:=M;exact ah e)
 refine callType_codes (Q₁:=λn d=>n= .ref a.objs.size/\d={s with heap:=a.push {cls:=.type "list",data:=.seq #[]} }) F.called_list (F.typeCall_list_1 _) F.entry_list_init
  (code_list_new _ ⟨rfl,rfl⟩) λn d j=>?_
 obtain⟨rfl,rfl⟩:=j;have O:(a.push {cls:=.type "list",data:=.seq #[]}).get? a.objs.size=pi {cls:=.type "list",data:=.seq #[]}:=af _ rfl;have u:IsZip (a.push {cls:=.type "list",data:=.seq #[]}) _ _ _ .none:=ae _ J;refine⟨⟨_,O,rfl⟩,F.args_list_init_2 _ _,CH (A:=X.A.in1) u O λh c hk hn p=>?_⟩;have ge: ∀b,s.heap.objs.size<=b->pV X cc H b:=λb i=>I.fpOk i (I.hok.fresh i);have q:H a.objs.size=qb:=I.hok.fresh (by rw[g];exact js _ _);have up: ∀b o,a.get? b=pi o->h.get? b=pi o:=λb o e=>hk b o (bh (ah e)) (ae _ e);have T:Inv X cc σ (upd H a.objs.size (.lst [])) {s with heap:=h}:=
  I.laid (t':=s.toks) (λb o e=>up b o (a7 b o e)) (by rw[g];exact js _ _) (show ObjOk X.prog X.w _ h _ (.lst []) from⟨by simp,[],c,.nil,p⟩)
 have x:h.objs.size=s.heap.objs.size+6:=by rw[hn];show(a.push _).objs.size=_;rw[ai,g]
 refine CG (A:=X.A.in1) (ad:=ad) (G0:=G) (H0:=H) (N:=s.heap.objs.size+6) (I.ok.hd hc) (rN l1 Z) ⟨?_,?_,?_,?_,?_⟩ ?_ .none hq1 hq2 hr1 hr2 q _ 0 G _ {s with heap:=h} #[] c [] rfl (bu _) (Nat.le_of_eq x.symm) T (λb i=>?_) (Step.own hG q) (hG.free q) aD
  ⟨.inl (up _ _ J),up _ _ Y,⟨_,_,up _ _ U⟩,cD a4 λo e=>up _ o e,cD a5 λo e=>up _ o e⟩ p .nil aK.nil λs' S L r W y z B r'=>?_
 exact h8 (by decide) _;exact h8 (by decide) _;exact h8 (by decide) _;exact Nat.lt_add_of_pos_right (by decide);exact h8 (by decide) _;rw[g];exact h8 (by decide) _;have f:s.heap.objs.size<=b/\b≠s.heap.objs.size+5:=by
  simp only[av,jq,or_false]at i;rcases i with rfl|rfl|rfl|rfl|rfl<;>exact⟨by simp,by simp⟩
 exact⟨by rw[aA (by rw[g];exact f.2)];exact(ge b f.1).1,(ge b f.1).2⟩;exact⟨rfl,.ref a.objs.size,L,W,rfl,k _ r S L y q z B r'⟩
def zl:D->D->R
 |.tup xs,.tup ys=>.ow (pD xs ys)
 |.lst xs,.lst ys=>.ow (pD xs ys)
 |.lst xs,.tup ys=>.ow (pD xs ys)
 |.tup xs,.lst ys=>.ow (pD xs ys)
 |_,_=>.bad
def Gw:aH wX [qR f g] ρ=(f ρ).bind λx=>(g ρ).bind λy=>zl x y:=by
 unfold aH mO args args qR;cases f ρ with
 |ok x=>
  cases g ρ with
  |ok y=>cases x<;>cases y<;>rfl
  |ow a=>cases x<;>rfl
  |ex c=>rfl
  |bad=>rfl
 |ow b=>
  cases g ρ with
  |ok y=>cases y<;>rfl
  |ow a=>rfl
  |ex c=>rfl
  |bad=>rfl
 |ex c=>rfl
 |bad=>rfl
def tZ(hg:L2.Gl X "zip")(hm:X.mg "zip"=qb)(hgl:L2.Gl X "list")(hml:X.mg "list"=qb)(hc:X.calm=qc)(ha:ME X ad a f)(hb:ME X ad b g)(he:starEach [a,b] X.env=(qe,eval a X.env)::starEach [b] X.env)(he2:starEach [b] X.env=(qe,eval b X.env)::starEach [] X.env):
  ME X ad (.Call (.Name "list" p) [.Call (.Name "zip" p2) [a,b] [] pos2] [] pos) (aH wX [qR f g]):=by
 refine λcc s σ H Q I W=>W.el λG ρ E hG w x z=>?_;rw[Gw]at z;refine Call_ (f9 (u:=.type "list") I hgl hml (by decide+kernel) (dm ?_ rfl rfl) (by decide) (by decide));refine ii ?_;refine Call_ (f9 (u:=.type "zip") I hg hm (by decide+kernel) (dm ?_ he (by rw[he2];rfl)) (by decide) (by decide));rw[he];refine ii (L2.thn (ha.thn I hG w x z) λu s1 n=>?_);obtain⟨v,d,G1,H1,U,r1,r,q,N⟩:=n;rw[he2];refine ii (L2.thn (hb.thn U r.gh (w.step r) x N) λZ s2 ⟨v2,h,Y,O,M,S,st2,A,c⟩=>i4 ?_);obtain⟨t,y,j,i,B,L,J⟩: ∃t y j i,isA t j d/\isA y i h/\RK X.K ad Y O (.ow (pD j i)) Q E:=by
  cases d<;>try exact ba c
  cases h<;>try exact ba c
  exact⟨qc,qc,_,_,rfl,rfl,c⟩;exact⟨qc,qe,_,_,rfl,rfl,c⟩;cases h<;>try exact ba c
  exact⟨qe,qc,_,_,rfl,rfl,c⟩;exact⟨qe,qe,_,_,rfl,rfl,c⟩
 obtain⟨l,xs,rfl,e,w1⟩:=oQ B (q.mono st2.sg);obtain⟨m,ys,rfl,o,C⟩:=oQ L A;cases (show u=pf l from r1);cases (show Z=pf m from S);exact L2.thn (oR hc M st2.gh e o w1 C J) λv s3 T=>i4 T
end
theorem vP{α β:Type}{f g:α->L7 β}: ∀{l:L1 α},(∀x∈l,f x=g x)->l.filterMap f=l.filterMap g
 |[],_=>rfl
 |a::l,h=>by rw[gj,gj,h a (.head _),vP λx b=>h x (.tail _ b)]
section
variable{X:Cx}{ad:Ad}{cc:cf}{s:Shared}{σ:St}{H G:Hp}{ρ:Rho}{E:St->Nat->Hp->Prop}{pos:Pos}
def Nf:V->V->V->Hp->(Hp->Prop)->Prop:=λo i v H Q=>Ju o i v H Q\/∃a x es,o= .ref a/\i= .str x/\H a=pi (.dK es)/\es.length<sizeLine/\Q (upd H a (.dK (L2.putK es (.inr x) v)))
def CI(hu:X.A.units+62<cLine):Mt X Nf:=λj s f H o i v c iv u Q I e d b h=>by
 rcases h with h|⟨a,x,es,rfl,rfl,ha,hl,q⟩;exact B5 j s f H o i v c iv u Q I e d b h;cases (show c=pf a from e);exact q9 (by lia) I (IL.k (k:=.inr x) ha hl) d b λl g=>⟨_,g,q⟩
def Kn{K}(h:HR K ad G held kvs)x:(kvs.any λq=>decide (q.1=(pu x:L2.Key)))=held.any λp=>decide (p.1=x):=by
 induction h with
 |nil=>rfl
 |@cons p q d c a t b=>
  rw[lr,lr,b];have e:decide (q.1=(pu x:L2.Key))=decide (p.1=x):=by
   rw[a.1];by_cases z:p.1=x;rw[z];simp;simp[z]
  rw[e]
def Aj{K}(h:HR K ad G held kvs)(rv:Rep K ad G y v)x:HR K ad G (fJ held x y) (L2.putK kvs (pu x) v):=by
 unfold fJ L2.putK;rw[Kn h x];by_cases b:(held.any λp=>decide (p.1=x))=qc;rw[if_pos b,if_pos b];clear b;induction h with
 |nil=>exact .nil
 |@cons p q f e a t c=>
  rw[lm,lm];refine .cons ?_ c;by_cases z:p.1=x;have d:q.1=(pu x:L2.Key):=by rw[a.1,z]
  rw[if_pos z,if_pos d];exact⟨a.1,rv⟩;have d: ¬q.1=(pu x:L2.Key):=λy=>z (by rw[a.1]at y;exact n7 y);rw[if_neg z,if_neg d];exact a
 rw[if_neg b,if_neg b];clear b;induction h with
 |nil=>exact .cons ⟨rfl,rv⟩ .nil
 |cons a t c=>exact .cons a c
def Ko(hu:X.A.units+62<cLine)(hN:X.N[i]? =pi x)(hv:Vis X.env.scope x)(hd:(x==("__debug__":Str))=qe)(hcd:(x==("__classdict__":Str))=qe)(he:ME X ad e f)(hk:ME X ad kx fk)(ha: ∀v,assign (.Subscript (.Name x p) kx tp) X.env v=(do
   let ov<-holding [v] (eval (.Name x p) X.env);let iv<-holding [v,ov] (eval kx X.env);standAt tp;holding [v,ov,iv] (setItem ov iv v);release [v,ov,iv] []))(hs:swapsWithSole [.Subscript (.Name x p) kx tp] e pos.line X.env=pure qe)(hw:swappedStores [.Subscript (.Name x p) kx tp] e X.env=pure qb):
  MS X ad Z (.Assign [.Subscript (.Name x p) kx tp] e pos) (xU i fk f):=by
 refine PS.imp (D1 he (Jg (bO hN hv hd hcd) hk (CI hu) ha) hs hw rfl) ?_;rintro D' T H ⟨g,G,C,E,S,K,hr⟩;unfold xU at hr;refine gI S K hr λv d G1 H1 l r k=>?_;rcases q:C[i]? with _|sl;rw[q]at k;exact k.elim;rw[q]at k;cases sl with
 |no=>exact k.elim
 |sh d=>exact k.elim
 |sd d=>exact k.elim
 |rk _ _=>exact k.elim
 |ow I=>
  obtain⟨a,vs,n,W,Y,M⟩:=(S.step l).sl.ow q;refine⟨.ref a,n,?_⟩;refine gI (S.step l) K k λv2 y L H2 st2 o s=>?_;obtain⟨g2,h⟩:=iW st2 W Y;cases y<;>try exact ba s
  rename_i j;unfold Rep at o;subst o;have b:OKo X ad g (match ixD I.length j with|some m=>.nx (C.set i (.ow (I.set m d)))|none=>.rt .bad) D' E:=s;rcases B:ixD I.length j with _|m;rw[B]at b;exact b.elim;rw[B]at b;have r4:=M.mono st2.sg;refine .inl ⟨a,vs,j,m,rfl,rfl,h,by rw[M.length, <-Es];exact B,?_⟩;exact b T L _ (((S.step l).step st2).upd q n g2 (aK.set (r.mono st2.sg) m r4))
 |dc c=>
  obtain⟨a,es,n,W,Y,M,h5⟩:=(S.step l).sl.dc q;refine⟨.ref a,n,?_⟩;refine gI (S.step l) K k λv2 y L H2 st2 o s=>?_;have U:=(S.step l).step st2;obtain⟨O,w,t,h,J,u,ab⟩:=U.sl.dc q;have ea:O=a:=by rw[n]at t;cases t;rfl
  subst ea;cases y<;>try exact ba s
  rename_i z;have b:OKo X ad g (if c.length<LIM then .nx (C.set i (.dc (fJ c z d)))else .rt .bad) D' E:=s;by_cases Q:c.length<LIM;rw[if_pos Q]at b;unfold Rep at o;subst o;have hl:w.length=c.length:=(li u).symm;refine .inr ⟨O,z,w,rfl,rfl,J,by rw[hl];exact bg Q (by decide),?_⟩;exact b T L _ (U.updG q rfl n ⟨O,_,rfl,h,aD,Aj u (r.mono st2.sg) z,trivial⟩);rw[if_neg Q]at b;exact b.elim
def RK.bool_share{E}(hb:(∃b,r= .ok (.bl b))\/r= .bad)(g:G a=qb)(k:RK X.K ad G H r Q E):RK X.K ad (upd G a (.lst vs)) H r Q E:=by
 rcases hb with ⟨b,rfl⟩|rfl;intro v h n f q;have m:v= .bl b:=by unfold Rep at q;exact q
 subst m;refine k (.bl b) (λc=>if c=a then qb else h c) n ⟨λc u e=>?_,λc u e=>?_,f.sh,λc l j=>?_⟩ cS;have i:c≠a:=aJ e g;show(if c=a then qb else h c)=pi u;rw[if_neg i];exact f.sg c u (by rw[aA i];exact e);have d:(if c=a then qb else h c)=pi u:=e;by_cases z:c=a;rw[if_pos z]at d;cases d;rw[if_neg z]at d;exact f.gh c u d;have d:(if c=a then qb else h c)≠qb:=j;by_cases z:c=a;rw[if_pos z]at d;exact absurd rfl d;rw[if_neg z]at d;exact f.nw c (by rw[aA z];exact l) d;exact k
def Gx{E}(hu:X.A.units+62<cLine)(I:Inv X cc σ H s)(hG:Same G H)(qx:Seq X ad G H x v)(qy:Seq X ad G H y w)(ru:bJ v u)(rz:bJ w z)(k:RK X.K ad G H (dR op x y) Q E):X.wp (compareOp op u z) (EP X cc σ Q) X.xe s:=by
 have j:=zC (op:=op) (x:=x) (y:=y)
 have sh: ∀{G:Hp} {a:Addr} {vs:L1 V} {ds:L1 D},Same G H->H a=pi (.lst vs)->aK X.K ad G ds vs->Same (upd G a (.lst vs)) H/\Rep X.K ad (upd G a (.lst vs)) (.lst ds) (.ref a):=λ{G a vs ds} hG h2 h3=>by
  have m:G a=qb\/G a=pi (.lst vs):=by
   cases q:G a with
   |none=>exact .inl rfl
   |some o=>rw[hG a o q]at h2;exact .inr h2
  have n:Same G (upd G a (.lst vs)):=λb o e=>by
   by_cases d:b=a
   .subst d;rcases m with q|q
    .rw[q]at e;cases e
    .rw[aD, <-q];exact e
   .rw[aA d];exact e
  refine⟨λb o e=>?_,?_⟩
  .by_cases d:b=a
   .subst d;rw[aD]at e;cases e;exact h2
   .rw[aA d]at e;exact hG b o e
  .unfold Rep;exact⟨a,vs,rfl,SqL.of aD,h3.mono n⟩
 have f: ∀{G:Hp} {a:Addr} {vs:L1 V},G a=qb->Same G (upd G a (.lst vs)):=λg=>Same.upd_new g
 have c: ∀{G:Hp},Same G H->Rep X.K ad G x v->Seq X ad G H y w->RK X.K ad G H (dR op x y) Q E->X.wp (compareOp op u z) (EP X cc σ Q) X.xe s:=λ{G} hG rx qy k=>by
  rcases qy with ry|⟨a,vs,ds,rfl,rfl,g1,h2,h3⟩
  .exact gH op hu cc s σ H G x y v w u z Q E I hG rx ry ru rz k
  .obtain⟨h,i⟩:=sh hG h2 h3;exact gH op hu cc s σ H _ x _ v _ u z Q E I h (rx.mono (f g1)) i ru rz (k.bool_share j g1)
 rcases qx with rx|⟨a,vs,ds,rfl,rfl,g1,h2,h3⟩
 .exact c hG rx qy k
 .obtain⟨h,i⟩:=sh hG h2 h3;refine c h i ?_ (k.bool_share j g1);rcases qy with ry|⟨a',vs',ds',rfl,rfl,g1',h2',h3'⟩
  .exact .inl (ry.mono (f g1))
  .by_cases l:a'=a
   .subst l;rw[h2]at h2';cases h2';refine .inl ?_;unfold Rep;exact⟨a',vs,rfl,SqL.of aD,h3'.mono (f g1)⟩
   .exact .inr ⟨a',vs',ds',rfl,rfl,by rw[aA l];exact g1',h2',h3'.mono (f g1)⟩
def Ak{E}(hu:X.A.units+62<cLine)(ha:MLk X ad a f)(hb:MLk X ad b g)(I:Inv X cc σ H s)(hG:Same G H)(hS:SL X.K ad G H ρ σ)(hx:XP X ad σ E)(hr:RK X.K ad G H (bH op f g ρ) Q E):
  X.wp (eval a X.env) (λu s1=>X.wp (eval b X.env) (λz s2=>X.wp (compareOp op u z) (EP X cc σ Q) X.xe s2) X.xe s1) X.xe s:=by
 refine L2.thn (ha cc s σ H G ρ (λx=>(g ρ).bind λy=>dR op x y) Q E I hG hS hx hr) λu s1 c=>?_;refine gzq λRz ez=>?_;obtain⟨v,q,o,p,j,m,st1,q1,n⟩:=c;subst ez;refine L2.thn (hb cc s1 σ p o ρ (λy=>dR op q y) Q E j st1.gh (hS.step st1) hx n) λz s2 d=>?_;refine gzq λRz ez=>?_;obtain⟨w,B,r,t,l,e,st2,h,i⟩:=d;subst ez;exact Gx hu l st2.gh (Seq.step q1 st2) h m e i
def Gy(hu:X.A.units+62<cLine)(ha:MLk X ad a f)(hb:MLk X ad b g)(hm:behindInMarks op b=qe):ME X ad (.Compare a [op] [b] pos) (bH op f g):=by refine λl s j H Q I h=>h.el λG m E i c d e=>?_;exact wpAny_Compare1 (Ak hu ha hb I i c d e) hm
def vQ{op}{a b}{F'}(hm:behindInMarks op b=qe)
  (go: ∀{cc} {s} {σ:St} {H G} {ρ} {Q} {E},Inv X cc σ H s->Same G H->SL X.K ad G H ρ σ->XP X ad σ E->RK X.K ad G H (F' ρ) Q E->
   X.wp (eval a X.env) (λu s1=>X.wp (eval b X.env) (λz s2=>X.wp (compareOp op u z) (EP X cc σ Q) X.xe s2) X.xe s1) X.xe s):MT X ad (.Compare a [op] [b] pos) F':=by
 refine λcc s σ H Q I h=>h.el λG ρ E n d f r l=>?_;refine wpAny_isTrue_Compare1 (L2.thn (go I n d f l) λv s1 p=>L2.thn p λu s2 m=>L2.thn m λc t i=>?_) hm;refine gzq λRz ez=>?_;obtain⟨x,o,g,j,k,e,q⟩:=i;subst ez;subst e;cases j;exact wpAny_truthy_bool ⟨o,g,q⟩
def Gz(hu:X.A.units+62<cLine)(ha:MLk X ad a f)(hb:MLk X ad b g)(hm:behindInMarks op b=qe):MT X ad (.Compare a [op] [b] pos) (bH op f g):=
 vQ hm λI d c e h=>Ak hu ha hb I d c e h
end
section
variable{X:Cx}{ad:Ad}{σ:St}{A:Nat}
def lY(hr:RK X.K ad G H (B7 A i k ρ) Q E): ∃r,ρ[i]? =pi (.rk A r)/\RK X.K ad G H (k r) Q E:=by
 unfold B7 at hr;rcases e:ρ[i]? with _|c;rw[e]at hr;exact hr.elim;rw[e]at hr;cases c with
 |rk C r=>
  have a:RK X.K ad G H (if C=A then k r else .bad) Q E:=hr;by_cases b:C=A;rw[if_pos b]at a;subst b;exact⟨r,rfl,a⟩;rw[if_neg b]at a;exact a.elim
 |no=>exact hr.elim
 |sh d=>exact hr.elim
 |ow d=>exact hr.elim
 |dc d=>exact hr.elim
 |sd d=>exact hr.elim
def kT{K}(h:HR K ad G held kvs)x:match bC held x with|none=>lO kvs (pu x)=qb|some d=>∃v,lO kvs (pu x)=pi v/\Rep K ad G d v:=by
 induction h with
 |nil=>exact Ce
 |@cons p q g f a t b=>
  unfold bC;rw[kh];by_cases e:p.1=x;rw[decide_eq_true e];exact⟨q.2,iU (by rw[a.1,e]),a.2⟩;rw[decide_eq_false e];have c: ¬q.1=(pu x:L2.Key):=λz=>e (by rw[a.1]at z;exact n7 z);rw[gY c];exact b
def iG(RC:RkC X.K A)(h:RackIn X.K ad A G H p0 r dx d l1 l2)(hi:σ[i]? =pi (pi (.ref p0)))(hf:[(("held":Str),V.ref d),("done",.ref l1),("undone",.ref l2)].lookup fd=pi v)(na:iB X.K A fd)(q:Q v H):LV X.K (DZ i) fd σ H Q:=
 ⟨.ref p0,hi,p0,A,dx,_,v,rfl,h.ins,RC.cl,na,hf,q⟩
def Ez(RC:RkC X.K A)(hN:X.N[i]? =pi x)(hv:Vis X.env.scope x)(hd:(x==("__debug__":Str))=qe)(hcd:(x==("__classdict__":Str))=qe)(bb:Bool):
  ML X ad (.Attribute (.Name x p) (if bb then "done" else "undone") pos) (D7 A i bb):=by
 refine PE.imp (fH (bO hN hv hd hcd) rfl) λB H Q f=>?_;obtain⟨G,u,E,h,n,z,b⟩:=f;unfold D7 B7 at b;rcases e:u[i]? with _|t;rw[e]at b;exact b.elim;rw[e]at b;cases t with
 |rk C r=>
  have a:LK X ad G H (if C=A then .ok (.lst (BP bb r))else .bad) Q E:=b;by_cases g:C=A;rw[if_pos g]at a;subst g;refine gzq λRz ez=>?_;obtain⟨I,J,d,q,w,j,c⟩:=n.rk e;obtain⟨m,l,y⟩:=c.done;obtain⟨v,o,s⟩:=c.undone;subst ez;cases bb;exact iG RC c j (fd:="undone") rfl RC.n3 (a _ G H (Step.refl h) (.inr ⟨w,v,_,rfl,rfl,c.g2,o,s⟩));exact iG RC c j (fd:="done") rfl RC.n2 (a _ G H (Step.refl h) (.inr ⟨q,m,_,rfl,rfl,c.g1,l,y⟩));rw[if_neg g]at a;exact a.elim
 |no=>exact b.elim
 |sh d=>exact b.elim
 |ow d=>exact b.elim
 |dc d=>exact b.elim
 |sd d=>exact b.elim
def GA(hu:X.A.units+62<cLine)(RC:RkC X.K A)(hN:X.N[i]? =pi x)(hv:Vis X.env.scope x)(hd:(x==("__debug__":Str))=qe)(hcd:(x==("__classdict__":Str))=qe)(hf:ME X ad a f)(hs:MX a):
  ME X ad (.Subscript (.Attribute (.Name x p) "held" ap) a pos) (B8 A i f):=by
 refine PE.imp (FT (by lia) (fH (bO hN hv hd hcd) rfl) hf hs) λO H Q g=>?_;obtain⟨G,T,E,C,h,s,c⟩:=g;unfold B8 at c;obtain⟨r,e,c⟩:=lY c;obtain⟨S,U,d,M,W,L,n⟩:=h.rk e;refine iG RC n L (fd:="held") rfl RC.n1 ?_;refine eV C h s c λv u z I m j k=>?_;obtain⟨w,J,B⟩:=(n.step m).held;cases u with
 |str y=>
  unfold Rep at j;subst j;have l:=kT B y;have b:RK X.K ad z I (match bC r.held y with|some d=>.ok d|none=>.bad) Q E:=k;rcases q:bC r.held y with _|dd;rw[q]at b;exact b.elim;rw[q]at b l;obtain⟨v,t,o⟩:=l;refine⟨d,v,rfl,?_,b.ok_now m.gh o⟩;rw[<-t];exact pW.k (k:=pu y) J
 |_=>exact ba k
def GB(hu:X.A.units+62<cLine)(RC:RkC X.K A)(hN:X.N[i]? =pi x)(hv:Vis X.env.scope x)(hd:(x==("__debug__":Str))=qe)(hcd:(x==("__classdict__":Str))=qe)(hf:ME X ad a f)(hm:M1 X (.Attribute (.Name x p) "held" pos) "get" ap a cp):
  ME X ad (.Call (.Attribute (.Attribute (.Name x p) "held" pos) "get" ap) [a] [] cp) (B9 A i f):=by
 refine PE.imp (Cg (by lia) (fH (bO hN hv hd hcd) rfl) hf hm) λS H Q j=>?_;obtain⟨G,U,E,O,o,I,h⟩:=j;unfold B9 at h;obtain⟨r,e,h⟩:=lY h;obtain⟨T,Z,d,Y,W,B,m⟩:=o.rk e;obtain⟨b,J,_⟩:=m.held;refine iG RC m B (fd:="held") rfl RC.n1 ⟨d,rfl,.inl ⟨b,.inl J⟩,?_⟩;refine eV O o I h λv L M w l s k=>?_;obtain⟨n,z,u⟩:=(m.step l).held;cases L with
 |str y=>
  unfold Rep at s;subst s;have g:=kT u y;have c:RK X.K ad M w (.ok ((bC r.held y).getD .non)) Q E:=k;refine⟨lO n (pu y),pW.k (k:=pu y) z,?_⟩;rcases q:bC r.held y with _|dd;rw[q]at c g;rw[g];exact c.ok_now l.gh (by unfold Rep;rfl);rw[q]at c g;obtain⟨v,t,C⟩:=g;rw[t];exact c.ok_now l.gh C
 |_=>exact ba k
def Kp(hu:X.A.units+62<cLine)(RC:RkC X.K A)(hN:X.N[i]? =pi x)(hv:Vis X.env.scope x)(hd:(x==("__debug__":Str))=qe)(hcd:(x==("__classdict__":Str))=qe)(hf:ME X ad a f)(neg:Bool):
  PC X (if neg then .NotIn else .In) a (.Attribute (.Name x p) "held" ap) (tE X ad (IH neg A i f)):=by
 have rd: ∀(b:Bool) (c:St) (H:Hp) (Q:VK),tE X ad (IH b A i f) c H Q->tE X ad f c H λy w=>LV X.K (DZ i) "held" c w λz C=>∃a o,z= .ref a/\pW C a y o/\Q (.bl (b != o.isSome)) C:=λb c H Q g=>by
  obtain⟨G,t,E,n,h,l,j⟩:=g;unfold IH at j;refine eV n h l j λv Z G1 w B M k=>?_;obtain⟨r,e,k⟩:=lY k;obtain⟨p0,dx,d,l1,l2,W,J⟩:=(h.step B).rk e;refine iG RC J W (fd:="held") rfl RC.n1 ?_;obtain⟨m,U,T⟩:=J.held;cases Z with
  |str y=>
   unfold Rep at M;subst M;have u:=kT T y;have O:RK X.K ad G1 w (.ok (.bl (b != (bC r.held y).isSome))) Q E:=k;refine⟨d,lO m (pu y),rfl,pW.k (k:=pu y) U,?_⟩;have Y:(lO m (pu y)).isSome=(bC r.held y).isSome:=by
    rcases q:bC r.held y with _|dd;rw[q]at u;rw[u];rfl;rw[q]at u;obtain⟨v,S,_⟩:=u;rw[S];rfl
   rw[Y];exact O.ok_now B.gh (by unfold Rep;rfl)
  |_=>exact ba k
 intro L s c H Q I g;cases neg;refine JK (by lia) hf (fH (bO hN hv hd hcd) rfl) L s c H Q I ?_;refine gzq λRz ez=>?_;obtain⟨G,t,E,n,h,l,j⟩:=rd qe c H Q g;subst ez;exact⟨G,t,E,n,h,l,by simpa using j⟩;refine yY (by lia) hf (fH (bO hN hv hd hcd) rfl) L s c H Q I ?_;refine gzq λRz ez=>?_;obtain⟨G,t,E,n,h,l,j⟩:=rd qc c H Q g;subst ez;exact⟨G,t,E,n,h,l,by simpa using j⟩
end
def EA(h1:ltS b a=qe)(h2:ltS c b=qe):ltS c a=qe:=by unfold ltS at *;rw[decide_eq_false_iff_not]at *;rw[List.not_lt]at *;exact List.le_trans h1 h2
def Al(h1:ltS a b=qe)(h2:ltS b a=qe):a=b:=by unfold ltS at *;rw[decide_eq_false_iff_not]at *;rw[List.not_lt]at *;have e:=List.le_antisymm h2 h1;obtain⟨⟨x⟩⟩:=a;obtain⟨⟨y⟩⟩:=b;cases e;rfl
def CJ(h:ltS a b=qc):ltS b a=qe:=by unfold ltS at *;rw[decide_eq_true_iff]at h;rw[decide_eq_false_iff_not,List.not_lt];exact List.le_of_lt h
theorem lZ x: ∀l,(Ca x l).Perm (x::l)
 |[]=>pj.refl _
 |y::l=>by
  unfold Ca;split;exact((lZ x l).cons y).trans (pj.swap x y l);exact pj.refl _
theorem jS: ∀l,(iA l).Perm l
 |[]=>pj.refl _
 |x::l=>(lZ x _).trans ((jS l).cons x)
theorem nH x: ∀{l},l.Pairwise (λa b=>ltS b a=qe)->(Ca x l).Pairwise (λa b=>ltS b a=qe)
 |[],_=>by simp[Ca]
 |y::l,h=>by
  rw[iq]at h;unfold Ca;split;rename_i e;rw[iq];refine⟨λz c=>?_,nH x h.2⟩;rcases av.mp ((lZ x l).mem_iff.mp c)with rfl|c;exact CJ e;exact h.1 z c;rename_i e;have d:ltS y x=qe:=by simpa using e
  rw[iq];refine⟨λz c=>?_,iq.mpr h⟩;rcases av.mp c with rfl|c;exact d;exact EA d (h.1 z c)
theorem l6: ∀l,(iA l).Pairwise (λa b=>ltS b a=qe)
 |[]=>.nil
 |x::l=>nH x (l6 l)
theorem vR: ∀{l} {p},risingS p l=qc->(p::l).Pairwise (λa b=>ltS b a=qe)
 |[],p,_=>by simp
 |x::r,p,h=>by
  unfold risingS at h;rw[aw]at h;have e:=vR h.2;have d:ltS x p=qe:=by
   have:=h.1;rw[ltCps_eq]at this;simpa[ltS]using this
  rw[iq];refine⟨λz c=>?_,e⟩;rcases av.mp c with rfl|c;exact d;exact EA d ((iq.mp e).1 z c)
def xA(p:m.Perm l)(h:sortedS m=qc):m=iA l:=by
 have c:m.Pairwise (λa b=>ltS b a=qe):=by
  rcases m with _|⟨x,r⟩;exact .nil;exact vR h
 exact pj.eq_of_pairwise (λa b _ _ x y=>Al y x) c (l6 l) (p.trans (jS l).symm)
section
variable{Ex:ce}
def t0(S:KdlSrc prog w T r d n P OK)(hh:A.handled=qb)(hok:OK s.heap)(hn:n<=sizeLine)(h: ∀h' tk vs,(∀b o,s.heap.get? b=pi o->h'.get? b=pi o)->vs.length=n->(∀j v,vs[j]? =pi v->P j v)->Q vs {s with heap:=h',toks:=tk}):wpAny (model prog w) A (collect (.ref r)) Q Ex s:=by
 have lt:=S.there _ hok;unfold collect;refine aa (wpAny_runValue (codeAny_builtin entry_proto_collect' ?_));refine aa (wpAny_newList (ac ⟨Code.quiet_builtin _ (by decide+kernel),codeAny_builtin entry_list_iadd' ?_⟩));refine kdl_extend (A:=A) (R:=λq i=>match q with
  |.ok (.ret v)=>wpAny (model prog w) A (match v with
   |.ref a=>(do
    let o<-load a;match o.data with
    |.seq m _=>pure m.toList
    |_=>unsupported "internal:collect")
   |_=>unsupported "internal:collect") Q Ex i
  |.ok _=>False
  |.error e=>Ex e i) (s:={s with heap:=s.heap.push (seqObj "list" #[] 0)}) S hh (S.keep _ _ hok λb _ o e=>ae _ e) s.z (ng lt.1) (ng lt.2) (.ref s.z) 0 (af _ rfl) (λh' tk g c hk l f=>?_) hn
 refine aa (wpAny_load l (ac ?_));refine h h' tk g.toList (λb o e=>hk b o (bh (ah e)) (ae _ e)) (by rw[gm];exact f.1) λj v e=>f.2 j v (by rw[<-Array.getElem?_toList];exact e)
def xB{Q:ce}(S:KdlSrc prog w T r d n P OK)(hh:A.handled=qb)(hok:OK s.heap)(h64:n<64)(hP: ∀vs,vs.length=n->(∀j v,vs[j]? =pi v->P j v)->StrsAre vs ss)(h: ∀(h1 h':Heap) tk out e,(∀b o,s.heap.get? b=pi o->h1.get? b=pi o)->(∀b o,h1.get? b=pi o->h'.get? b=pi o)->h'.get? h1.objs.size=pi (seqObj "list" out.toArray e)->StrsAre out (iA ss)->Q (.ref h1.objs.size) {s with heap:=h',toks:=tk}):
  wpAny (model prog w) A (call (.builtin "sorted") [.ref r]) Q Ex s:=by
 refine Calls.call_function_entry kind_sorted plain_sorted entry_sorted (args_sorted1 _) ?_;unfold Builtin.«sorted»;refine aa (m:=checkCount "sorted" 1 1 _) (ac ?_);refine aa (t0 (A:=A.in1) S hh hok (by rw[sizeLine_eq];lia) λh1 tk vs hk t y=>?_);have g:=hP vs t y;refine aa (wpAny_newList ?_ (by rw[sizeLine_eq];lia));have a:(h1.push (seqObj "list" vs.toArray 0)).get? h1.objs.size=pi (seqObj "list" vs.toArray 0):=af _ rfl;refine aa (wpAny_holding (wpAny_call_entry slot_list_sort ⟨_,a,rfl⟩ entry_list_sort (list_sort_treeK (s:={s with heap:=h1.push (seqObj "list" vs.toArray 0),toks:=tk}) strKind_oneLt a g.keysOf (λl i dZ e=>keyKind_strs (by rw[<-e];exact g)) (by lia) λc x z=>⟨_,rfl,?_⟩) (args_list_sort _)));obtain⟨B,p,C,u⟩:=sorted_out_str g x z;obtain⟨e,q⟩:=sortedHeap_at (out:=(arrOf c).map (·.2)) a;have f: ∀b o,h1.get? b=pi o->(sortedHeap (h1.push (seqObj "list" vs.toArray 0)) h1.objs.size vs ((arrOf c).map (·.2))).get? b=pi o:=λb o q1=>by
  have lt:b<h1.objs.size:=ah q1;rw[sortedHeap_old (bh lt) (by rw[ai];exact jf lt),jj _ _ _ (bh lt)];exact q1
 exact ac ⟨_,rfl,h h1 _ tk ((arrOf c).map (·.2)).toList e hk f (by rw[Array.toArray_toList];exact q) (by rw[<-xA C u];exact p)⟩
end
def Kq:L1 V->Hp->VK->Prop:=λxs H Q=>∃d kvs ks,xs=[V.ref d]/\Rd H d (.dK kvs)/\kvs.map (·.1)=ks.map (λk:Str=>(pu k:L2.Key))/\ks.length<64/\∀p,H p=qb->Q (.ref p) (upd H p (.lst ((iA ks).map V.str)))
def Am(h:StrsAre vs ss):b9 (ss.map V.str) vs:=by
 induction h with
 |nil=>exact .nil
 |cons y t _ a=>exact .cons ⟨t,rfl⟩ a
def nI(hc:X.calm=qc):kH X (.builtin "sorted") Kq:=by
 intro W s N H xs us Q I r h;obtain⟨d,kvs,a,rfl,hd,hk,p,q⟩:=h;obtain⟨u,rfl,M⟩:=b9.one r;cases M;obtain⟨z,L,E,O,dd⟩:=jL I.hok hd;obtain⟨o,Z,ep,T,m2,Y,m4,U,m6⟩:=dd;have b:E.map (·.1)=a.map (λk:Str=>(pu k:L2.Key)):=by rw[<-O.keys];exact hk
 have ab:E.length=a.length:=by simpa using congrArg og b
 refine xB (ss:=a) (kdl_dict (knd:=bE X.prog X.w) (kvs:=E) (ep:=ep) L) (I.ok.hd hc) ⟨o,Z,T,m2,Y,m4,U,m6⟩ (by lia) (λc f m=>?_) λC h' G A e S k2 g i=>?_;have B: ∀(c:L1 Value) (a:L1 Str),c.length=a.length->(∀(j:Nat) (v:Value),c[j]? =pi v->∃k,a[j]? =pi k/\∃t,v=pe k t)->StrsAre c a:=by
  intro c;induction c with
  |nil=>intro a f _;cases a with|nil=>exact .nil|cons _ _=>cases f
  |cons v c ih=>
   intro a f m;rcases a with _|⟨k,a⟩;cases f;obtain⟨k',g,t,i⟩:=m 0 v rfl;cases g;subst i;exact .cons k t (ih a (by simpa using f) λj v e=>m (j+1) v e)
 refine B c a (by lia) λj v e=>?_;obtain⟨k,x,g,i⟩:=m j v e;have l:(a.map (λk:Str=>(pu k:L2.Key)))[j]? =pi k:=by rw[<-b,i6,g];rfl
 rw[i6]at l;rcases K:a[j]? with _|y;rw[K]at l;cases l;rw[K]at l;cases l;refine⟨y,rfl,?_⟩;exact Value.isStrOf_shape i;have J:Inv X W N H {s with heap:=C,toks:=G}:=I.kept S;have n:=J.hok.fresh (aj C.objs.size);have hz:((iA a).map V.str).length<=sizeLine:=by
  rw[aq,(jS a).length_eq];exact mq (mr p) (by decide)
 exact⟨.ref C.objs.size,_,J.laid (o:=.lst ((iA a).map V.str)) (t':=G) k2 (aj _) ⟨hz,A,e,Am i,g⟩,rfl,q _ n⟩
section
variable{ad:Ad}{A:Nat}
def GC{K}(h:HR K ad G held kvs):kvs.map (·.1)=(held.map (·.1)).map (λk:Str=>(pu k:L2.Key)):=by
 induction h with
 |nil=>rfl
 |cons b t a=>rw[lm,lm,lm,a,b.1]
theorem l7{K}{G}: ∀ss:L1 Str,aK K ad G (ss.map D.str) (ss.map V.str)
 |[]=>aK.nil
 |s::ss=>aK.cons (by unfold Rep;rfl) (l7 ss)
def GD(hc:X.calm=qc)(RC:RkC X.K A)(hg:L2.Gl X "sorted")(hm:X.mg "sorted"=qb)(hN:X.N[i]? =pi x)(hv:Vis X.env.scope x)(hd:(x==("__debug__":Str))=qe)(hcd:(x==("__classdict__":Str))=qe):
  ME X ad (.Call (.Name "sorted" p) [.Attribute (.Name x np) "held" ap] [] pos) (FF A i):=by
 refine PE.imp (uT (nI hc) hg hm rfl (bI (fH (bO hN hv hd hcd) rfl) cW rfl)) λu H Q f=>?_;refine gzq λRz ez=>?_;obtain⟨G,w,E,l,h,t,a⟩:=f;obtain⟨r,e,a⟩:=lY a;obtain⟨v,y,d,s,z,o,g⟩:=h.rk e;obtain⟨c,m,j⟩:=g.held;subst ez;by_cases b:r.held.length<64;rw[if_pos b]at a;refine iG RC g o (fd:="held") rfl RC.n1 ⟨d,c,r.held.map (·.1),rfl,.inl m,GC j,by simpa using b,λq n=>?_⟩;exact a.ow_new l (l7 _) n;rw[if_neg b]at a;exact a.elim
end
def rQ{m:Str}(h:m≠"held"/\m≠"done"/\m≠"undone"):[(("held":Str),V.ref d),("done",.ref l1),("undone",.ref l2)].lookup m=qb:=by
 have a:(m==("held":Str))=qe:=by simpa using h.1
 have b:(m==("done":Str))=qe:=by simpa using h.2.1
 have c:(m==("undone":Str))=qe:=by simpa using h.2.2
 rw[jo,a,jo,b,jo,c,List.lookup_nil]
def gK(hb:attributeBase o m env (eval o env)=eval o env)(hf:methodCallForm (es.length+([]:L1 Keyword).length) (backTo cp (starEach es env)) (backToKw cp (keywordEach [] env))=qc)(hl:(ap.endLine==cp.line)=qc):
  eval (.Call (.Attribute o m ap) es [] cp) env=(do
   let ov<-eval o env;standAt ap.atName;let (f,first)<-holding [ov] (getMethod ov m (do return (<-importBound o env).getD qc));callWith cp f first (backTo cp (starEach es env)) (backToKw cp (keywordEach [] env))):=by
 rw[arm_eval_Call,hb];unfold methodCall calleeOf methodCallPos;rw[hf,hl];rfl
section
variable{X:Cx}{ad:Ad}{σ:St}{Q:VK}{E:Nat->Hp->Prop}{p ap cp:Pos}{es:L1 Expr}{fs:L1 F}{A i n:Nat}{x m:Str}{M:FM}
def An{m}(h:RK X.K ad G H m.told Q E):RMK X.K ad A G H p0 dx d l1 l2 m Q E:=by
 cases m with
 |pure x=>exact h
 |chg _ _=>exact ba h
theorem RMK.impE{G H}{p0 dx d l1 l2}{m}{E'}(h:RMK X.K ad A G H p0 dx d l1 l2 m Q E)(k: ∀c H',E c H'->E' c H'):RMK X.K ad A G H p0 dx d l1 l2 m Q E':=by
 cases m with
 |pure x=>exact RK.impE h k
 |chg _ _=>exact h
def l8(M0:MetOk X ad A m n M)(I:Inv X cc σ H s)(hG:Same G H)(hR:RackIn X.K ad A G H p0 r dx d l1 l2)(rv:b9 vs us)(rq:aK X.K ad G ds vs)(hl:ds.length=n)(hx:XP X ad σ E)(h:RMK X.K ad A G H p0 dx d l1 l2 (M r ds) Q E)(hf:Meth X.K A m f):
  X.wp (call (.ref f) (.ref p0::us)) (EP X cc σ Q) X.xe s:=by
 obtain⟨i,k,t,q,o,g,a,l⟩:=M0.ok;have e:i=f:=by
  have z:=o.at_.symm.trans hf.at_;cases z;rfl
 subst e;exact oK (vs:=V.ref p0::vs) (E:=xk ad E) g a l I (.cons rfl rv) ⟨G,p0,r,dx,d,l1,l2,ds,vs,rfl,hG,hR,rq,hl,h.impE λc p e=>⟨c,rfl,e⟩⟩ λe j b=>hx cc H s e j I b
def CK(RC:RkC X.K A)(M0:MetOk X ad A m n M)(hN:X.N[i]? =pi x)(hv:Vis X.env.scope x)(hd:(x==("__debug__":Str))=qe)(hcd:(x==("__classdict__":Str))=qe)(ha:MA X ad (a::es) fs)(hn:fs.length=n)(hst:starEach (a::es) X.env=(qe,eval a X.env)::starEach es X.env)(hpl:(backTo cp (starEach es X.env)).any (·.1)=qe)(hfm:methodCallForm ((a::es).length+([]:L1 Keyword).length) (backTo cp (starEach (a::es) X.env)) (backToKw cp (keywordEach [] X.env))=qc)(hln:(ap.endLine==cp.line)=qc)(I:Inv X cc σ H s)(hG:Same G H)(hS:SL X.K ad G H ρ σ)(hx:XP X ad σ E)(h1:σ[i]? =pi (pi (.ref p0)))(hR:RackIn X.K ad A G H p0 r dx d l1 l2)(hr:RK X.K ad G H (mO fs ρ W) Q E)(hq: ∀ds G1 H1,Step G H G1 H1->RK X.K ad G1 H1 (W ds) Q E->RMK X.K ad A G1 H1 p0 dx d l1 l2 (M r ds) Q E):
  X.wp (eval (.Call (.Attribute (.Name x p) m ap) (a::es) [] cp) X.env) (EP X cc σ Q) X.xe s:=by
 obtain⟨f,k,S,L,h,_⟩:=M0.ok;refine fy (L2.thn (bO hN hv hd hcd cc s σ H (λv H1=>v= .ref p0/\H1=H) I ⟨.ref p0,h1,rfl,rfl⟩) λu z l=>?_) (gK rfl hfm hln);obtain⟨v,H1,e,C,B,t⟩:=l;subst B;subst t;cases (show u=pf p0 from C);refine fG e hR.ins RC.cl h (rQ M0.no) ?_;refine im (first:=[.ref p0]) (h₀:=X.base) e.ok.mod.kin h.kp (L2.thn (ha cp cc z σ H1 (λo c=>∃ds G1,Step G H1 G1 c/\aK X.K ad G1 ds o/\ds.length=fs.length/\RK X.K ad G1 c (W ds) Q E) e
  (tN hG hS hx hr λo ds G1 c b g j k=>⟨ds,G1,b,g,j,k⟩)) λJ O ⟨o,c,q,y,ds,G1,b,g,j,k⟩=>⟨q.kIn,?_⟩) hst hpl
 exact l8 M0 q b.gh (hR.step b) y g (j.trans hn) hx (hq ds G1 c b k) h
def Ao(RC:RkC X.K A)(M0:MetOk X ad A m 0 M)(hN:X.N[i]? =pi x)(hv:Vis X.env.scope x)(hd:(x==("__debug__":Str))=qe)(hcd:(x==("__classdict__":Str))=qe)(hln:(ap.endLine==cp.line)=qc)(I:Inv X cc σ H s)(hG:Same G H)(hx:XP X ad σ E)(h1:σ[i]? =pi (pi (.ref p0)))(hR:RackIn X.K ad A G H p0 r dx d l1 l2)(hq:RMK X.K ad A G H p0 dx d l1 l2 (M r []) Q E):
  X.wp (eval (.Call (.Attribute (.Name x p) m ap) [] [] cp) X.env) (EP X cc σ Q) X.xe s:=by
 obtain⟨f,k,o,n,c,_⟩:=M0.ok;refine fy (L2.thn (bO hN hv hd hcd cc s σ H (λv e=>v= .ref p0/\e=H) I ⟨.ref p0,h1,rfl,rfl⟩) λu l a=>?_) (gK rfl rfl hln);obtain⟨v,e,b,j,g,h⟩:=a;subst g;subst h;cases (show u=pf p0 from j);refine fG b hR.ins RC.cl c (rQ M0.no) ?_;exact gw (first:=[.ref p0]) b.kIn c.kp (l8 M0 b hG hR .nil aK.nil rfl hx hq c)
def Kr(RC:RkC X.K A)(M0:MetOk X ad A m n M)(hN:X.N[i]? =pi x)(hv:Vis X.env.scope x)(hd:(x==("__debug__":Str))=qe)(hcd:(x==("__classdict__":Str))=qe)(ha:MA X ad es fs)(hn:fs.length=n)(hst: ∀a r,es=a::r->starEach (a::r) X.env=(qe,eval a X.env)::starEach r X.env/\(backTo cp (starEach r X.env)).any (·.1)=qe)(hl:es.length=fs.length)(hfm:methodCallForm (es.length+([]:L1 Keyword).length) (backTo cp (starEach es X.env)) (backToKw cp (keywordEach [] X.env))=qc)(hln:(ap.endLine==cp.line)=qc):
  ME X ad (.Call (.Attribute (.Name x p) m ap) es [] cp) (eU A i M fs):=by
 refine λJ s t H Q I o=>o.el λG w E j f g b=>?_;refine gzq λRz ez=>?_;obtain⟨r,e,b⟩:=lY b;obtain⟨v,B,d,q,C,l,h⟩:=f.rk e;subst ez;rcases es with _|⟨a,c⟩;rcases fs with _|⟨_,_⟩;subst hn;exact Ao RC M0 hN hv hd hcd hln I j g l h (An b);cases hl;exact CK RC M0 hN hv hd hcd ha hn (hst a c rfl).1 (hst a c rfl).2 hfm hln I j f g l h b λu z L y k=>An k
end
theorem EB{K}{ad}{G}: ∀{ks:L1 Str} {ds} {es:L1 (L2.Key×V)},es.map (·.1)=ks.map pu->aK K ad G ds (es.map (·.2))->HR K ad G (ks.zip ds) es
 |[],ds,[],_,_=>.nil
 |[],_,_::_,h,_=>by simp at h
 |_::_,_,[],h,_=>by simp at h
 |k::ks,ds,(q,v)::es,h1,h2=>by
  rw[lm,lm]at h1;obtain⟨a,b⟩:=ly h1;rw[lm]at h2;rcases ds with _|⟨d,ds⟩;unfold aK at h2;cases h2;unfold aK at h2;obtain⟨g,i,f,e,c⟩:=h2;cases f;exact .cons ⟨a,e⟩ (EB b c)
def RK.imp{K}{ad}(h:RK K ad G H r Q E)(k: ∀v H,Q v H->Q' v H):RK K ad G H r Q' E:=by
 cases r with
 |ok d=>exact λv b f a q=>k _ _ (h v b f a q)
 |ow i=>exact λp g b f a n m e q=>k _ _ (h p g b f a n m e q)
 |ex c=>exact h
 |bad=>exact h
noncomputable def Oc:R->L7 D
 |.ok d=>pi d
 |.ow xs=>pi (.lst xs)
 |_=>qb
section
variable{X:Cx}{ad:Ad}{cc:cf}{s:Shared}{σ:St}{H G:Hp}{a o:Expr}{f:F}
def Ks(X:Cx)(ad:Ad)(f:F):TE:=λσ H Q=>tE X ad f σ H λv H1=>∃a o es,v= .ref a/\H1 a=pi (.frz o (.dK es))/\∀q,H1 q=qb->Q (.ref q) (upd H1 q (.dK es))
def CL(hg:L2.Gl X "dict")(hm:X.mg "dict"=qb)(ha:ME X ad a f)(he:starEach [a] X.env=(qe,eval a X.env)::starEach [] X.env):PE X (.Call (.Name "dict" p) [a] [] pos) (Ks X ad f):=by intro J s t H Q I h;refine wpAny_Call_Name_kw (f9 I hg hm (u:=.type "dict") (by decide+kernel) ?_ (by decide) (by decide));refine dm (L2.thn (bI ha cW he pos J s t H (λg b=>∃v,g=[v]/\∃a o c,v= .ref a/\b a=pi (.frz o (.dK c))/\∀q,b q=qb->Q (.ref q) (upd b q (.dK c))) I ?_) λM L ⟨g,b,m,z,v,y,x,K,c,i,d,q⟩=>?_) he rfl;obtain⟨G,w,E,C,j,l,A⟩:=h;refine⟨G,w,E,C,j,l,?_⟩;exact RK.imp A λv b k=>⟨v,rfl,k⟩;subst y;subst i;obtain⟨u,rfl,r⟩:=lC z;cases (show u=pf x from r);exact u6 m (.inr ⟨K,d⟩) λe N n B=>⟨.ref e,_,B,rfl,q e n⟩
def CM(hN:X.N.Nodup)(hi:X.N[i]? =pi x)(hl:Loc X.env.scope x)(hg:L2.Gl X "dict")(hm:X.mg "dict"=qb)(ha:ME X ad a f)(he:starEach [a] X.env=(qe,eval a X.env)::starEach [] X.env)(hf:X.fn x=qc\/X.env.scope.names.lookup x=pi .local):
  MS X ad Z (.Assign [.Name x pos'] (.Call (.Name "dict" p) [a] [] cp) pos) (m7 i f):=by
 refine PS.imp (j8 hN hi hl (CL hg hm ha he) rfl hf) ?_;rintro h A H ⟨b,G,s,E,S,l,u⟩;refine gI S l u λv d g B c r k=>?_;cases d<;>try exact ba k
 rename_i m j;unfold Rep at r;obtain⟨o,z,e,rfl,t,y,w⟩:=r;refine⟨o,z,e,rfl,c.gh _ _ t,λq n=>?_⟩;have gn:g q=qb:=c.gh.free n;exact(show OKo X ad b (.nx (s.set i (.dc (m.zip j)))) h E from k) _ g _ ((S.step c).setNew (Step.own c.gh n) n ⟨q,e,rfl,gn,aD,EB y w,trivial⟩)
def oS{q}{es}{ks:L1 Str}{ds}{Q}(I:Inv X cc σ (upd H q (.dK es)) s)(hG:Same G H)(n:H q=qb\/H q=pi (.dK []))(gn:G q=qb)(h1:es.map (·.1)=ks.map pu)(h2:aK X.K ad G ds (es.map (·.2)))(hr: ∀v G' H',(∀c,c≠q->G' c=G c)->Same G G'->Same G' H'->(∀c,c≠q->H' c=H c)->Rep X.K ad G' (.dct ks ds) v->Q v H'):EP X cc σ Q (.ref q) s:=by obtain⟨o,b⟩:=Inv.frzD I aD;rw[xY]at b;refine⟨.ref q,_,b,rfl,hr (.ref q) (upd G q (.frz o (.dK es))) _ (λc a=>aA a) (Same.upd_new gn) (λc u e=>?_) (λc a=>aA a) ?_⟩;by_cases z:c=q;subst z;rw[aD]at e ⊢;exact e;rw[aA z]at e ⊢;exact hG c u e;unfold Rep;exact⟨q,o,es,rfl,aD,h1,h2.mono (Same.upd_new gn)⟩
def CN:ME X ad (.Dict [] [] pos) iT:=by
 refine λt s i H Q I C=>C.el λG L E f M O J=>?_;refine L2.thn (u4 t s i H (λv d=>∃q,v= .ref q/\H q=qb/\d=upd H q (.dK [])) I λq n=>⟨q,rfl,n,rfl⟩) λu N a=>?_;obtain⟨v,d,B,h,q,o,n,y⟩:=a;subst o;subst y;cases (show u=pf q from h);refine oS (ad:=ad) (ks:=[]) (ds:=[]) B f (.inl n) (f.free n) rfl aK.nil λv j x p g l A r=>?_;exact(show RK X.K ad G H (.ok (.dct [] [])) Q E from J) v j x ⟨g,l,λc w e=>by rw[A c (λz=>by rw[z,n]at e;cases e)];exact e,λc m b=>by
  by_cases z:c=q;rw[z];exact n;rw[p c z,m]at b;exact absurd rfl b⟩ r
def Ap(hG:Same G H)(hS:SL X.K ad G H ρ σ)(hx:XP X ad σ E)(hv:Oc (f ρ)=pi x)(q: ∀v G1 H1,Step G H G1 H1->Rep X.K ad G1 x v->Q v H1):tE X ad f σ H Q:=by
 refine⟨G,ρ,E,hG,hS,hx,?_⟩;cases e:f ρ with
 |ok d=>rw[e]at hv;cases hv;exact q
 |ow j=>
  rw[e]at hv;cases hv;intro p i G1 H1 b n m h r;obtain⟨g,st2,a⟩:=dG (X:=X) (ad:=ad) b n m h r;exact q _ g H1 st2 a
 |ex c=>rw[e]at hv;cases hv
 |bad=>rw[e]at hv;cases hv
def GE(hG:Same G H)(hS:SL X.K ad G H ρ σ)(hx:XP X ad σ E)(hv:f ρ= .ex c)(q: ∀G1 H1,Step G H G1 H1->E c H1):tE X ad f σ H Q:=
 ⟨G,ρ,E,hG,hS,hx,by rw[hv];exact q⟩
def oT{r}{k}{Q}{E}(h:RK X.K ad G H (r.bind k) Q E):(∃x,Oc r=pi x/\RK X.K ad G H (k x) Q E)\/∃c,r= .ex c/\∀G1 H1,Step G H G1 H1->E c H1:=by
 cases r with
 |ok d=>exact .inl ⟨d,rfl,h⟩
 |ow a=>exact .inl ⟨.lst a,rfl,h⟩
 |ex c=>exact .inr ⟨c,rfl,h⟩
 |bad=>exact h.elim
def CO(ha:ME X ad a f):ME X ad (.Dict [pi (.Constant (.str k1) j1 p1)] [a] pos) (uY k1 f):=by
 refine λcc s U H Q I h9=>h9.el λG C E y o p hr=>?_;have P:=oH (pos:=pos) (gX (X:=X) (ad:=ad) (k:=.str k1) (j:=j1) (pos:=p1) (d:=.str k1) rfl) ha y0;refine L2.thn (y3 P rfl rfl (by simp) (by simp) cc s U H (λv h=>∃q i t x b,v= .ref q/\H q=qb/\Step G (upd H q (.dK [])) i t/\Rep X.K ad i x b/\RK X.K ad G H (.ok (.dct [k1] [x])) Q E/\h=upd t q (.dK [(.inr k1,b)])) I λq n=>?_) λu l hz=>?_;have A:G q=qb:=y.free n;have st0:Step G H G (upd H q (.dK [])):=Step.own y n;have m:RK X.K ad G H ((f C).bind λx=>.ok (.dct [k1] [x])) Q E:=hr;refine⟨G,C,E,st0.gh,o.step st0,p,λv O h st1 r=>?_⟩;have r':v= .str k1:=by unfold Rep at r;exact r
 subst r';have l:=st0.trans st1;rcases oT m with ⟨x,vx,h1⟩|⟨c,ec,he⟩;refine Ap st1.gh (o.step l) p vx λb M J st2 r2=>?_;have N:Step G (upd H q (.dK [])) M J:=st1.trans st2;exact⟨N.sh _ _ aD,[(.inr k1,b)],rfl,by simp,q,M,J,x,b,rfl,n,N,r2,h1,by simp[iE,L2.putK]⟩;exact GE st1.gh (o.step l) p ec λO h st=>he O h (l.trans st);obtain⟨v,h,I1,T,q,i,t,x,b,rfl,n,g,r1,hk,rfl⟩:=hz;cases (show u=pf q from T);have A:i q=qb:=g.gnone (y.free n) aD;refine oS (ad:=ad) (ks:=[k1]) (ds:=[x]) I1 g.gh (.inr (g.sh _ _ aD)) A rfl (aK.cons r1 aK.nil) λv W H' g1 S Y g4 r=>?_;refine hk v W H' ⟨g.sg.trans S,Y,λc w e=>?_,λc Z B=>?_⟩ r;have L:c≠q:=λz=>by rw[z,n]at e;cases e
 rw[g4 c L];exact g.sh _ _ (by rw[aA L];exact e);by_cases z:c=q;rw[z];exact n;rw[g1 c z]at B;have:=g.nw c Z B;rw[aA z]at this;exact this
def CQ(ha:ME X ad a f)(hb:ME X ad b g):ME X ad (.Dict [pi (.Constant (.str k1) j1 p1),pi (.Constant (.str k2) j2 p2)] [a,b] pos) (uX k1 k2 f g):=by
 refine λcc s σ H Q I h9=>h9.el λG T E hG C O hr=>?_;have P:=oH (pos:=pos) (gX (X:=X) (ad:=ad) (k:=.str k1) (j:=j1) (pos:=p1) (d:=.str k1) rfl) ha (oH (gX (X:=X) (ad:=ad) (k:=.str k2) (j:=j2) (pos:=p2) (d:=.str k2) rfl) hb y0);have rk: ∀(k:Str) (m h:Hp),Same m h->SL X.K ad m h T σ->∀(Z:VK),(∀S N,Step m h S N->Z (.str k) N)->tE X ad (rK (.str k)) σ h Z:=λk m h hg hs Z q=>⟨m,T,E,hg,hs,O,λv S N M r=>by
  have r':v= .str k:=by unfold Rep at r;exact r
  subst r';exact q S N M⟩
 refine L2.thn (y3 P rfl rfl (by simp) (by simp) cc s σ H (λv h=>∃q p A x y B t,v= .ref q/\H q=qb/\Step G (upd H q (.dK [])) p A/\Rep X.K ad p x B/\Rep X.K ad p y t/\RK X.K ad G H (.ok (.dct [k1,k2] [x,y])) Q E/\h=upd A q (.dK [(.inr k1,B),(.inr k2,t)])) I λq n=>?_) λu J hz=>?_;have gq:G q=qb:=hG.free n;have st0:Step G H G (upd H q (.dK [])):=Step.own hG n;have Y:RK X.K ad G H ((f T).bind λx=>(g T).bind λy=>if k1=k2 then .bad else .ok (.dct [k1,k2] [x,y])) Q E:=hr;refine rk k1 G _ st0.gh (C.step st0) _ λm h st1=>?_;have J:=st0.trans st1;rcases oT Y with ⟨x,vx,h1⟩|⟨c,W,he⟩;refine Ap st1.gh (C.step J) O vx λB S N st2 r2=>?_;have s2:=J.trans st2;refine rk k2 S _ st2.gh (C.step s2) _ λG3 H3 i=>?_;have U:=s2.trans i;rcases oT h1 with ⟨y,vy,h2⟩|⟨c,W,he⟩;refine Ap i.gh (C.step U) O vy λt p A L r4=>?_;have o:Step G (upd H q (.dK [])) p A:=((st1.trans st2).trans i).trans L;have hk: ¬k1=k2:=λz=>by
  have l:RK X.K ad G H (if k1=k2 then .bad else .ok (.dct [k1,k2] [x,y])) Q E:=h2;rw[if_pos z]at l;exact l.elim
 have l:RK X.K ad G H (if k1=k2 then .bad else .ok (.dct [k1,k2] [x,y])) Q E:=h2;rw[if_neg hk]at l;refine⟨o.sh _ _ aD,[(.inr k1,B),(.inr k2,t)],rfl,by simp,q,p,A,x,y,B,t,rfl,n,o,(r2.mono i.sg).mono L.sg,r4,l,?_⟩;have nk: ¬((pu k1:L2.Key)= .inr k2):=λz=>hk (n7 z);simp[iE,L2.putK,nk];exact GE i.gh (C.step U) O W λm h M=>he m h (U.trans M);exact GE st1.gh (C.step J) O W λm h M=>he m h (J.trans M);obtain⟨v,h,I1,ru,q,p,A,x,y,B,t,rfl,n,o,r1,r2,hk,rfl⟩:=hz;cases (show u=pf q from ru);have gq:p q=qb:=o.gnone (hG.free n) aD;refine oS (ad:=ad) (ks:=[k1,k2]) (ds:=[x,y]) I1 o.gh (.inr (o.sh _ _ aD)) gq rfl (aK.cons r1 (aK.cons r2 aK.nil)) λv G' H' g1 g2 g3 g4 r=>?_;refine hk v G' H' ⟨o.sg.trans g2,g3,λc w e=>?_,λc z1 z2=>?_⟩ r;have nc:c≠q:=λz=>by rw[z,n]at e;cases e
 rw[g4 c nc];exact o.sh _ _ (by rw[aA nc];exact e);by_cases z:c=q;rw[z];exact n;rw[g1 c z]at z2;have:=o.nw c z1 z2;rw[aA z]at this;exact this
def CS(hu:X.A.units+62<cLine)(ho:ME X ad o f)(ha:ME X ad a g)(hb:ME X ad b h)(m:M2 X o "get" ap a b cp):ME X ad (.Call (.Attribute o "get" ap) [a,b] [] cp) (qW f g h):=by
 refine λcc s U H Q I h9=>h9.el λG L E hG q t hr=>?_;refine Ch (by lia) ho ha hb m cc s U H Q I ?_;refine eV hG q t hr λv d G1 H1 e r k=>?_;cases d<;>try exact ba k
 rename_i S n;unfold Rep at r;obtain⟨T,p,j,rfl,N,a1,a2⟩:=r;refine⟨T,rfl,.inl ⟨j,.inr ⟨p,e.gh _ _ N⟩⟩,?_⟩;refine eV e.gh (q.step e) t (show RK X.K ad G1 H1 ((g L).bind λy=>(h L).bind λz=>(match y with|.str k=>.ok ((bC (S.zip n) k).getD z)|_=>.bad)) Q E from k) λv2 Z G2 H2 st2 O k2=>?_;refine eV st2.gh ((q.step e).step st2) t k2 λv3 d3 M J c r3 C=>?_;cases Z<;>try exact ba C
 rename_i x;unfold Rep at O;subst O;have W:J T=pi (.frz p (.dK j)):=c.sh _ _ (st2.sh _ _ (e.gh _ _ N));refine⟨_,.inl ⟨j,.inr x,.inr ⟨p,W⟩,rfl,rfl⟩,?_⟩;have i:RK X.K ad M J (.ok ((bC (S.zip n) x).getD d3)) Q E:=C;have u:aK X.K ad M n (j.map (·.2)):=(a2.mono st2.sg).mono c.sg;rcases rD (x:=x) a1 u with ⟨l,B,_⟩|⟨w,d,l,B,Y,_,_⟩;rw[B]at i;rw[l];exact i.ok_now c.gh r3;rw[B]at i;rw[l];exact i.ok_now c.gh Y
def GF(hc:X.calm=qc):BOp X ad (.builtin "sorted") uW:=by
 intro w s r H G x v u Q E I i q m f;by_cases h: ∃c g,x= .dct c g;obtain⟨c,g,rfl⟩:=h;have b:RK X.K ad G H (if c.length<64 then .ow ((iA c).map D.str)else .bad) Q E:=f;have j:Rep X.K ad G (.dct c g) v:=by
  rcases q with q|⟨_,_,_,z,_⟩;exact q;cases z
 unfold Rep at j;obtain⟨a,o,l,rfl,t,y,A⟩:=j;by_cases d:c.length<64;rw[if_pos d]at b;exact nI hc w s r H [.ref a] [u] Q I (.cons m .nil) ⟨a,l,c,rfl,.inr ⟨o,i _ _ t⟩,y,d,λp n=>b.ow_new i (l7 _) n⟩;rw[if_neg d]at b;exact b.elim;have e:uW [x]= .bad:=by
  cases x<;>first|rfl|exact absurd ⟨_,_,rfl⟩ h
 rw[e]at f;exact f.elim
end
section
variable{E:ce}{h:Heap}{g:Array GenState}{d:Drawn}{os:OsState}
def xC{Q:α->Shared->Prop}(hh:A.handled=qb)(hm:msg.length<=sizeLine)(hq: ∀e h' t',(∀b o,h.get? b=pi o->h'.get? b=pi o)->(∃o,h'.get? e=pi o/\o.cls= .type "AttributeError")->E (.ref e) ⟨h',g,d,t',os⟩):
  wpAny (model prog w) A (raiseAttrError (.ref a) nm msg) Q E ⟨h,g,d,t,os⟩:=by
 unfold raiseAttrError newExc;repeat (any_goals (first|assumption|wp_step))
 have l:isSubtype (.type "AttributeError") (.type "AttributeError")=pure qc:=by rw[isSubtype_type];kernel_rfl
 have f:((Manifest.find? "AttributeError").elim qe λt=>t.mro.contains "StopIteration"||t.mro.contains "SystemExit")=qe:=by kernel_rfl
 have i:ownMembersOf (ox "AttributeError") [pe msg t]= #[unsetMember,unsetMember]:=by rfl
 simp only[f,i,az,if_false];repeat (any_goals (first|assumption|wp_step))
 unfold raiseNew;refine aa (wpAny_handled ?_);rw[hh];refine aa (ac (wpAny_throw ?_));have j:((h.push {cls:=ox "tuple",data:=Data.seq #[pe msg t]}).push {cls:=ox "AttributeError",data:=Data.fields (#[pf h.objs.size,oq,oq,oq,ou qe,oq]++ #[unsetMember,unsetMember])}).get? (h.push {cls:=ox "tuple",data:=Data.seq #[pe msg t]}).objs.size=pi _:=af _ rfl;refine hq _ _ _ (λb o e=>?_) ⟨_,fw _ j rfl,rfl⟩;have lt:b<h.objs.size:=ah e;refine(fg _ _ (λz=>?_)).trans (ae _ (ae _ e));have c:b=(h.push {cls:=ox "tuple",data:=Data.seq #[pe msg t]}).objs.size:=by first|exact z|exact z.symm
 rw[ai]at c;rw[c]at lt;exact absurd lt (o0.mpr (oe _))
def rR:typeLookup (.type "list") "keys"=pure qb:=by rw[typeLookup_type,builtinLookup_eq_fast];kernel_rfl
def rS:typeLookup (.type "list") "__getattr__"=pure qb:=by rw[typeLookup_type,builtinLookup_eq_fast];kernel_rfl
def Aq(E:ce)(h:Heap)(g:Array GenState)(d:Drawn)(os:OsState):Prop:= ∀e h' t',(∀b o,h.get? b=pi o->h'.get? b=pi o)->(∃o,h'.get? e=pi o/\o.cls= .type "AttributeError")->E (.ref e) ⟨h',g,d,t',os⟩
def xD(hh:A.handled=qb)(hx:h.get? a=pi {cls:=.type "list",dict:=qb,data:=.seq its nn,slots:=sl})(hq:Aq E h g d os):
  wpAny (model prog w) A (Builtin.«object.__getattribute__» ⟨[.ref a,.str "keys" tk],[]⟩) Q E ⟨h,g,d,t,os⟩:=by
 have b:(⟨h,g,d,t,os⟩:Shared).TypeIs (.ref a) "list":=⟨_,hx,rfl⟩;have c:=rR;repeat (any_goals (first|assumption|wp_step))
 exact xC hh (by decide+kernel) hq
def Ar{R}(hh:A.handled=qb)(hx:h.get? a=pi {cls:=.type "list",dict:=qb,data:=.seq its nn,slots:=sl})(hq:Aq (λe s=>R (.error e) s) h g d os):
  codeAny (model prog w) A (.call (.builtin "list.__getattribute__") ⟨[.ref a,.str "keys" tk],[]⟩) R ⟨h,g,d,t,os⟩:=
 codeAny_call_builtin ef.plain F.entry_list_ga (ef.check _ _ _ _ _ _ _ _ (show(⟨h,g,d,t,os⟩:Shared).TypeIs (.ref a) "list" from⟨_,hx,rfl⟩) (F.args_list_getattribute_2 _ _) (xD (by exact hh) hx hq))
def GG{Q:ce}(hh:A.handled=qb)(hx:h.get? a=pi {cls:=.type "list",dict:=qb,data:=.seq its nn,slots:=sl})(hq:Aq E h g d os):wpAny (model prog w) A (getAttrBy (.ref a) (.str "keys" tk) qe) Q E ⟨h,g,d,t,os⟩:=by
 have r:(⟨h,g,d,t,os⟩:Shared).TypeIs (.ref a) "list":=⟨_,hx,rfl⟩;have p:=ef.lookup;have q:=ef.bind (.ref a);have m:=rS;have o:isSubtype (.type "AttributeError") (.type "AttributeError")=pure qc:=by rw[isSubtype_type];kernel_rfl
 repeat (any_goals (first|assumption|wp_step))
 refine Ar hh hx λe j l hk n=>?_;obtain⟨c,i,f⟩:=n;have b:(⟨j,g,d,l,os⟩:Shared).TypeIs (.ref e) "AttributeError":=⟨c,i,f⟩;show wpAny _ _ (getattributeRaised _ _ _ _ _ _ _) _ _ _;unfold getattributeRaised;refine aa (wpAny_isInstance b o ?_);rw[if_pos rfl];unfold hookBehind;refine aa ?_;show wpAny _ _ (typeLookup (.type "list") "__getattr__") _ _ _;rw[m];refine ac ?_;exact wpAny_throw (hq e j l hk ⟨c,i,f⟩)
def As(hh:A.handled=qb)(hx:h.get? a=pi {cls:=.type "list",dict:=qb,data:=.seq its nn,slots:=sl})(hq: ∀h' t',(∀b o,h.get? b=pi o->h'.get? b=pi o)->Q qb ⟨h',g,d,t',os⟩):
  wpAny (model prog w) A (getAttr? (.ref a) "keys") Q E ⟨h,g,d,t,os⟩:=by
 have m:isSubtype (.type "AttributeError") (.type "AttributeError")=pure qc:=by rw[isSubtype_type];kernel_rfl
 unfold getAttr? getAttrBy?;refine aa (wpAny_mkText ?_);refine aa (wpAny_attempt (GG hh hx λe h' t' hk l=>?_));obtain⟨f,j,i⟩:=l;have c:(⟨h',g,d,t',os⟩:Shared).TypeIs (.ref e) "AttributeError":=⟨f,j,i⟩;refine aa (wpAny_isInstance c m ?_);rw[if_pos rfl];exact ac (hq h' t' hk)
end
def iH:entryFor table "dict.update.loop"=pi Builtin.«dict.update.loop»:=entryFor_of_tree rfl
def d6:plainId "dict.update.loop"=qc:=by decide+kernel
section
variable{E:ce}
def xE(ho:s.heap.get? t=pi o)(hc:o.cls= .type "tuple")(hd:o.data= .seq #[x,y] n)(h:Q [x,y] s):wpAny (model prog w) A (Builtin.Dict.pairItems (.ref t)) Q E s:=by unfold Builtin.Dict.pairItems;refine aa (wpAny_typeOf (T:="tuple") ⟨o,ho,hc⟩ ?_);rw[if_pos (by decide)];exact aa (wpAny_seqItems ho hd (ac h))
end
section
variable{X:Cx}{ad:Ad}{σ:L2.St}{R:Result->Shared->Prop}{G:Hp}{d l:Addr}
def CT(hh:A.handled=qb)res(hG:Same G H)(hn:G d=qb)(hl:SqL X.K G l vs)(hp:Paired (λv (p:Str×V)=>∃t,v= .ref t/\SqT X.K G t [.str p.1,p.2]) vs pv)(h1000:pv.length<=1000):
  ∀k i s es,pv.length-i=k->i<=pv.length->es.length<=i->Inv X cc σ (upd H d (.dK es)) s->pV X cc (upd H d (.dK es)) it->s.heap.IsListIter it l i->
   (∀s',Inv X cc σ (upd H d (.dK (iE es ((pv.drop i).map λp=>(pu p.1,p.2))))) s'->R (.ok (.ret res)) s')->
   codeAny (model X.prog X.w) A (.builtin "dict.update.loop" ⟨[.ref d,.ref it,rawInt i,res],[]⟩) R s:=by
 intro k
 have gh: ∀es,Same G (upd H d (.dK es)):=λes c u e=>by
  rw[aA (aJ e hn)];exact hG c u e
 have ak:vs.length=pv.length:=li hp
 induction k with
 |zero=>
  intro i s es hk hi he I Y st T
  have ad:i=pv.length:=by lia
  refine gzq λRz ez=>?_;obtain⟨Z,J,pl,_⟩:=I.list ((gh es).seq hl);obtain⟨f,L,f2,N,C,M⟩:=Y;have nl:=J.length;subst ez;refine codeAny_builtin iH ?_;rw[gi d6 _];show wpAny _ A.in1 (pyNext (.ref it) >>= _) _ _ s;refine aa (wpAny_pyNext_list_end hh st pl.isList (by simp;lia) λU Q=>?_)
  have m:Inv X cc σ (upd H d (.dK es)) {s with heap:=U}:=I.turned (t':=s.toks) (λb o W e=>Q b o W e) f L N C M
  show wpAny _ A.in1 (Builtin.Dict.addKeywords d [] >>= _) _ _ _;refine aa (ac (ac (T _ ?_)));rw[ad,jp];exact m
 |succ k ih=>
  intro i s es hk hi he I Y st T;have B:i<pv.length:=by lia
  obtain⟨Z,J,pl,_⟩:=I.list ((gh es).seq hl)
  obtain⟨v,p,e1,E,t,rfl,ht⟩: ∃v p,vs[i]? =pi v/\pv[i]? =pi p/\∃t,v= .ref t/\SqT X.K G t [.str p.1,p.2]:=by
   have e:vs[i]? =pi (vs[i]'(by lia)):=bd _
   obtain⟨p,E,r⟩:=jO hp e;exact⟨_,p,e,E,r⟩
  obtain⟨u,hu,ru⟩:=J.get e1
  cases (show u=pf t from ru)
  have nl:=J.length;obtain⟨f,L,f2,N,C,M⟩:=id Y;refine codeAny_builtin iH ?_;rw[gi d6 _];show wpAny _ A.in1 (pyNext (.ref it) >>= _) _ _ s;refine aa (wpAny_pyNext_list_item st pl.isList (x:=.ref t) (by simpa using hu) λU O sb=>?_)
  have m:Inv X cc σ (upd H d (.dK es)) {s with heap:=U}:=I.turned (t':=s.toks) (λb o W e=>(sb.2 b W).trans e) f L N C M
  obtain⟨ag,S,pt,_⟩:=m.tuple ((gh es).seqT ht);obtain⟨x,y,rfl,rx,ry⟩:=b9.two S;obtain⟨tk,rfl⟩:=(show ∃tk,x=pe p.1 tk from rx)
  obtain⟨ot,q1,q2,nt,q3⟩:=pt;obtain⟨z,hd,ab,j,dd⟩:=yV m.hok (aD (H:=H) (a:=d) (o:=.dK es))
  have hz:ab.length=es.length:=(KV.length j).symm
  refine aa (wpAny_holding (aa (wpAny_tryCatch (xE q1 q2 q3 ?_))));refine wpAny_holding (wpAny_dictSet_pairs (knd:=bE X.prog X.w) (k:=.inr p.1) (kY _ _ _ _) dd (λh2 n h=>?_) (by rw[hz,sizeLine_eq];lia))
  have hit:it≠d:=λz=>by rw[z,aD]at f;cases f
  have z2:(L2.putK es (.inr p.1) p.2).length<=es.length+1:=fV _ _ _
  have I3:Inv X cc σ (upd H d (.dK (L2.putK es (.inr p.1) p.2))) {s with heap:=h2,toks:=s.toks+1}:=by
   have:=jM (t':=s.toks+1) (ob:=.dK (L2.putK es (.inr p.1) p.2)) m (by rw[aD];exact oy) h (let ⟨q,_,_,hq,_⟩:=n;⟨q,hq⟩) (nB (by rw[sizeLine_eq];lia) hd (j.put (.inr p.1) ry) n)
   rw[xY]at this;exact this
  refine ac ⟨plainId_quiet d6 _,?_⟩
  have g:=ih (i+1) {s with heap:=h2,toks:=s.toks+1} (L2.putK es (.inr p.1) p.2) (by lia) (by lia) (by lia) I3 ⟨by rw[aA hit]at f ⊢;exact f,L,f2,N,C,M⟩ (O.extBut h.extBut hit) λs' Is=>T s' (by
   rw[dv B]
   have ep:pv[i]=p:=by rw[bd B]at E;exact jw E
   rw[ep,lm];exact Is)
  exact g
theorem vS: ∀{ds} {ps} {vs},kB ds=pi ps->aK X.K ad G ds vs->∃pv,Paired (λv (p:Str×V)=>∃t,v= .ref t/\SqT X.K G t [.str p.1,p.2]) vs pv/\Paired (λp q=>q.1=p.1/\Rep X.K ad G p.2 q.2) ps pv
 |[],ps,vs,h,r=>by
  cases h;unfold aK at r;subst r;exact⟨[],.nil,.nil⟩
 |d::ds,ps,vs,h,r=>by
  unfold aK at r;obtain⟨v,u,rfl,e,f⟩:=r;unfold kB at h;split at h;rename_i k x;obtain⟨w,m,rfl⟩:=zMd h;obtain⟨pv,n,j⟩:=vS m f;unfold Rep at e;obtain⟨t,y,rfl,i,c⟩:=e;unfold aK at c;obtain⟨o,z,rfl,q1,a⟩:=c;unfold aK at a;obtain⟨l,s,rfl,g,b⟩:=a;unfold aK at b;subst b;unfold Rep at q1;subst q1;exact⟨(k,l)::pv,.cons ⟨t,rfl,i⟩ n,.cons ⟨rfl,g⟩ j⟩;cases h
theorem vT: ∀{ps:L1 (Str×D)} {pv:L1 (Str×V)},Paired (λ(p:Str×D) q=>q.1=p.1/\Rep X.K ad G p.2 q.2) ps pv->∀{acc} {es},HR X.K ad G acc es->
  HR X.K ad G (ps.foldl (λacc p=>fJ acc p.1 p.2) acc) (iE es (pv.map λp=>(pu p.1,p.2)))
 |_,_,.nil,_,_,h=>h
 |_,_,.cons (a:=p) (b:=q) r t,acc,es,h=>by
  have c:=Aj h r.2 p.1;have:=vT t c;rw[lm];show HR X.K ad G _ (iE (L2.putK es (pu q.1) q.2) _);rw[r.1];exact this
def At(hc:X.calm=qc)(I:Inv X cc σ H s)(hG:Same G H)(r:Rep X.K ad G x v)(ru:bJ v u)(hr:RK X.K ad G H (m9 x) Q E):
  X.wp (call (.type "dict") [u]) (EP X cc σ Q) X.xe s:=by
 cases x<;>try exact ba hr
 rename_i ds;have f:RK X.K ad G H (match kB ds with|some h=>if h.length<=1000 then .ok (.dct ((tF h).map (·.1)) ((tF h).map (·.2)))else .bad|none=>.bad) Q E:=hr;rcases e:kB ds with _|h;rw[e]at f;exact f.elim;rw[e]at f;have g:RK X.K ad G H (if h.length<=1000 then .ok (.dct ((tF h).map (·.1)) ((tF h).map (·.2)))else .bad) Q E:=f;by_cases S:h.length<=1000;rw[if_pos S]at g;unfold Rep at r;obtain⟨l,vs,rfl,sq,rs⟩:=r;cases (show u=pf l from ru);obtain⟨pv,p1,p2⟩:=vS e rs;have hh:X.A.handled=qb:=I.ok.hd hc;obtain⟨m,rv,pl,_⟩:=I.list (hG.seq sq);have j:(s.heap.push {cls:=.type "dict",data:=.dict #[]}).DictOf (bE X.prog X.w) s.z []:=Heap.DictOf.new s.heap;have p:H s.z=qb:=I.hok.fresh (aj _);have I1:Inv X cc σ (upd H s.z (.dK [])) {s with heap:=s.heap.push {cls:=.type "dict",data:=.dict #[]} }:=I.laid (a:=s.z) (o:=.dK []) (t':=s.toks) (λ_ _ q=>ae _ q) (aj _) (oG s.heap I.bigK);refine callType_codes (Q₁:=λy i=>y= .ref s.z/\i={s with heap:=s.heap.push {cls:=.type "dict",data:=.dict #[]} }) F.kt_called_dict (F.kt_typeCall_dict_1 _) F.entry_dict_init (kt_code_dict_new _ ⟨rfl,rfl⟩) ?_;rintro y i ⟨rfl,rfl⟩;refine⟨j.typeIs,F.args_dict_init_2 _ _,?_⟩;unfold Builtin.«dict.__init__»;refine aa ?_;unfold Builtin.Dict.selfAndRest;refine aa (wpAny_notOrdered_dict j.typeIs ?_);show wpAny _ _ (pure (s.z,[pf l])) _ _ _;refine ac ?_;show wpAny _ _ (Builtin.Dict.updateFrom "dict.__init__" s.z (.ref l) [] .none) _ _ _;unfold Builtin.Dict.updateFrom;obtain⟨ol,M,J,ab,L,T⟩:=pl;have W:s.heap.get? l=pi {cls:=.type "list",dict:=qb,data:=.seq m.toArray M,slots:=ol.slots}:=by
  rw[J];obtain⟨c0,d0,a0,s0⟩:=ol;have c1:c0= .type "list":=ab;have d1:d0=qb:=L;have a1:a0= .seq m.toArray M:=T;rw[c1,d1,a1]
 have U:({s with heap:=s.heap.push {cls:=.type "dict",data:=.dict #[]} }:Shared).TypeIs (.ref l) "list":=⟨_,ae _ W,rfl⟩;refine aa (wpAny_typeOf U ?_);rw[if_pos (by decide)];refine aa (As (by exact hh) (ae _ W) λn t B=>?_);rw[if_pos (show(qb:L7 Value).isNone=qc from rfl)];refine aa (wpAny_rule ?_);have O:Inv X cc σ (upd H s.z (.dK [])) {s with heap:=n,toks:=t}:=I1.kept (t':=t) B;have C:n.IsList l m.toArray:=⟨_,B _ _ (ae _ W),rfl,M,rfl⟩;refine aa (wpAny_pyIter_list (s:={s with heap:=n,toks:=t}) C ?_);refine ac ⟨plainId_quiet d6 _,?_⟩;have I3:Inv X cc σ (upd H s.z (.dK [])) {s with heap:=n.push {cls:=.type "list_iterator",data:=.fields #[.ref l,.int 0 0]},toks:=t}:=O.kept (t':=t) λb o e=>ae _ e;refine CT (A:=X.A.in1) (d:=s.z) (it:=n.objs.size) (l:=l) hh .none hG (hG.free p) sq p1 (by rw[<-li p2];exact S) pv.length 0 _ [] (Nat.sub_zero _) (bu _) (aj _) I3 (O.fpOk (aj _) (O.hok.fresh (aj _))) ⟨_,af _ rfl,rfl,rfl⟩ λs' I'=>?_;rw[List.drop_zero]at I';have N:=vT p2 (acc:=[]) (es:=[]) .nil;obtain⟨Y,Z⟩:=N.rep;refine⟨rfl,oS (ad:=ad) I' hG (.inl p) (hG.free p) Y Z λv G' H' g1 g2 g3 g4 rr=>?_⟩;refine g v G' H' ⟨g2,g3,λc w e=>?_,λc z1 z2=>?_⟩ rr;rw[g4 c (λz=>by rw[z,p]at e;cases e)];exact e;by_cases z:c=s.z;rw[z];exact p;rw[g1 c z,z1]at z2;exact absurd rfl z2;rw[if_neg S]at g;exact g.elim
def CU(hc:X.calm=qc)(hg:L2.Gl X "dict")(hm:X.mg "dict"=qb)(ha:ME X ad a f)(he:starEach [a] X.env=(qe,eval a X.env)::starEach [] X.env):ME X ad (.Call (.Name "dict" p) [a] [] pos) (nA f):=by refine λx s n H Q I j=>j.el λG A E w h i t=>?_;refine wpAny_Call_Name_kw (f9 I hg hm (u:=.type "dict") (by decide+kernel) ?_ (by decide) (by decide));refine dm (L2.thn (bI ha cW he pos x s n H (λg c=>∃v d b,g=[v]/\Step G H b c/\Rep X.K ad b d v/\RK X.K ad b c (m9 d) Q E) I ?_) λz y ⟨g,c,l,q,v,d,b,o,e,r,k⟩=>?_) he rfl;exact eV w h i t λv d b c e r k=>⟨v,d,b,rfl,e,r,k⟩;subst o;obtain⟨u,rfl,m⟩:=lC q;exact At hc l e.gh r m k
end
def cJ(h:one l=pi a):l=[a]:=by unfold one at h;split at h;cases h;rfl;cases h
def gL(h:two l=pi (a,b)):l=[a,b]:=by unfold two at h;split at h;cases h;rfl;cases h
def aS(h:bY e=pi (x,p)):e= .Name x p:=by cases e<;>first|(cases h;rfl)|(cases h;done)
def CV(h:bY e=qb): ∀x p,e≠ .Name x p:=λx p z=>by subst z;cases h
def t7(h:Fy e=pi (es,k,p)):e= .Tuple es k p:=by cases e<;>first|(cases h;rfl)|(cases h;done)
def CW(h:Fz e=qc): ∃j p,e= .Constant (.int 1) j p:=by
 cases e<;>try (cases h;done)
 rename_i c j p;cases c<;>try (cases h;done)
 rename_i i;have:i=1:=by simpa[Fz]using h
 subst this;exact⟨j,p,rfl⟩
def GH(h:N3 e=qc): ∃j p q,e= .UnaryOp .USub (.Constant (.int 1) j q) p:=by
 cases e<;>try (cases h;done)
 rename_i a e p;cases a<;>try (cases h;done)
 obtain⟨j,q,rfl⟩:=CW (e:=e) h;exact⟨j,p,q,rfl⟩
def GI(h:N5 e=qc): ∃j p2 p3 p4,e= .Slice qb qb (pi (.UnaryOp .USub (.Constant (.int 1) j p4) p3)) p2:=by
 cases e<;>try (cases h;done)
 rename_i a c b p;cases a<;>try (cases h;done)
 cases c<;>try (cases h;done)
 cases b<;>try (cases h;done)
 obtain⟨j,q,r,rfl⟩:=GH h;exact⟨j,p,q,r,rfl⟩
def L8(h:JB dE C a=pi f): ∃x p b q,a= .Call (.Name x p) [b] [] q/\glo C x=pi (.py .range)/\dE b=pi f:=by unfold JB at h;split at h;rename_i l j e q;split at h;rename_i hk;obtain⟨⟨x,p⟩,g,h⟩:=zBd h;obtain⟨b,d,h⟩:=zBd h;split at h;rename_i i c;exact⟨x,p,b,q,by rw[aS g,cJ d,ju.mp hk],c,h⟩;cases h;cases h;cases h
def CY(e:FE dE C a=pi h): ∃x p b c q f g,a= .Call (.Name x p) [b,c] [] q/\glo C x=pi (.py .zip)/\dE b=pi f/\dE c=pi g/\h=qR f g:=by unfold FE at e;split at e;rename_i s r l q;split at e;rename_i hk;obtain⟨⟨x,p⟩,n,e⟩:=zBd e;obtain⟨⟨b,c⟩,j,e⟩:=zBd e;simp only at e;split at e;rename_i o i;obtain⟨f,d,e⟩:=zBd e;obtain⟨g,m,e⟩:=zMd e;exact⟨x,p,b,c,q,f,g,by rw[aS n,gL j,ju.mp hk],i,d,m,e.symm⟩;cases e;cases e;cases e
def dX{α:Type}{l:L1 α}(h:l.isEmpty=qc):l=[]:=ju.mp h
def gM:Expr->Prop
 |.Starred _ _=>False
 |_=>True
def aM(h:gM e):starEach (e::es) env=(qe,eval e env)::starEach es env:=by cases e<;>first|rfl|exact h.elim
def nJ:Expr->Prop
 |.Set _ _ _=>False
 |_=>True
def eK(h:nJ e):behindInMarks op e=qe:=by cases e<;>first|rfl|exact h.elim
def rV(h:nJ c):lastMarks [op,op'] [b,c]=qe:=by show behindInMarks op' c=qe;exact eK h
def oU(h: ∀a b c d,e≠ .Slice a b c d):yG e:=by intro o i;cases e<;>first|rfl|exact absurd rfl (h _ _ _ _)
def aO(h:bZ n C e=pi f):gM e/\nJ e/\∀a b c d,e≠ .Slice a b c d:=by
 cases n with
 |zero=>cases h
 |succ n=>cases e<;>first|(cases h;done)|(refine⟨trivial,trivial,?_⟩;intro a b c d z;cases z;done)
def eA(h:BQ n C e=pi f):gM e/\nJ e:=by
 cases n with
 |zero=>cases h
 |succ n=>
  by_cases a: ∃x p,e= .Name x p;obtain⟨x,p,rfl⟩:=a;exact⟨trivial,trivial⟩;have:bZ n C e=pi f:=by
   rw[<-h];cases e<;>first|rfl|exact absurd ⟨_,_,rfl⟩ a
  exact⟨(aO this).1,(aO this).2.1⟩
def rW(h:FH n C tt e=pi f):nJ e:=by
 cases n with
 |zero=>cases h
 |succ n=>cases e<;>first|trivial|exact(eA h).2
section
variable{ad:Ad}{X:Cx}{C:SK.Ctx}{n:Nat}
def sT(ad:Ad)(n:Nat):Prop:= ∀(X:Cx) (C:SK.Ctx) (e:Expr) (f:F),CtxOk X ad C->bZ n C e=pi f->ME X ad e f/\MT X ad e f/\∀op es p,e= .BoolOp op es p->MW X ad e f
def IN(ad:Ad)(n:Nat):Prop:= ∀(X:Cx) (C:SK.Ctx) (e:Expr) (f:F),CtxOk X ad C->BQ n C e=pi f->ML X ad e f
def Kt(ad:Ad)(n:Nat):Prop:= ∀(X:Cx) (C:SK.Ctx) (tg e:Expr) (tt:Bool) (f:F),CtxOk X ad C->(tt=qc->∃es k p,tg= .Tuple es k p)->FH n C tt e=pi f->MI X ad tg e f/\(tt=qe->(∀x p,e≠ .Name x p)->MIG X ad tg e f)
theorem oV(hE:sT ad n)(O:CtxOk X ad C): ∀{es} {fs},eG (bZ n C) es=pi fs->MA X ad es fs/\∀e∈es,gM e
 |[],fs,h=>by
  cases h;exact⟨zD,λ_ h=>by cases h⟩
 |e::es,fs,h=>by
  unfold eG at h;rcases b:bZ n C e with _|f;rw[b]at h;cases h;rw[b]at h;obtain⟨r,j,i⟩:=zMd h;subst i;obtain⟨q1,g⟩:=oV hE O j;have d:=(aO b).1;exact⟨oI (hE X C e f O b).1 q1 (aM d),λa c=>by
   rcases av.mp c with rfl|c;exact d;exact g a c⟩
theorem eL{α β}{f:α->L7 β}: ∀{l} {r},eG f l=pi r->r.length=l.length
 |[],r,h=>by cases h;rfl
 |x::l,r,h=>by
  unfold eG at h;rcases e:f x with _|y;rw[e]at h;cases h;rw[e]at h;obtain⟨c,b,a⟩:=zMd h;subst a;simp[eL b]
theorem vU{env}{pos}: ∀{es},(∀e∈es,gM e)->(backTo pos (starEach es env)).any (·.1)=qe
 |[],_=>rfl
 |e::es,h=>by
  rw[aM (h e (.head _))];show(qe||(backTo pos (starEach es env)).any (·.1))=qe;rw[vU λa b=>h a (.tail _ b)];rfl
def Ng(hE:sT ad n)(hL:IN ad n)(O:CtxOk X ad C)(hg:glo C x=pi (.py p))(h:FG (bZ n C) (BQ n C) C p as=pi f):ME X ad (.Call (.Name x np) as [] pos) f:=by obtain⟨m,q,o,l⟩:=O.gl hg;unfold FG at h;split at h;have e:=zBd h;clear h;obtain⟨a,j,h⟩:=e;cases cJ j;obtain⟨i,d,rfl⟩:=zMd h;subst o;exact oJ zH m l (by decide+kernel) (hL X C _ i O d) (by decide) q (aM (eA d).1);have e:=zBd h;clear h;obtain⟨a,j,h⟩:=e;cases cJ j;obtain⟨i,d,rfl⟩:=zMd h;subst o;exact zG FX m l (by decide+kernel) (hL X C _ i O d) (by decide) q (aM (eA d).1);have e:=zBd h;clear h;obtain⟨a,j,h⟩:=e;cases cJ j;obtain⟨i,d,rfl⟩:=zMd h;subst o;exact zG zI m l (by decide+kernel) (hL X C _ i O d) (by decide) q (aM (eA d).1);have e:=zBd h;clear h;obtain⟨a,j,h⟩:=e;cases cJ j;subst o;rcases d:BQ n C a with _|i;rw[d]at h;obtain⟨i,r,rfl⟩:=zMd h;obtain⟨y,Q,b,c,L,B,z,rfl,E,s,t,rfl⟩:=CY r;obtain⟨G,K,J,A⟩:=O.gl E;subst J;exact tZ G A m l O.calm (hE X C _ B O s).1 (hE X C _ z O t).1 (aM (aO s).1) (aM (aO t).1);rw[d]at h;cases h;exact zG Cl m l (by decide+kernel) (hL X C _ i O d) (by decide) q (aM (eA d).1);have e:=zBd h;clear h;obtain⟨a,j,h⟩:=e;cases cJ j;obtain⟨i,d,rfl⟩:=zMd h;subst o;exact oJ (FY O.hd) m l (by decide+kernel) (hL X C _ i O d) (by decide) q (aM (eA d).1);have e:=zBd h;clear h;obtain⟨a,j,h⟩:=e;cases cJ j;obtain⟨i,d,rfl⟩:=zMd h;subst o;exact oJ (FZ O.hd) m l (by decide+kernel) (hL X C _ i O d) (by decide) q (aM (eA d).1);cases h;cases h;cases h;cases h;cases h;have e:=zBd h;clear h;obtain⟨⟨a,b⟩,j,h⟩:=e;cases gL j;have e:=zBd h;clear h;obtain⟨⟨tn,M⟩,H,h⟩:=e;cases aS H;obtain⟨i,d,h⟩:=zBd h;obtain⟨g,I,h⟩:=zBd h;obtain⟨P,r,rfl⟩:=zMd h;subst o;obtain⟨N,u,v⟩:=Ey O I r;by_cases w:bsN C a=qc;rw[if_pos w]at d;exact tW O.exc m l u v (hL X C _ i O d) (aM (eA d).1);rw[if_neg w]at d;exact tW O.exc m l u v (hE X C _ i O d).1.ml (aM (aO d).1);cases h
def rX(h:ME X ad e f)(ht: ∀whole,isTrue e X.env whole=(do let v<-whole;standAt e.pos;holding [v] (truthy v)))(hb: ∀op es p,e≠ .BoolOp op es p):ME X ad e f/\MT X ad e f/\∀op es p,e= .BoolOp op es p->MW X ad e f:=
 ⟨h,El h ht,λop es p z=>absurd z (hb op es p)⟩
def Au(h:MW X ad e f):MT X ad e f:=λb s a H Q I t=>h _ b s a H Q I t
def Ku{tg}(h:cF tg=pi (xs,k)):xs.length=(if k=0 then 1 else k)/\((k != 0)=qc->∃es j p,tg= .Tuple es j p):=by
 cases tg<;>try (cases h;done)
 cases h;exact⟨rfl,λz=>absurd z (by decide)⟩;rename_i es j p;unfold cF at h;obtain⟨c,d,a⟩:=zBd h;by_cases b:2<=c.length;rw[if_pos b]at a;cases a;exact⟨by rw[if_neg (by lia)],λ_=>⟨es,j,p,rfl⟩⟩;rw[if_neg b]at a;cases a
def nL(hE:sT ad n)(hI:Kt ad n)(O:CtxOk X ad C){elt tg it}(h:bZ (n+1) C (.ListComp elt [⟨tg,it,ifs,0⟩] sc pos)=pi f):
  ∃xs k cs fi fc fe,f=bS k cs fi fc fe/\(cF tg=pi (xs,k)/\bZ n {C with sc:=sc,N:=xs++bF sc} elt=pi fe)/\CompSc X C sc xs cs/\MI X ad tg it fi/\(∀a b c,it≠ .Set a b c)/\xs.length=(if k=0 then 1 else k)/\(∀fp s3 H3 pins',PG (cX X (xs++bF sc) sc s3 H3 fp pins') tg (gTg X.K k))/\
   (∀fp s3 H3 pins',MTs (cX X (xs++bF sc) sc s3 H3 fp pins') ad ifs fc)/\∀fp s3 H3 pins',ME (cX X (xs++bF sc) sc s3 H3 fp pins') ad elt fe:=by
 have B:((cF tg).bind fun(xs,k)=>(FH n C (k != 0) it).bind fun fi=>if lK sc xs then
    (eG (λx=>fK C x) (bF sc)).bind λcs=>(match ifs with
    |[]=>pi qb
    |[c]=>(bZ n {C with sc:=sc,N:=xs++bF sc} c).map pi
    |_=>qb).bind λc=>(bZ n {C with sc:=sc,N:=xs++bF sc} elt).map λe=>bS k cs fi c e
   else qb)=pi f:=h
 clear h;obtain⟨⟨xs,k⟩,p,h⟩:=zBd B;obtain⟨fi,u,h⟩:=zBd h;obtain⟨G,E⟩:=Ku p;by_cases m:lK sc xs=qc;rw[if_pos m]at h;obtain⟨cs,v,h⟩:=zBd h;obtain⟨fc,q,h⟩:=zBd h;obtain⟨fe,t,A⟩:=zMd h;obtain⟨I,y,s,M,w,J,L⟩:=jR m;have o: ∀fp s3 H3 pins',CtxOk (cX X (xs++bF sc) sc s3 H3 fp pins') ad {C with sc:=sc,N:=xs++bF sc}:=λfp s3 H3 pins'=>Kg O m v;refine⟨xs,k,cs,fi,fc,fe,A.symm,⟨p,t⟩,Aa O m v,(hI X C tg it _ fi O E u).1,λa b c z=>?_,G,λfp s3 H3 pins'=>?_,λfp s3 H3 pins'=>?_,λfp s3 H3 pins'=>(hE _ _ elt fe (o fp s3 H3 pins') t).1⟩;subst z;exact rW u;by_cases d:qV sc=[];case neg=>
  rcases y with z|⟨z,l⟩;exact absurd z d;obtain⟨x,rfl⟩:=fq.mp l;refine Gq (X:=cX X ([x]++bF sc) sc s3 H3 fp pins') (x:=x) w p rfl rfl ?_ (decide_eq_true z);show(relabel sc X.env).names.lookup x=pi .cell;have j:=cM (env:=X.env) (x:=x) (names:=sc.names);rw[s x (.head _),z]at j;exact j
 refine M9 (X:=cX X (xs++bF sc) sc s3 H3 fp pins') O.calm w p λi x r=>⟨?_,?_⟩;show(xs++bF sc)[i]? =pi x;rw[bx (ay.mp r).1];exact r;show(relabel sc X.env).names.lookup x=pi .local;have j:=cM (env:=X.env) (x:=x) (names:=sc.names);rw[s x (List.mem_of_getElem? r),d]at j;exact j;split at q;cases q;trivial;obtain⟨g,H,rfl⟩:=zMd q;exact(hE _ _ _ g (o fp s3 H3 pins') H).2.1;cases q;rw[if_neg m]at h;cases h
def iZ{C}(h:atF C f e=pi i): ∃x p q,e= .Attribute (.Name x p) f q/\loc C x=pi i:=by
 unfold atF at h;obtain⟨⟨o,g,q⟩,c,j⟩:=zBd h;have a:(if g=f then(bY o).bind λ(x,_)=>loc C x else qb)=pi i:=j;by_cases b:g=f;rw[if_pos b]at a;subst b;obtain⟨⟨x,p⟩,l,d⟩:=zBd a;cases aS l;refine⟨x,p,q,?_,d⟩;cases e<;>first|(cases c;rfl)|(cases c;done)
 rw[if_neg b]at a;cases a
def oW{C}(h:II C e=pi (i,b)): ∃x p q,e= .Attribute (.Name x p) (if b then "done" else "undone") q/\loc C x=pi i:=by unfold II at h;split at h;rename_i j a;cases h;exact iZ a;obtain⟨j,c,d⟩:=zMd h;cases d;exact iZ c
def oX(hs: ∀e∈es,gM e)(hl:es.length<20):methodCallForm (es.length+([]:L1 Keyword).length) (backTo cp (starEach es env)) (backToKw cp (keywordEach [] env))=qc:=by
 have all: ∀es:L1 Expr,(∀e∈es,gM e)->(backTo cp (starEach es env)).all (!·.1)=qc/\(backTo cp (starEach es env)).any (·.1)=qe:=by
  intro es;induction es with
  |nil=>intro _;exact⟨rfl,rfl⟩
  |cons e es c=>
   intro hs;obtain⟨a,b⟩:=c λe d=>hs e (.tail _ d);rw[aM (hs e (.head _))];exact⟨a,b⟩
 unfold methodCallForm;rw[(all es hs).1];show(qc&&qc&&decide (es.length+0+0<30))=qc;simp;lia
def g9(hs: ∀e∈es,gM e):(backTo cp (starEach es env)).any (·.1)=qe:=by
 induction es with
 |nil=>rfl
 |cons e es a=>
  rw[aM (hs e (.head _))];exact a λe b=>hs e (.tail _ b)
def Nh{X}(h:gM e)(hl:(ap.endLine==cp.line)=qc):M1 X (.Attribute (.Name x p) "held" pos) "get" ap e cp:=by refine⟨rfl,?_,hl,?_⟩;rw[aM h];rfl;rw[aM h];rfl
def GJ(hE:sT ad n)(O:CtxOk X ad C)(h:LZ (bZ n C) C e=pi f):ME X ad e f/\MT X ad e f/\∀op es p,e= .BoolOp op es p->MW X ad e f:=by
 unfold LZ at h;rcases E:rkc C with _|am;rw[E]at h;cases h;obtain⟨A,ms⟩:=am;rw[E]at h;have J:Nd X ad "Rack" (.cls A ms):=by
  unfold rkc at E;split at E;rename_i a' ag e';cases E;exact(O.gt _ _ e').2;cases E
 obtain⟨_,B,MO⟩:=J;simp only at h;split at h;rename_i a op cs pos;have c:=zBd h;clear h;obtain⟨b,K,h⟩:=c;cases cJ K;unfold JC at h;split at h;rename_i H w;have c:=zBd h;clear h;obtain⟨i,s,h⟩:=c;obtain⟨g,u,rfl⟩:=zMd h;obtain⟨x,p,q,rfl,v⟩:=iZ s;obtain⟨d,l,t,j⟩:=O.vis x i v;have S:op=if H then .NotIn else .In:=by
  cases op<;>first|(cases w;rfl)|(cases w;done)
 subst S;have go:=Kp (p:=p) (ap:=q) O.un B d l t j (hE X C _ g O u).1 H;exact⟨IY go (eK trivial),vQ (eK trivial) λI hG hS c hr=>go _ _ _ _ _ I ⟨_,_,_,hG,hS,c,hr⟩,λ_ _ _ z=>nomatch z⟩;have c:=zBd h;clear h;obtain⟨⟨i,N⟩,s,h⟩:=c;obtain⟨g,u,rfl⟩:=zMd h;obtain⟨x,p,q,rfl,v⟩:=oW s;obtain⟨d,l,t,j⟩:=O.vis x i v;have la:=(Ez (ad:=ad) (p:=p) (pos:=q) B d l t j N).lk;have lb:=(hE X C _ g O u).1.look;have m:=(aO u).2.1;exact⟨Gy O.un la lb (eK m),Gz O.un la lb (eK m),λ_ _ _ z=>nomatch z⟩;rename_i a b pos;have c:=zBd h;clear h;obtain⟨i,s,h⟩:=c;obtain⟨g,u,rfl⟩:=zMd h;obtain⟨x,p,q,rfl,v⟩:=iZ s;obtain⟨d,l,t,j⟩:=O.vis x i v;exact rX (GA O.un B d l t j (hE X C _ g O u).1 (oU (aO u).2.2)) (λ_=>rfl) (λ_ _ _ z=>nomatch z);rename_i fe as ab cp;split at h;rename_i hk;cases ju.mp hk;split at h;rename_i o m ap;split at h;rename_i Z;unfold JD at h;split at h;rename_i x p hv;cases aS hv;have c:=zBd h;clear h;obtain⟨i,s,h⟩:=c;have c:=zBd h;clear h;obtain⟨⟨n0,M⟩,u,h⟩:=c;obtain⟨d,l,t,j⟩:=O.vis x i s;simp only at h;split at h;rename_i G;have c:=zBd h;clear h;obtain⟨fs,h3,h⟩:=c;split at h;rename_i hn;cases h;obtain⟨ma,T⟩:=oV hE O h3;exact rX (Kr B (MO m n0 M u) d l t j ma hn (λa r e=>by
  subst e;exact⟨aM (T a (.head _)),g9 λe he=>T e (.tail _ he)⟩) (eL h3).symm (oX T G) Z) (λ_=>rfl) (λ_ _ _ z=>nomatch z)
 cases h;cases h;split at h;rename_i hm;subst hm;have c:=zBd h;clear h;obtain⟨i,s,h⟩:=c;have c:=zBd h;clear h;obtain⟨a,K,h⟩:=c;cases cJ K;obtain⟨g,u,rfl⟩:=zMd h;obtain⟨x,p,q,rfl,v⟩:=iZ s;obtain⟨d,l,t,j⟩:=O.vis x i v;exact rX (GB O.un B d l t j (hE X C _ g O u).1 (Nh (aO u).1 Z)) (λ_=>rfl) (λ_ _ _ z=>nomatch z);cases h;cases h;rename_i x p;have c:=zBd h;clear h;obtain⟨a,K,h⟩:=c;cases cJ K;unfold N6 at h;split at h;rename_i W;obtain⟨i,s,rfl⟩:=zMd h;obtain⟨y,py,q,rfl,v⟩:=iZ s;refine gzq λRz ez=>?_;obtain⟨d,l,t,j⟩:=O.vis y i v;obtain⟨Q,Y,L,U⟩:=O.gl W;subst ez;cases (show x="sorted" from L);exact rX (GD O.calm B Q U d l t j) (λ_=>rfl) (λ_ _ _ z=>nomatch z);rename_i W;have c:=zMd h;clear h;obtain⟨⟨i,N⟩,s,rfl⟩:=c;obtain⟨y,py,q,rfl,v⟩:=oW s;refine gzq λRz ez=>?_;obtain⟨d,l,t,j⟩:=O.vis y i v;obtain⟨Q,Y,L,U⟩:=O.gl W;subst ez;cases (show x="len" from L);exact rX (oJ zH Q U (by decide+kernel) (Ez B d l t j N) (by decide) Y rfl) (λ_=>rfl) (λ_ _ _ z=>nomatch z);cases h;cases h;cases h;cases h
def Ni{X}(ha:gM a)(hb:gM b)(hl:(ap.endLine==cp.line)=qc):M2 X (.Name x p) "get" ap a b cp:=by refine⟨rfl,?_,hl,?_⟩;rw[aM ha,aM hb];rfl;rw[aM ha,aM hb];rfl
def Kv(hE:sT ad n)(O:CtxOk X ad C)(h:dkE (bZ n C) C e=pi f):ME X ad e f/\MT X ad e f/\∀op es p,e= .BoolOp op es p->MW X ad e f:=by
 unfold dkE at h;split at h;rename_i J I s G;split at h;rename_i hk;cases ju.mp hk;split at h;rename_i o m E;split at h;rename_i t;obtain⟨rfl,A,w⟩:=t;have c:=zBd h;clear h;obtain⟨⟨a,b⟩,g,h⟩:=c;cases gL g;have c:=zBd h;clear h;obtain⟨fo,d,h⟩:=c;have c:=zBd h;clear h;obtain⟨i,l,h⟩:=c;obtain⟨u,j,rfl⟩:=zMd h;cases o<;>try (cases A;done)
 exact rX (CS O.un (hE X C _ fo O d).1 (hE X C _ i O l).1 (hE X C _ u O j).1 (Ni (aO l).1 (aO j).1 w)) (λ_=>rfl) (λ_ _ _ z=>nomatch z);cases h;rename_i x p;have c:=zBd h;clear h;obtain⟨a,g,h⟩:=c;cases cJ g;split at h;rename_i H q;obtain⟨i,d,rfl⟩:=zMd h;obtain⟨y,B,v,r⟩:=O.gl q;cases (show x="dict" from v);exact rX (CU O.calm y r (hE X C _ i O d).1 (aM (aO d).1)) (λ_=>rfl) (λ_ _ _ z=>nomatch z);cases h;cases h;cases h;cases h
def Av(hE:sT ad n)(O:CtxOk X ad C)(h:rkE (bZ n C) C e=pi f):ME X ad e f/\MT X ad e f/\∀op es p,e= .BoolOp op es p->MW X ad e f:=by unfold rkE at h;rcases a:LZ (bZ n C) C e with _|g;rw[a]at h;exact Kv hE O h;rw[a]at h;cases h;exact GJ hE O a
def GK(h:MR l=pi (a,b)):l=[a,b]:=by unfold MR at h;split at h;cases h;rfl;cases h
def uA(h:JE o=pi x): ∃j p,o=pi (.Constant (.str x) j p):=by unfold JE at h;have a:=zBd h;clear h;obtain⟨e,rfl,h⟩:=a;split at h;split at h;cases h;exact⟨_,_,rfl⟩;cases h;cases h
def Kw(hE:sT ad n)(O:CtxOk X ad C)(h:dkD (bZ n C) ks vs=pi f):ME X ad (.Dict ks vs pos) f:=by unfold dkD at h;split at h;rename_i hk;rw[aw]at hk;cases ju.mp hk.1;cases ju.mp hk.2;cases h;exact CN;split at h;rename_i o;obtain⟨k,c,h⟩:=zBd h;obtain⟨v,g,h⟩:=zBd h;obtain⟨x,e,h⟩:=zBd h;obtain⟨d,b,rfl⟩:=zMd h;cases cJ g;obtain⟨s,rfl⟩:=fq.mp o;cases c;obtain⟨j,p,rfl⟩:=uA e;exact CO (hE X C _ d O b).1;have a:=zBd h;clear h;obtain⟨⟨z,q⟩,c,h⟩:=a;cases GK c;have a:=zBd h;clear h;obtain⟨⟨r,w⟩,g,h⟩:=a;cases gL g;have a:=zBd h;clear h;obtain⟨x,e,h⟩:=a;have a:=zBd h;clear h;obtain⟨y,b,h⟩:=a;have a:=zBd h;clear h;obtain⟨d,l,h⟩:=a;obtain⟨m,i,rfl⟩:=zMd h;obtain⟨A,B,rfl⟩:=uA e;obtain⟨t,u,rfl⟩:=uA b;exact CQ (hE X C _ d O l).1 (hE X C _ m O i).1
def Nj(hE:sT ad n)(hL:IN ad n)(hI:Kt ad n):sT ad (n+1):=by
 intro X C e f O h;unfold bZ at h;split at h
 .
  rename_i x pos;refine rX ?_ (λ_=>rfl) (λ_ _ _ z=>nomatch z)
  cases M:loc C x with
  |some i=>
   rw[M]at h;cases h;obtain⟨v1,v2,v3,v4⟩:=O.vis x i M;exact yS v1 v2 v3 v4
  |none=>
   rw[M]at h
   simp only at h
   split at h
   .rename_i d w;cases h;refine gzq λRz ez=>?_;obtain⟨B,H,u,v,g3,g4,g5⟩:=O.gl w;subst ez;exact yT B g3 g4 g5 H
   .rename_i k0 n0 f0 w;cases h;refine gzq λRz ez=>?_;obtain⟨B,H,r,f,T,hr,hf⟩:=O.gl w;subst ez;subst hf;exact yT (v:=.ref (ad.fnA k0)) B T.mg rfl (λG=>by unfold Rep;rfl) H
   .cases h
 .obtain⟨d,g,rfl⟩:=zMd h;exact rX (gX g) (λ_=>rfl) (λ_ _ _ z=>nomatch z)
 .obtain⟨j,g,h⟩:=zBd h;obtain⟨l,q,rfl⟩:=zMd h;exact rX (Ed (hE X C _ j O g).1 (hE X C _ l O q).1) (λ_=>rfl) (λ_ _ _ z=>nomatch z)
 .obtain⟨j,g,h⟩:=zBd h;obtain⟨q1,t,_⟩:=hE X C _ j O g;split at h
  .cases h;exact⟨JQ q1,Em t,λ_ _ _ z=>nomatch z⟩
  .cases h;exact rX (Ei q1) (λ_=>rfl) (λ_ _ _ z=>nomatch z)
  .cases h
 .rename_i op es pos;split at h
  .rename_i a b;obtain⟨j,g,h⟩:=zBd h;obtain⟨l,q,rfl⟩:=zMd h;obtain⟨q1,t,_⟩:=hE X C _ j O g;obtain⟨E,U,_⟩:=hE X C _ l O q
   cases op with
   |And=>
    have W:MW X ad (.BoolOp .And [a,b] pos) (kO j l):=Eo t (zB U);exact⟨Ej q1 (Ek E),Au W,λ_ _ _ _=>W⟩
   |Or=>
    have W:MW X ad (.BoolOp .Or [a,b] pos) (rOr j l):=FV t (zB U);exact⟨JS q1 (Ek E),Au W,λ_ _ _ _=>W⟩
  .rename_i a b c r;obtain⟨j,g,h⟩:=zBd h;obtain⟨l,q,rfl⟩:=zMd h;obtain⟨q1,t,_⟩:=hE X C _ j O g;obtain⟨E,U,r3⟩:=hE X C _ l O q
   cases op with
   |And=>
    have W:MW X ad (.BoolOp .And (a::b::c::r) pos) (kO j l):=Eo t (r3 _ _ _ rfl);exact⟨Ej q1 E,Au W,λ_ _ _ _=>W⟩
   |Or=>
    have W:MW X ad (.BoolOp .Or (a::b::c::r) pos) (rOr j l):=FV t (r3 _ _ _ rfl);exact⟨JS q1 E,Au W,λ_ _ _ _=>W⟩
  .cases h
 .split at h
  .rename_i fr s;cases h;exact Av hE O s
  rename_i m;clear m;split at h
  .have I:=zBd h;clear h;obtain⟨b,Y,h⟩:=I
   cases cJ Y
   obtain⟨j,g,h⟩:=zBd h;obtain⟨l,q,rfl⟩:=zMd h;exact⟨JV O.un (hE X C _ j O g).1 (hE X C _ l O q).1 (eK (aO q).2.1),Ep O.un (hE X C _ j O g).1 (hE X C _ l O q).1 (eK (aO q).2.1),λ_ _ _ z=>nomatch z⟩
  .have I:=zBd h;clear h;obtain⟨⟨b,c⟩,Y,h⟩:=I
   cases gL Y
   obtain⟨j,g,h⟩:=zBd h;obtain⟨l,q,h⟩:=zBd h;obtain⟨L,J,rfl⟩:=zMd h;exact⟨Cj O.un (hE X C _ j O g).1 (hE X C _ l O q).1 (hE X C _ L O J).1 (rV (aO J).2.1),Ck O.un (hE X C _ j O g).1 (hE X C _ l O q).1 (hE X C _ L O J).1 (rV (aO J).2.1),λ_ _ _ z=>nomatch z⟩
  .cases h
 .exact rX (Kw hE O h) (λ_=>rfl) (λ_ _ _ z=>nomatch z)
 .split at h
  .rename_i Q;obtain⟨fs,g,rfl⟩:=zMd h;exact rX (JW (oV hE O g).1 (by rw[eL g];exact Q)) (λ_=>rfl) (λ_ _ _ z=>nomatch z)
  .cases h
 .split at h
  .rename_i Q;obtain⟨fs,g,rfl⟩:=zMd h;exact rX (Er (oV hE O g).1 (by rw[eL g];exact Q)) (λ_=>rfl) (λ_ _ _ z=>nomatch z)
  .cases h
 .
  rename_i a b pos;split at h
  .rename_i fr s;cases h;exact Av hE O s
  rename_i m;clear m;have I:=zBd h;clear h;obtain⟨j,g,h⟩:=I;obtain⟨l,q,rfl⟩:=zMd h;exact rX (JY (hL X C _ j O g).lk (hE X C _ l O q).1 (oU (aO q).2.2)) (λ_=>rfl) (λ_ _ _ z=>nomatch z)
 .
  rename_i am ag sc pos;refine rX ?_ (λ_=>rfl) (λ_ _ _ z=>nomatch z)
  split at h
  .rename_i tg it ak as;split at h
   .rename_i ha;subst ha;obtain⟨xs,k,cs,fi,L,fe,rfl,_,S,hi,A,N,hg,K,Z⟩:=nL (pos:=pos) hE hI O h;exact F6 O.calm S hi A N hg K Z
   .cases h
  .cases h
 .
  rename_i f' as al pos;split at h
  .rename_i fr s;cases h;exact Av hE O s
  rename_i m;clear m;refine rX ?_ (λ_=>rfl) (λ_ _ _ z=>nomatch z)
  split at h
  .rename_i ab
   cases dX ab
   split at h
   .rename_i x np;split at h
    .cases h
    .split at h
     .rename_i k1 k2 fn w
      by_cases y:as.isEmpty=qc
      .rw[if_pos y]at h;cases h
      rw[if_neg y]at h;obtain⟨fs,g,h⟩:=zBd h;split at h
      .rename_i hk;cases h;obtain⟨B,H,r,j,T,hr,_⟩:=O.gl w;obtain⟨q1,t⟩:=oV hE O g
       cases as with
       |nil=>exact absurd rfl y
       |cons a es=>exact F3 T hr B H q1 hk (aM (t a (.head _))) (vU λe Z=>t e (.tail _ Z))
      .cases h
     .rename_i p w;exact Ng hE hL O w h
     .cases h
   .cases h
  .cases h
 .cases h
def Nk(hE:sT ad n):IN ad (n+1):=by intro X C e f O h;unfold BQ at h;split at h;rename_i x p;rcases a:loc C x with _|i;rw[a]at h;exact(hE X C _ f O h).1.ml;rw[a]at h;cases h;obtain⟨b,c,d,g⟩:=O.vis x i a;exact zE b c d g;exact(hE X C _ f O h).1.ml
def GL(hE: ∀m,m<n->sT ad m){X}{C}(O:CtxOk X ad C)(hn: ∀x p,e≠ .Name x p)(h:BQ n C e=pi f):ME X ad e f:=by
 cases n with
 |zero=>cases h
 |succ n=>
  have:bZ n C e=pi f:=by
   rw[<-h];cases e<;>first|rfl|exact absurd rfl (hn _ _)
  exact(hE n (jm _) X C e f O this).1
def Nl(hE: ∀m,m<n+1->sT ad m)(hL:IN ad n):Kt ad (n+1):=by
 intro X C tg e A f O w h;have c:=hE n (jm _);unfold FH at h;have g: ∀{x:Str} {j:L1 Expr} {t q:Pos},yN (bZ n C) C A x j=pi f->MI X ad tg (.Call (.Name x t) j [] q) f/\(A=qe->MIG X ad tg (.Call (.Name x t) j [] q) f):=by
  intro x j t q h;unfold yN at h;split at h;rename_i a v;obtain⟨s,i,rfl⟩:=zMd h;obtain⟨l,B,r,o⟩:=O.gl v;subst r;have d:=(c X C _ s O i).1;exact⟨Cr l o d (aM (aO i).1),λ_=>zT l o d (aM (aO i).1)⟩;rename_i a b v;split at h;rename_i u;obtain⟨s,i,h⟩:=zBd h;obtain⟨H,y,rfl⟩:=zMd h;obtain⟨l,B,r,o⟩:=O.gl v;subst r;obtain⟨L,k,p,rfl⟩:=w u;have I:=(c X C _ s O i).1;have G:=(c X C _ H O y).1;exact⟨Ki l o I G (aM (aO i).1) (aM (aO y).1),λz=>by rw[z]at u;cases u⟩;cases h;cases h
 split at h;rename_i M j E q;split at h;rename_i x p;split at h;exact⟨(g h).1,λz _=>(g h).2 z⟩;exact⟨(g h).1,λz _=>(g h).2 z⟩;exact⟨(g h).1,λz _=>(g h).2 z⟩;have d:=(c X C _ f O h).1;exact⟨zR d.ml,λ_ _=>tU d⟩;have d:=(c X C _ f O h).1;exact⟨zR d.ml,λ_ _=>tU d⟩;refine⟨zR (hL X C _ f O h),λ_ J=>tU (GL (λm K=>hE m (by lia)) O J h)⟩
def dY: ∀n,sT ad n/\IN ad n/\Kt ad n:=by
 have d: ∀n, ∀m,m<=n->sT ad m/\IN ad m/\Kt ad m:=by
  intro n;induction n with
  |zero=>
   intro m j;have:m=0:=by lia
   subst this;refine⟨?_,?_,?_⟩;intro X C e f O h;unfold bZ at h;cases h;intro X C e f O h;unfold BQ at h;cases h;intro X C tg e l f O _ h;unfold FH at h;cases h
  |succ n i=>
   intro m j;by_cases g:m<=n;exact i m g;have:m=n+1:=by lia
   subst this;obtain⟨a,b,c⟩:=i n (aj _);exact⟨Nj a b c,Nk a,Nl (λm j=>(i m (by lia)).1) b⟩
 exact λn=>d n n (aj _)
end
abbrev L9:L1 Value:=[.type "ValueError",.type "Exception",.type "BaseException",.type "object"]
structure StOk(X:Cx)(ad:Ad)(C:SK.Ctx):Prop where
 cx:CtxOk X ad C
 fn: ∀x,X.fn x=qc
 sc:X.env.scope=C.sc
 lc: ∀x i,loc C x=pi i->Loc X.env.scope x
 exm: ∀c,exmOne X.K (.ref (ad.cls c)) (.ref (ad.cls 0))=pi qc
 exi: ∀c,excIn X.K (ad.cls c) L9 "ValueError.__new__"=qc
def Zt(ad:Ad)(E₀:XK)(t:Bool):(St->Nat->Hp->Prop)->Prop:=λE=>t=qe->∀σ c H,E σ c H->E₀ (.ref (ad.cls c)) qb H
section
variable{X:Cx}{ad:Ad}{C:SK.Ctx}{E₀:XK}{t:Bool}{e tg:Expr}{g h:FS}{x:Str}{st:Stmt}
def StOk.nm(O:StOk X ad C)(h:loc C x=pi i):L6 X x i:=⟨(O.cx.vis x i h).1,O.lc x i h,.inl (O.fn x)⟩
theorem StOk.nms(O:StOk X ad C): ∀{xs} {is},eG (λx=>loc C x) xs=pi is->NmsOk X xs is
 |[],_,h=>by cases h;exact .nil
 |x::xs,is,h=>by
  unfold eG at h;rcases e:loc C x with _|j;rw[e]at h;cases h;rw[e]at h;obtain⟨r,b,a⟩:=zMd h;subst a;exact .cons (O.nm e) (O.nms b)
def xF: ∃b,swapsWith (.ListComp elt gens sc cpos) (pi (.Name x pos')) line env=pure b:=⟨_,rfl⟩
def Kx{C}{e a}(h:Cc C e=pi a): ∃y p q,e= .Call (.Name y p) [a] [] q/\glo C y=pi (.py .dict):=by unfold Cc at h;split at h;split at h;rename_i hk;cases ju.mp hk;have c:=zBd h;clear h;obtain⟨⟨y,p⟩,g,h⟩:=c;cases aS g;have c:=zBd h;clear h;obtain⟨b,f,h⟩:=c;cases cJ f;split at h;rename_i i d;cases h;exact⟨_,_,_,rfl,d⟩;cases h;cases h;cases h
def Aw(O:StOk X ad C)(h:bZ 50 C e=pi f)(hi:loc C x=pi i):PS X (.Assign [.Name x pos'] e pos) (Fk (tE X ad f) (k9 i)):=by
 obtain⟨u,B,q⟩:=dY (ad:=ad) 49;obtain⟨s,_,_⟩:=dY (ad:=ad) 50;have nm:=O.nm hi;have o:=(s X C e f O.cx h).1;by_cases p: ∃elt gens sc cpos,e= .ListComp elt gens sc cpos;obtain⟨elt,gens,sc,cpos,rfl⟩:=p;obtain⟨b,n⟩:=xF (x:=x) (pos':=pos') (elt:=elt) (gens:=gens) (sc:=sc) (cpos:=cpos) (line:=pos.line) (env:=X.env);rcases b with _|_;exact j8 O.cx.nd nm.1 nm.2.1 o n nm.2.2;have c: ∃tg l a,gens=[⟨tg,l,a,0⟩]:=by
  unfold bZ at h;simp only at h;split at h;rename_i tg l a z;split at h;rename_i v;subst v;exact⟨_,_,_,rfl⟩;cases h;cases h
 obtain⟨tg,l,a,rfl⟩:=c;obtain⟨H,k,y,G,w,E,rfl,_,S,m,d,j,t,g,r⟩:=nL u q O.cx h;exact Gn O.cx.nd nm O.cx.calm S m d j t g r n;refine j8 O.cx.nd nm.1 nm.2.1 o ?_ nm.2.2;have A:=aO h;cases e<;>first|rfl|exact absurd ⟨_,_,_,_,rfl⟩ p|(unfold bZ at h;cases h;done)
def Ax(P:PS X st (Fk (tE X ad f) (k9 i))):MS X ad Z st (fS i f):=by refine PS.imp P ?_;rintro h j H ⟨a,G,l,E,S,b,c⟩;exact gI S b c λv d e g st r k=>k _ e g ((S.step st).set r)
def GM(P:PS X st (Fk (tE X ad f) (k9 i))):MS X ad Z st (wY i f):=by refine PS.imp P ?_;rintro d e H ⟨a,G,g,E,S,b,c⟩;exact Ka S b c
def Ky(K:mj)(n:Nat)(t:TGs):TG:=λv σ H Q=>∃a xs,v= .ref a/\SqL K H a xs/\xs.length=n/\t xs σ H Q
def GN{t}(hc:X.calm=qc)(h:PGs X es t)(hn:(assignEach es X.env).length=n)(hst:(assignEach es X.env).findIdx? (·.1)=qb):PG X (.Tuple es k pos) (Ky X.K n t):=by
 intro j s i H v u Q I r f;obtain⟨a,y,w,z,q,f⟩:=f;subst w;cases r;obtain⟨d,g,m,A⟩:=I.list z;have c:d.toArray.size=n:=by simp[<-q,g.length]
 rw[assign_Tuple];refine aa (wpAny_standAt ?_);unfold unpack;rw[hn,hst, <-c];refine aa (wpAny_holding (kun_itemsOf (I.ok.hd hc) m.isList λx l=>?_));have p:Inv X j i H {s with heap:=x}:=I.kept (t':=s.toks) λb o e=>l b o (bh (ah e)) e;exact h j _ i H y _ Q p (by simpa using g) f
def Nm(h1:PG X tg g1)(h2:PG X tg g2):PG X tg (λv σ H Q=>g1 v σ H Q\/g2 v σ H Q):=by intro a s σ H v u Q I r h;rcases h with h|h;exact h1 a s σ H v u Q I r h;exact h2 a s σ H v u Q I r h
def Ay(O:StOk X ad C)(he:ME X ad e f)(hs:swapsWithSole [.Tuple es j tp] e pos.line X.env=pure qe)(hw:swappedStores [.Tuple es j tp] e X.env=pure qb)(ht:cF (.Tuple es j tp)=pi (xs,k))(hn:NmsOk X xs is):MS X ad Z (.Assign [.Tuple es j tp] e pos) (eT is f):=by
 obtain⟨P,hk⟩:=Gk O.cx.calm O.cx.nd ht hn;have A:k≠0:=by
  unfold cF at ht;obtain⟨p,m,g⟩:=zBd ht;by_cases b:2<=p.length;rw[if_pos b]at g;cases g;lia;rw[if_neg b]at g;cases g
 have J:(k==0)=qe:=by simpa using A
 have z:PG X (.Tuple es j tp) (Ky X.K is.length (gIs is)):=by
  unfold cF at ht;obtain⟨p,m,g⟩:=zBd ht;by_cases b:2<=p.length;rw[if_pos b]at g;cases g;obtain⟨q1,y⟩:=jQ (X:=X) m;exact GN O.cx.calm (zU O.cx.nd m hn) (by rw[q1,hn.len]) y;rw[if_neg b]at g;cases g
 refine PS.imp (D1 he (Nm P z) hs hw rfl) ?_;rintro u Q H ⟨i,G,l,E,S,M,w⟩;unfold eT at w;refine gI S M w λv d x t n r q=>?_;cases d<;>try exact ba q
 case lst c=>
  have h:OKo X ad i (if c.length=is.length then .nx (setN is c l)else .rt .bad) u E:=q;by_cases b:c.length=is.length;rw[if_pos b]at h;unfold Rep at r;obtain⟨a,B,rfl,I,s⟩:=r;exact .inr ⟨a,B,rfl,n.gh.seq I,by rw[s.length,b],vK (by rw[s.length,b]) (h _ x t ((S.step n).setN s))⟩;rw[if_neg b]at h;exact h.elim
 rename_i c;refine .inl ?_;have h:OKo X ad i (if c.length=is.length then .nx (setN is c l)else .rt .bad) u E:=q;by_cases b:c.length=is.length;rw[if_pos b]at h;refine Ev (ρ1:=setN is c l) hk ?_ (S.step n) r λo N=>h o x t N;rw[J];have L:uV is qe (.tup c) l=if c.length=is.length then pi (setN is c l)else qb:=by
  rcases is with _|⟨_,_⟩;rfl;rfl
 rw[L,if_pos b];rw[if_neg b]at h;exact h.elim
def zzp(x:Str)(p:Pos):(Expr.Name x p).pos=p:=rfl
def rY{x y}{kt k2}(h:((env.scope.names.lookup x=pi .cell\/env.scope.names.lookup y=pi .cell)/\p)/\q):swappedStores [.Tuple [.Name x px,.Name y py] kt pt] (.Tuple [a,b] k2 pt2) env=pure qb:=by unfold swappedStores;have d:env.kindOf x=env.scope.names.lookup x:=rfl;have f:env.kindOf y=env.scope.names.lookup y:=rfl;rcases h.1.1 with e|e;simp[d,f,e,List.filterMap,zzp];intro _ _ _ c;exfalso;revert c;(repeat' split)<;>simp;simp[d,f,e,List.filterMap,zzp];intro _ _ _ c;exfalso;revert c;(repeat' split)<;>simp
def l9{x y}{kt k2}(hb:env.scope.kind= .function)(hx:env.scope.names.lookup x=pi .local)(hy:env.scope.names.lookup y=pi .local)(hne:x≠y)(hl:px.line=py.line)(sa:gM a)(sb:gM b)(h1:[a,b].all (foldedForSure 8)=qe)(h2:[a,b].all (constantsAlone 8)=qe):swappedStores [.Tuple [.Name x px,.Name y py] kt pt] (.Tuple [a,b] k2 pt2) env=pure (pi [x,y]):=by
 have d:env.blockKind= .function:=by unfold ph.blockKind;rw[hb];rfl
 have f:env.kindOf x=pi .local:=hx;have i:env.kindOf y=pi .local:=hy;have g:[x,y].eraseDups.length=2:=by
  have:(y==x)=qe:=by simpa using λz=>hne z.symm
  simp[List.eraseDups_cons,this]
 have c: ¬(foldedForSure 8 a=qc/\foldedForSure 8 b=qc):=λ⟨p,q⟩=>by simp[p,q]at h1
 have e: ¬(constantsAlone 8 a=qc/\constantsAlone 8 b=qc):=λ⟨p,q⟩=>by simp[p,q]at h2
 unfold swappedStores;simp[zzp,f,i, <-hl,d,g,c,e,List.filterMap];intro h;rcases h with h|h;cases a<;>first|exact sa.elim|cases h
 cases b<;>first|exact sb.elim|cases h
def CZ:eT [i,j] (dD [fa,fb]) ρ=fU ρ (fa ρ) λx=>fU ρ (fb ρ) λy=>.nx ((ρ.set i (.sh x)).set j (.sh y)):=by unfold eT dD mO args args args;cases fa ρ<;>simp[fU,RA.then]<;>cases fb ρ<;>simp[RA.cons,setN]
def Kz{i j kt k2}(O:StOk X ad C)(ha:ME X ad a fa)(hb:ME X ad b fb)(sa:gM a)(sb:gM b)(hi:loc C x=pi i)(hj:loc C y=pi j)(ok:w4 C x y px py a b=qc):
  MS X ad Z (.Assign [.Tuple [.Name x px,.Name y py] kt pt] (.Tuple [a,b] k2 pt2) pos) (eT [i,j] (dD [fa,fb])):=by
 unfold w4 at ok;simp only[aw,jg]at ok;obtain⟨⟨⟨⟨⟨⟨⟨A,T⟩,K⟩,Q⟩,J⟩,B⟩,_⟩,_⟩:=ok
 have q:X.env.scope.names.lookup x=pi .local:=by rw[O.sc];exact bU A
 have n:X.env.scope.names.lookup y=pi .local:=by rw[O.sc];exact bU T
 have c:x≠y:=by simpa using K
 have nx:=(O.cx.vis x i hi).1;have g:=(O.cx.vis y j hj).1;have h:i≠j:=λz=>by subst z;rw[nx]at g;exact c (jw g)
 rintro L s e H p I ⟨m,G,U,E,S,t,u⟩;refine D2 (ta:=sY (tE X ad fa) (sY (tE X ad fb) IF)) O.cx.calm O.cx.nd nx g h q n (bI ha (bI hb cW (aM sb)) (aM sa)) (l9 I.ok.kind q n c (by simpa using Q) sa sb J B) rfl L s e H p I ?_
 rw[CZ]at u;show tE X ad fa e H λv o=>tE X ad fb e o λw f=>∃v' w',[v,w]=[v',w']/\p.nx ((e.set i (pi v')).set j (pi w')) f
 exact gI S t u λv d Y o l r k=>gI (S.step l) t k λw W N f st2 M k2=>⟨v,w,rfl,k2 _ N f ((((S.step l).step st2).set (r.mono st2.sg)).set M)⟩
def Mb(O:StOk X ad C):StOk (tX X cc D' hd) ad C:=by
 refine⟨⟨O.cx.N,O.cx.nd,O.cx.vis,O.cx.gk,λx g e=>?_,O.cx.cap,O.cx.calm,O.cx.un,O.cx.hd,O.cx.exc,O.cx.kin,O.cx.kve,λj n F e=>let ⟨r,T,b⟩:=O.cx.fnv j n F e;⟨r,⟨T.kp,T.ok⟩,b⟩⟩,O.fn,O.sc,O.lc,O.exm,O.exi⟩;obtain⟨i,a⟩:=O.cx.gt x g e;refine⟨i,?_⟩;cases g with
 |fn k n F=>
  obtain⟨r,f,T,b,o⟩:=a;exact⟨r,f,⟨T.mg,T.kp,T.ok⟩,b,o⟩
 |exc c=>exact a
 |verr=>exact a
 |val d=>exact a
 |tbl l=>exact a
 |py p=>exact a
 |cls A q=>exact⟨a.1,a.2.1,λm n M h=>let z:=a.2.2 m n M h;⟨z.no,z.ok⟩⟩
def Az{e a b}{x y}(h:L4 es e=pi ⟨x,px,y,py,a,b⟩): ∃k p,es=[.Name x px,.Name y py]/\e= .Tuple [a,b] k p:=by unfold L4 at h;obtain⟨⟨u,v⟩,m,h⟩:=zBd h;obtain⟨⟨q,d⟩,i,h⟩:=zBd h;obtain⟨⟨n,j⟩,c,h⟩:=zBd h;obtain⟨⟨r,k,p⟩,l,h⟩:=zBd h;obtain⟨⟨s,o⟩,g,f⟩:=zMd h;cases f;rw[gL m,aS i,aS c,t7 l,gL g];exact⟨k,p,rfl,rfl⟩
def vV{e}(h:FD e=qc): ∃s k p,e= .Constant (.str s) k p:=by
 cases e<;>try (cases h;done)
 rename_i c k p;cases c<;>try (cases h;done)
 exact⟨_,k,p,rfl⟩
def Nn(ad:Ad)(E₀:XK)(n:Nat):Prop:= ∀(X:Cx) (C:SK.Ctx) (t:Bool) (s:Stmt) (g:FS),StOk X ad C->(t=qe->DefX X E₀/\PassesOwn (model X.prog X.w) X.A X.env X.xe)->D9 n t C s=pi g->MS X ad (Zt ad E₀ t) s g
def C3(ad:Ad)(E₀:XK)(n:Nat):Prop:= ∀(X:Cx) (C:SK.Ctx) (t:Bool) (s:L1 Stmt) (g:FS),StOk X ad C->(t=qe->DefX X E₀/\PassesOwn (model X.prog X.w) X.A X.env X.xe)->oA n t C s=pi g->MSs X ad (Zt ad E₀ t) s g
theorem Zt.imp(h:MS X ad Z st g)(k: ∀E,Z' E->Z E):MS X ad Z' st g:=PS.imp h λf i H b=>by obtain⟨a,G,e,E,S,c,d⟩:=b;exact⟨a,G,e,E,S,⟨c.1,k E c.2⟩,d⟩
theorem Zts.imp(h:MSs X ad Z sts g)(k: ∀E,Z' E->Z E):MSs X ad Z' sts g:=PSs.imp h λf i H b=>by obtain⟨a,G,e,E,S,c,d⟩:=b;exact⟨a,G,e,E,S,⟨c.1,k E c.2⟩,d⟩
def C4(h:JF b=pi s):b=[s]:=by unfold JF at h;split at h;cases h;rfl;cases h
def No(hS:C3 ad E₀ n):Nn ad E₀ (n+1):=by
 intro X C t s g O T h;obtain⟨r,kL,kI⟩:=dY (ad:=ad) 50;unfold D9 at h;split at h
 .cases h;exact Gc
 .
  split at h
  .cases h
  .split at h
   .rename_i x p B
    cases aS B
    split at h
    .rename_i i H;obtain⟨U,L,Q,J⟩:=O.cx.vis x i H
     cases h;exact vI (yS U L Q J)
    .obtain⟨f,d,rfl⟩:=zMd h;exact vI (r X C _ f O.cx d).1
   .obtain⟨f,d,rfl⟩:=zMd h;exact iX (vI (r X C _ f O.cx d).1)
 .
  rename_i ts e W;have w:=zBd h;clear h;obtain⟨tg,I,h⟩:=w
  cases cJ I
  split at h
  .
   have w:=zBd h;clear h;obtain⟨i,d,h⟩:=w;split at h
   .
    rename_i a N;obtain⟨f,l,rfl⟩:=zMd h
    have Y:Cc C e=pi a:=by
     split at N
     .exact N
     .cases N
    obtain⟨y,p,q,rfl,H⟩:=Kx Y;obtain⟨M,g2,Z,g4⟩:=O.cx.gl H
    cases (show y="dict" from Z)
    have nm:=O.nm d;exact iX (CM O.cx.nd nm.1 nm.2.1 M g4 (r X C _ f O.cx l).1 (aM (aO l).1) nm.2.2)
   .obtain⟨f,l,rfl⟩:=zMd h;refine iX ?_;split
    .exact GM (Aw O l d)
    .exact Ax (Aw O l d)
  .split at h
   .
    rename_i x px y py a b hp;obtain⟨k2,ab,rfl,rfl⟩:=Az hp;split at h
    .rename_i S;refine gzq λRz ez=>?_;obtain⟨i,d,h⟩:=zBd h;obtain⟨j,l,h⟩:=zBd h;obtain⟨fa,m,h⟩:=zBd h;subst ez;obtain⟨fb,h4,rfl⟩:=zMd h;exact iX (Kz O (r X C _ fa O.cx m).1 (r X C _ fb O.cx h4).1 (aO m).1 (aO h4).1 d l S)
    .split at h
     .rename_i hc;obtain⟨i,d,h⟩:=zBd h;obtain⟨j,l,h⟩:=zBd h;obtain⟨f,m,rfl⟩:=zMd h
      have hm:eG (λx=>loc C x) [x,y]=pi [i,j]:=by simp[eG,d,l]
      exact iX (Ay (xs:=[x,y]) (k:=2) O (r X C _ f O.cx m).1 rfl (rY (by rw[O.sc];simpa[yQ]using hc)) rfl (O.nms hm))
     .cases h
   .
    refine gzq λRz ez=>?_;obtain⟨u,I,h⟩:=zBd h;obtain⟨⟨xs,k⟩,d,h⟩:=zBd h;obtain⟨is,l,h⟩:=zBd h;subst ez;split at h
    .obtain⟨f,m,rfl⟩:=zMd h
     have hf:yP e=qc:=by
      split at I
      .assumption
      .cases I
     exact iX (Ay O (r X C _ f O.cx m).1 (by cases e<;>first|rfl|(cases hf;done)) (by cases e<;>first|rfl|(cases hf;done)) d (O.nms l))
    .cases h
  .
   rename_i o k tp;have w:=zBd h;clear h;obtain⟨⟨x,p⟩,B,h⟩:=w
   cases aS B
   refine gzq λRz ez=>?_;obtain⟨i,d,h⟩:=zBd h;obtain⟨U,L,Q,J⟩:=O.cx.vis x i d;subst ez;split at h
   .obtain⟨f,l,h⟩:=zBd h;obtain⟨g,m,rfl⟩:=zMd h;refine iX (Ko O.cx.un U L Q J (r X C _ f O.cx l).1 (r X C _ g O.cx m).1 (λv=>?_) ?_ ?_)
    .have ns:=(aO m).2.2
     cases k<;>first|rfl|exact absurd rfl (ns _ _ _ _)
    .cases e<;>rfl
    .cases e<;>rfl
   .cases h
  .cases h
 .
  split at h
  .rename_i f' as K cp;split at h
   .rename_i A
    cases dX A
    split at h
    .obtain⟨f,d,rfl⟩:=zMd h;exact iX (Ge (r X C _ f O.cx d).1 rfl)
    .cases h
   .cases h
  .cases h
 .obtain⟨f,d,h⟩:=zBd h;obtain⟨ga,l,h⟩:=zBd h;obtain⟨gb,m,rfl⟩:=zMd h;exact iX (Kb (r X C _ f O.cx d).2.1 (hS X C t _ ga O T l) (hS X C t _ gb O T m))
 .
  rename_i x c W
  cases t with
  |true=>cases h
  |false=>
   cases c with
   |some _=>cases h
   |none=>
    simp only[Bool.false_or,Option.isSome_none,az,if_false]at h;have w:=zBd h;clear h;obtain⟨e,rfl,h⟩:=w;split at h
    .rename_i f' as K cp;split at h
     .rename_i A
      cases dX A
      have w:=zBd h;clear h;obtain⟨⟨x,p⟩,B,h⟩:=w
      cases aS B
      have w:=zBd h;clear h;obtain⟨a,ho,h⟩:=w
      cases cJ ho
      split at h
      .rename_i G;obtain⟨sx,k1,k2,rfl⟩:=vV G;split at h
       .rename_i c H e2;cases h;obtain⟨M,g2,Z,g4⟩:=O.cx.gl e2;exact Zt.imp (Cv (T rfl).1 O.cx.calm M Z g2 (O.exi c)) λE z=>z rfl
       .cases h
      .cases h
     .cases h
    .cases h
 .cases h
def KA(hS:Nn ad E₀ n)(hSs:C3 ad E₀ n):C3 ad E₀ (n+1):=by
 intro X C t s g O c h;have b: ∀a:Stmt,MS X ad (Zt ad E₀ t) a ((D9 n t C a).getD LY):=λa=>by
  rcases e:D9 n t C a with _|f;exact Kc;exact hS X C t a f O c e
 unfold oA at h;split at h;cases h;exact tR;cases h;exact Gd (b _);obtain⟨r,d,rfl⟩:=zMd h;exact vH (b _) (hSs X C t _ r O c d)
def rZ: ∀n,Nn ad E₀ n/\C3 ad E₀ n:=by
 intro n;induction n with
 |zero=>
  refine⟨?_,?_⟩;intro X C t s g O b h;unfold D9 at h;cases h;intro X C t s g O b h;unfold oA at h;cases h
 |succ n a=>exact⟨No a.2,KA a.1 a.2⟩
end
def GlT(P:Program)(w:World)(K:Frag)(mg:Str->L7 Value)(base:Heap)(ad:Ad)(k:Nat)(x:Str):SK.Gl->Prop
 |.fn j n F=>∃r f,r<=k/\mg x=pi (.ref f)/\keepIn K (.ref f)=qc/\(∃fd ps,FnOk P w K mg base (CXe P w) r f fd ps (w6 K ad n F)/\dO K fd ps [])/\f=ad.fnA j
 |.exc c=>mg x=pi (.ref (ad.cls c))/\c<ad.nb
 |.verr=>x="ValueError"/\mg x=qb
 |.val d=>∃u v,mg x=pi u/\bJ v u/\∀G,Rep K ad G d v
 |.py p=>x=dS p/\mg x=qb
 |.tbl kvs=>∃A,mg x=pi (.ref A)/\Kf P w K ad A kvs
 |.cls A ms=>mg x=pi (.ref A)/\RkC K A/\∀m n M,ms.lookup m=pi (n,M)->(m≠"held"/\m≠"done"/\m≠"undone")/\∃f r fd ps,r<=k/\Meth K A m f/\FnOk P w K mg base (CXe P w) r f fd ps (spM K ad A n M)/\dO K fd ps []
def eB(P:Program)(w:World)(K:Frag)(mg:Str->L7 Value)(base:Heap)(ad:Ad)(k:Nat)(tab:L1 (Str×SK.Gl)):Prop:= ∀x g,tab.lookup x=pi g->(x==("__debug__":Str))=qe/\GlT P w K mg base ad k x g
def gB(P:Program)(w:World)(K:Frag)(mg:Str->L7 Value)(base:Heap)(ad:Ad)(k:Nat)(fns:L1 (Nat×Fn)):Prop:= ∀j n F,fns[j]? =pi (n,F)->∃r,r<=k/\keepIn K (.ref (ad.fnA j))=qc/\∃fd ps,FnOk P w K mg base (CXe P w) r (ad.fnA j) fd ps (w6 K ad n F)/\dO K fd ps []
structure ExcK(K:Frag)(ad:Ad):Prop where
 exc: ∀c,ExcCls K (ad.cls c)
 kin: ∀c e,c<ad.nb->kitOne K (.ref (ad.cls e)) (.ref (ad.cls c))=pi (hit c e)
 kve: ∀e,kitOne K (.ref (ad.cls e)) (.type "ValueError")=pi qc
 exm: ∀c,exmOne K (.ref (ad.cls c)) (.ref (ad.cls 0))=pi qc
 exi: ∀c,excIn K (ad.cls c) L9 "ValueError.__new__"=qc
section
variable{P:Program}{w:World}{K:Frag}{mg:Str->L7 Value}{base:Heap}{ad:Ad}{k:Nat}{tab:L1 (Str×SK.Gl)}
def GlT.mono(h:GlT P w K mg base ad k x g)(hk:k<=j):GlT P w K mg base ad j x g:=by
 cases g with
 |fn i n F=>
  obtain⟨r,f,a,b⟩:=h;exact⟨r,f,mq a hk,b⟩
 |exc c=>exact h
 |verr=>exact h
 |val d=>exact h
 |tbl e=>exact h
 |py p=>exact h
 |cls A o=>exact⟨h.1,h.2.1,λm n M l=>let ⟨no,f,r,fd,ps,h1,h2⟩:=h.2.2 m n M l;⟨no,f,r,fd,ps,mq h1 hk,h2⟩⟩
theorem eB.mono(h:eB P w K mg base ad k tab)(hk:k<=j):eB P w K mg base ad j tab:=λx g e=>⟨(h x g e).1,(h x g e).2.mono hk⟩
def eB.nil:eB P w K mg base ad k []:=λx g e=>by cases e
def eB.cons{x}{g}(h:eB P w K mg base ad k tab)(hd:(x==("__debug__":Str))=qe)(hg:GlT P w K mg base ad k x g):eB P w K mg base ad k ((x,g)::tab):=by
 intro y a e;rw[jo]at e;rcases q:y==x with _|_;rw[q]at e;exact h y a e;rw[q]at e;cases e;have:y=x:=by simpa using q
 subst this;exact⟨hd,hg⟩
def gB.nil:gB P w K mg base ad k []:=λj n F e=>by simp at e
def gB.snoc{F}(h:gB P w K mg base ad k fns)(hk:k<=k')(hl:fns.length=j)(hf:f=ad.fnA j)(hr:r<=k')(kp:keepIn K (.ref f)=qc)(ok:FnOk P w K mg base (CXe P w) r f fd ps (w6 K ad n F))(hb:dO K fd ps []):
  gB P w K mg base ad k' (fns++[(n,F)]):=by
 intro i m G e;subst hf;by_cases d:i<fns.length;rw[bx d]at e;obtain⟨c,g,b⟩:=h i m G e;exact⟨c,mq g hk,b⟩;rw[bn (by lia)]at e;cases a:i-fns.length with
 |zero=>
  rw[a]at e;cases e;have:i=j:=by lia
  subst this;exact⟨r,hr,kp,fd,ps,ok,hb⟩
 |succ q=>rw[a]at e;simp at e
def cH(h:bW N Ps sc=qc):FnScope N Ps sc/\∀x∈N,(x==("__debug__":Str))=qe/\(x==("__classdict__":Str))=qe:=by unfold bW at h;simp only[aw]at h;obtain⟨⟨⟨⟨⟨⟨⟨j,g⟩,c⟩,i⟩,f⟩,e⟩,l⟩,d⟩:=h;refine⟨⟨by simpa using j,by simpa using g,by simpa using c,of_decide_eq_true i,of_decide_eq_true f,λx a=>?_,λy b z=>?_⟩,λx a=>?_⟩;have:=zAd e x a;rcases(Bool.or_eq_true _ _).mp this with z|z;exact .inl (bU z);exact .inr (bU z);have:=zAd l y b;rw[z]at this;simp at this;have:=zAd d x a;simpa using this
def i0(hG:Same G X.H₀)(r:aK X.K ad G ds vs):SS X ad G G X.H₀ (ds.map Slot.sh++ao n .no) (vs.map pi++ao n qb):=by
 have x:=r.length;have c: ∀(i:Nat) (g:Slot),(ds.map Slot.sh++ao n .no)[i]? =pi g->(∃d v,g= .sh d/\(vs.map pi++ao n qb)[i]? =pi (pi v)/\Rep X.K ad G d v)\/(g= .no/\∃m,(vs.map pi++ao n qb)[i]? =pi m):=λi g e=>by
  by_cases t:i<ds.length;rw[bx (by simpa using t),i6]at e;rcases b:ds[i]? with _|d;rw[b]at e;cases e;rw[b]at e;cases e;obtain⟨v,s,q⟩:=r.get b;refine .inl ⟨d,v,rfl,?_,q⟩;rw[bx (by rw[aq];lia),i6,s];rfl;rw[bn (by simpa using t),eh]at e;split at e;cases e;refine .inr ⟨rfl,qb,?_⟩;rename_i o;rw[bn (by rw[aq];lia),eh,if_pos];rw[aq]at o ⊢;lia;cases e
 refine⟨Step.refl hG,⟨by simp[x],λi g e=>?_⟩,λi y a e w h=>?_,λi j y J a b s B E L H=>?_,?_⟩;rcases c i g e with ⟨d,v,rfl,b,q⟩|⟨rfl,m,b⟩;exact⟨pi v,b,v,rfl,q⟩;exact⟨m,b,trivial⟩;rcases c i _ e with ⟨d,v,z,_⟩|⟨z,_⟩<;>(subst z;exact(bf w).elim);rcases c i _ b with ⟨d,v,z,_⟩|⟨z,_⟩<;>(subst z;exact(bf B).elim);have no: ∀{i:Nat} {l:L1 Addr}, ¬fF X.H₀ (ds.map Slot.sh++ao n .no) (vs.map pi++ao n qb) i l:=λ{i l} f=>by
  refine gzq λRz ez=>?_;obtain⟨C,r,p,N,d,M,I,u,_⟩:=f;subst ez;rcases c i _ u with ⟨d,v,z,_⟩|⟨z,_⟩<;>cases z
 exact⟨λi l f=>(no f).elim,λi l f=>(no f).elim,λi j l A a f=>(no f).elim⟩
def oY(B:ExcK K ad)(TB:eB P w K mg base ad k tab)(FB:gB P w K mg base ad k fns)(hs:bW (aC sc) ps sc=qc)(hr:Room k (A.deeper (envOfC qual sc s.z f cdv))):
  StOk (kN (CXe P w) P w K mg base (aC sc) qual sc f cdv A outer s H E) ad ⟨tab,fns,sc,aC sc,bs⟩:=by
 obtain⟨S,nm⟩:=cH hs;let C:SK.Ctx:=⟨tab,fns,sc,aC sc,bs⟩;have o: ∀x i,loc C x=pi i->(aC sc)[i]? =pi x/\Loc sc x/\x∈aC sc:=λx i e=>by
  obtain⟨v,h⟩:=lV e;refine⟨fY v,?_,lU v⟩;rcases h with h|h|h;exact .inl h;exact .inr h;exact absurd rfl (S.nofree _ (eQ h))
 refine⟨⟨rfl,S.nd,λx i e=>?_,λx e=>e,λx g e=>?_,λx i e=>?_,rfl,?_,hr.hd,B.exc,B.kin,B.kve,λj m G e=>?_⟩,λ_=>rfl,rfl,λx i e=>(o x i e).2.1,B.exm,B.exi⟩;obtain⟨a,b,c⟩:=o x i e;exact⟨a,b.elim .inl λz=>.inr (.inl z),(nm x c).1,(nm x c).2⟩;obtain⟨a,b⟩:=TB x g e;refine⟨a,?_⟩;cases g with
 |fn j m G=>
  refine gzq λRz ez=>?_;obtain⟨y,N,t,q,l,u,I⟩:=b;subst ez;exact⟨y,N,⟨q,l,u⟩,hr.mono t,I⟩
 |exc c=>exact b
 |verr=>exact b
 |val d=>exact b
 |tbl L=>exact b
 |py p=>exact b
 |cls A O=>exact⟨b.1,b.2.1,λm n M J=>let ⟨no,f,r,fd,ps,t,q,l,u⟩:=b.2.2 m n M J;⟨no,f,r,fd,ps,q,l,hr.mono t,u⟩⟩
 obtain⟨v,h⟩:=eP e;rcases h with h|h;exact .inl h;exact absurd rfl (S.nofree _ (eQ h));exact ir (ib (by decide:62<=64) _) hr.units;obtain⟨y,t,q,l⟩:=FB j m G e;exact⟨y,⟨q,l⟩,hr.mono t⟩
def KB{st}{F}(B:ExcK K ad)(TB:eB P w K mg base ad k tab)(FB:gB P w K mg base ad k fns)(Fu:Fun K x qual st f fd)(hps:d9 (defArgs st)=pi ps)(hd:FI tab fns st=pi (n,F)):FnOk P w K mg base (CXe P w) (k+1) f fd ps (w6 K ad n F):=by
 obtain⟨oc,od,kV,ag,pm,an,p,ct,ab,rfl,lk,L⟩:=Fu.ex;cases st with
 |FunctionDef nm Y b dl re tp i ts bi Z=>
  have q:((d9 Y).bind λW=>if bW (aC i) W i then(oA 100 qe ⟨tab,fns,i,aC i,yO 50 b⟩ b).map λg=>(W.length,SK.fnOf (aC i).length g)else qb)=pi (n,F):=hd;have t:d9 Y=pi ps:=hps;rw[t]at q;have l:(if bW (aC i) ps i then(oA 100 qe ⟨tab,fns,i,aC i,yO 50 b⟩ b).map λg=>(ps.length,SK.fnOf (aC i).length g)else qb)=pi (n,F):=q;by_cases v:bW (aC i) ps i=qc;rw[if_pos v]at l;obtain⟨g,hg,e⟩:=zMd l;cases e;obtain⟨S,nm⟩:=cH v;refine B0 lk L S (λvs H Q E ⟨G,m,_,r,N,_⟩=>by rw[r.length,N]) λA j s H vs Q E hr J=>?_;obtain⟨G,m,hG,r,N,hq⟩:=J;let C:SK.Ctx:=⟨tab,fns,i,aC i,yO 50 b⟩;have O:StOk (kN (CXe P w) P w K mg base (aC i) qual i f p A j s H E) ad C:=oY B TB FB v hr;have T:DefX (kN (CXe P w) P w K mg base (aC i) qual i f p A j s H E) E:=⟨rfl,rfl,rfl,λe s' h=>h⟩;refine⟨_,(rZ (ad:=ad) (E₀:=E) 100).2 _ C qe b g O (λ_=>⟨T,PassesOwn.leaving (Q₁:=λe y=>CXe P w j H s E e y)⟩) hg,?_⟩;refine⟨G,G,m.map Slot.sh++ao ((aC i).length-m.length) .no,λu c o=>E (.ref (ad.cls c)) qb o,?_,⟨λu=>zZ T,λ_ u c H h=>h⟩,?_⟩;have:=i0 (X:=kN (CXe P w) P w K mg base (aC i) qual i f p A j s H E) (ad:=ad) (n:=(aC i).length-m.length) hG r;unfold L2.start;rw[r.length];exact this;have a:RK K ad G H (match g (m.map Slot.sh++ao ((aC i).length-m.length) .no)with
   |.rt (.ok d)=>.ok d
   |.rt (.ow U)=>.ow U
   |.rt _=>.bad
   |.nx _=>.ok .non
   |.ex c _=>.ex c
   |_=>.bad) Q (λc o=>E (.ref (ad.cls c)) qb o):=hq
  cases e:g (m.map Slot.sh++ao ((aC i).length-m.length) .no)with
  |nx I=>rw[e]at a;exact λu z o M=>a .non z o M.st (by unfold Rep;rfl)
  |bk I=>rw[e]at a;exact a.elim
  |ct I=>rw[e]at a;exact a.elim
  |ex c I=>rw[e]at a;exact λu z o M=>a z o M.st
  |rt r'=>
   rw[e]at a;cases r' with
   |ok d=>exact a
   |ow U=>exact a
   |ex c=>exact a.elim
   |bad=>exact a.elim
  rw[if_neg v]at l;cases l
 |_=>cases hd
noncomputable def vW(K:Frag)(cs:L1 Addr)(C0:Addr):Bool:=
 decide (cs.length<=100)&&cs.head?==pi C0&&cs.all λC=>(clsIn K C).isSome&&mroIn K C (.type "object")==pi qc&&mroIn K C (.type "BaseException")==pi qc&&findIn K (.ref C) "__class__"==pi (pi (.builtin "object.__class__"))&&
  findIn K (.ref C) "__getattribute__"==pi (pi (.builtin "BaseException.__getattribute__"))&&findIn K (.ref C) "__getattr__"==pi qb&&kitOne K (.ref C) (.type "ValueError")==pi qc&&exmOne K (.ref C) (.ref C0)==pi qc&&
  excIn K C L9 "ValueError.__new__"
def vX(K:Frag)(cs:L1 Addr):Bool:=cs.zipIdx.all λp=>cs.zipIdx.all λq=>kitOne K (.ref p.1) (.ref q.1)==pi (hit q.2 p.2)
noncomputable def BR(cs:L1 Addr)(C0:Addr)(fs:L1 Addr):Ad:=⟨λc=>cs.getD c C0,λk=>if k<1000 then fs.getD k 0 else k-1000,cs.length⟩
def GO(h:vW K cs C0=qc)(h2:vX K cs=qc):ExcK K (BR cs C0 fs):=by
 unfold vW at h;rw[aw,aw]at h;obtain⟨⟨o,j⟩,v⟩:=h;have o:cs.length<=100:=of_decide_eq_true o;have j:cs.head?=pi C0:=by simpa using j
 have i:C0∈cs:=List.mem_of_mem_head? (by rw[j];rfl);have get: ∀c,(BR cs C0 fs).cls c∈cs:=λc=>by
  show cs.getD c C0∈cs;rw[cb];rcases e:cs[c]? with _|a;exact i;exact List.mem_of_getElem? e
 have n:cs[0]? =pi C0:=by rw[<-List.head?_eq_getElem?];exact j
 have E:(BR cs C0 fs).cls 0=C0:=by
  show cs.getD 0 C0=C0;rw[cb,n];rfl
 have all: ∀C∈cs,ExcCls K C/\kitOne K (.ref C) (.type "ValueError")=pi qc/\exmOne K (.ref C) (.ref C0)=pi qc/\excIn K C L9 "ValueError.__new__"=qc:=λC r=>by
  have:=zAd v C r;simp only[aw,beq_iff_eq]at this;refine gzq λRz ez=>?_;obtain⟨⟨⟨⟨⟨⟨⟨⟨u,h2⟩,w⟩,B⟩,z⟩,y⟩,G⟩,p⟩,A⟩:=this;subst ez;exact⟨⟨u,h2,w,B,z,y⟩,G,p,A⟩
 have d: ∀(c e:Nat) (a b:Addr),cs[e]? =pi a->cs[c]? =pi b->kitOne K (.ref a) (.ref b)=pi (hit c e):=λc e a b f g=>by
  unfold vX at h2;have t:(a,e)∈cs.zipIdx:=List.mem_zipIdx_iff_getElem?.mpr f;have H:(b,c)∈cs.zipIdx:=List.mem_zipIdx_iff_getElem?.mpr g;have:=zAd (zAd h2 _ t) _ H;simpa using this
 refine⟨λc=>(all _ (get c)).1,λc e I=>?_,λe=>(all _ (get e)).2.1,λc=>?_,λc=>(all _ (get c)).2.2.2⟩;have l:c<cs.length:=I;obtain⟨b,g⟩: ∃b,cs[c]? =pi b:=⟨_,bd l⟩;have s:(BR cs C0 fs).cls c=b:=by
  show cs.getD c C0=b;rw[cb,g];rfl
 rw[s];rcases f:cs[e]? with _|a;have m:(BR cs C0 fs).cls e=C0:=by
  show cs.getD e C0=C0;rw[cb,f];rfl
 have q:cs.length<=e:=List.getElem?_eq_none_iff.mp f;rw[m,d c 0 C0 b n g];congr 1;unfold hit;have x:(c==e)=qe:=by simp;lia
 rw[x];cases c<;>simp;have m:(BR cs C0 fs).cls e=a:=by
  show cs.getD e C0=a;rw[cb,f];rfl
 rw[m];exact d c e a b f g;rw[E];exact(all _ (get c)).2.2.1
end
section
variable{P:Program}{w:World}{K:Frag}{mg:Str->L7 Value}{base h:Heap}{ad:Ad}{k:Nat}{tab:L1 (Str×SK.Gl)}{fns:L1 (Nat×Fn)}
structure PQ(P:Program)(w:World)(K:Frag)(mg:Str->Option Value)(base h:Heap)(ad:Ad)(k:Nat)(tab:List (Str×SK.Gl))(fns:List (Nat×Fn)):Prop where
 t:eB P w K mg base ad k tab
 u:gB P w K mg base ad k fns
 X:K.In h
 G:h.Ns mainGlobals mg
 B:ExcK K ad
theorem vY: ∀{ps:L1 Str} {us:L1 Value},ps.Nodup->us.length=ps.length->(∀n∈ps,((ps.zip us).lookup n).isNone=qe)/\ps.filterMap (λn=>((ps.zip us).lookup n).map (n,·))=ps.zip us
 |[],[],_,_=>⟨(λn m=>nomatch m),rfl⟩
 |p::ps,u::us,nd,hl=>by
  obtain⟨e,f⟩:=kc.1 nd;obtain⟨a,b⟩:=vY (ps:=ps) (us:=us) f (by simpa using hl);have d:((p::ps).zip (u::us)).lookup p=pi u:=by simp[jo]
  have c: ∀n∈ps,((p::ps).zip (u::us)).lookup n=(ps.zip us).lookup n:=λn m=>by
   have:(n==p)=qe:=by
    rcases h:n==p with _|_;rfl;rw[eq_of_beq h]at m;exact absurd m e
   simp[jo,this]
  refine⟨λn m=>?_,?_⟩;rcases av.1 m with rfl|m;rw[d];rfl;rw[c n m];exact a n m;rw[gj,d,vP λn m=>by rw[c n m],b];rfl
 |[],_::_,_,h=>by cases h
 |_::_,[],_,h=>by cases h
def fZ(h:d9 as=pi ps)(nd:ps.Nodup){kV doc pm cdv ct}(hl:us.length=ps.length):bindArgs (ni x q as body scope .none kV doc pm an cdv ct) ⟨us,[]⟩=pure (ps.zip us):=by
 unfold d9 at h;split at h;rename_i f;obtain⟨l,a,t,r,p,o,s⟩:=as;simp only[aw,ju,dy]at f;obtain⟨⟨⟨⟨rfl,rfl⟩,rfl⟩,rfl⟩,rfl⟩:=f;cases h;obtain⟨i,c⟩:=vY nd hl;have b:us.length=a.length:=by simpa using hl
 have e:(List.filter (λn=>(((a.map (·.arg)).zip us).lookup n).isNone) (a.map (·.arg)))=[]:=List.filter_eq_nil_iff.2 λn m=>by rw[i n m];decide
 unfold bindArgs ni;simp only[nj,kg,j3,aq];have j:seqItems? (oq)=pure qb:=rfl;simp only at c e;rw[List.filterMap_map]at c;have g:(List.drop ((#[]:Array Value).size-a.length) ([]:L1 Value)).length=0:=by simp
 have d:List.take a.length (a.map (·.arg))=a.map (·.arg):=List.take_of_length_le (by simp);simp[j,b];refine(if_neg ?_).trans ?_;rw[g,Nat.sub_zero,d,e];decide;rw[c];cases h
theorem PQ.cons(T:PQ P w K mg base h ad k tab fns){x}{f}{fd}{ps}{n r}{M}(hr:k<=r)(ok:FnOk P w K mg base (CXe P w) r f fd ps (w6 K ad n M))(hb:dO K fd ps [])(kp:keepIn K (.ref f)=qc)(hm:mg x=pi (.ref f))(hj:f=ad.fnA fns.length)(hdb:(x==("__debug__":Str))=qe):
  PQ P w K mg base h ad r ((x,.fn fns.length n M)::tab) (fns++[(n,M)]):=
 ⟨eB.cons (T.t.mono hr) hdb ⟨r,f,aj _,hm,kp,⟨_,_,ok,hb⟩,hj⟩,gB.snoc T.u hr rfl hj (aj _) kp ok hb,T.X,T.G,T.B⟩
def PQ.addV(T:PQ P w K mg base h ad k tab fns)(x:Str)(st:Stmt)(f:Addr)(ps:L1 Str)(n:Nat)(M:Fn){oc:Value}{od an:L7 Addr}{osl:Array (L7 Value)}{kV doc pm cdv ct:Value}(l:K.lookup f=pi ⟨oc,od,.func (ni x x (defArgs st) (defBody st) (defScope st) .none kV doc pm an cdv ct),osl⟩)
  (fns':L1 (Nat×Fn)) (hf:fns'=fns\/fns'=[]) (d:FI tab fns' st=pi (n,M):=by kernel_rfl) (c:codeIn K cdv x=qc:=by kernel_rfl) (kp:keepIn K (.ref f)=qc:=by kernel_rfl) (hm:nsIn K mainGlobals x=pi (pi (.ref f)):=by kernel_rfl) (hj:f=ad.fnA fns.length:=by rfl)
  (hdb:(x==("__debug__":Str))=qe:=by decide) (hps:d9 (defArgs st)=pi ps:=by rfl) (nd:ps.Nodup:=by decide):
  PQ P w K mg base h ad (k+1) ((x,.fn fns.length n M)::tab) (fns++[(n,M)]):=by
 have F:=lJ (st:=st) l c kp;refine T.cons (oe _) (KB (ps:=ps) T.B T.t ?_ F hps d) (F.binds λ_ _ _ _ _ _ b a=>fZ hps nd a) kp (mi T.X T.G hm) hj hdb
 rcases hf with rfl|rfl
 .exact T.u
 .exact gB.nil
def PQ.add(T:PQ P w K mg base h ad k tab fns)(x:Str)(st:Stmt)(f:Addr)(ps:L1 Str)(n:Nat)(M:Fn){oc:Value}{od an:L7 Addr}{osl:Array (L7 Value)}{kV doc pm cdv ct:Value}(l:K.lookup f=pi ⟨oc,od,.func (ni x x (defArgs st) (defBody st) (defScope st) .none kV doc pm an cdv ct),osl⟩)
  (d:FI tab [] st=pi (n,M):=by kernel_rfl) (c:codeIn K cdv x=qc:=by kernel_rfl) (kp:keepIn K (.ref f)=qc:=by kernel_rfl) (hm:nsIn K mainGlobals x=pi (pi (.ref f)):=by kernel_rfl) (hj:f=ad.fnA fns.length:=by rfl)
  (hdb:(x==("__debug__":Str))=qe:=by decide) (hps:d9 (defArgs st)=pi ps:=by rfl) (nd:ps.Nodup:=by decide):
  PQ P w K mg base h ad (k+1) ((x,.fn fns.length n M)::tab) (fns++[(n,M)]):=T.addV x st f ps n M l [] (.inr rfl) d c kp hm hj hdb hps nd
theorem PQ.py(T:PQ P w K mg base h ad 0 tab [])(p:Py)(hm:nsIn K mainGlobals (dS p)=pi qb:=by kernel_rfl)(hdb:(dS p==("__debug__":Str))=qe:=by decide):PQ P w K mg base h ad 0 ((dS p,.py p)::tab) []:=⟨eB.cons T.t hdb ⟨rfl,PySem.W.mg_none_of T.X T.G hm⟩,T.u,T.X,T.G,T.B⟩
theorem PQ.verr(T:PQ P w K mg base h ad 0 tab [])(hm:nsIn K mainGlobals "ValueError"=pi qb:=by kernel_rfl):PQ P w K mg base h ad 0 (("ValueError",.verr)::tab) []:=⟨eB.cons T.t rfl ⟨rfl,PySem.W.mg_none_of T.X T.G hm⟩,T.u,T.X,T.G,T.B⟩
theorem PQ.exc(T:PQ P w K mg base h ad 0 tab [])(x:Str)(c:Nat)(hm:nsIn K mainGlobals x=pi (pi (.ref (ad.cls c))):=by kernel_rfl)(hc:c<ad.nb:=by decide)(hdb:(x==("__debug__":Str))=qe:=by decide):PQ P w K mg base h ad 0 ((x,.exc c)::tab) []:=⟨eB.cons T.t hdb ⟨mi T.X T.G hm,hc⟩,T.u,T.X,T.G,T.B⟩
theorem PQ.int(T:PQ P w K mg base h ad 0 tab [])(x:Str)(i:Int)(t:Tok)(hm:nsIn K mainGlobals x=pi (pi (.int i t)):=by kernel_rfl)(hdb:(x==("__debug__":Str))=qe:=by decide):PQ P w K mg base h ad 0 ((x,.val (.int i))::tab) []:=⟨eB.cons T.t hdb ⟨.int i t,.int i,mi T.X T.G hm,⟨_,rfl⟩,λG=>by unfold Rep;rfl⟩,T.u,T.X,T.G,T.B⟩
theorem PQ.nil(X:K.In h)(G:h.Ns mainGlobals mg)(B:ExcK K ad):PQ P w K mg base h ad 0 [] []:=⟨eB.nil,gB.nil,X,G,B⟩
end
inductive OutM where
 |nx (ρ:Rho) (b:Bool)|rt (x:R) (ρ:Rho) (b:Bool)|ex (c:Nat) (b:Bool)|bad
abbrev FSM:=Rho->Bool->OutM
noncomputable def vZ(b:Bool)(r:R)(k:D->OutM):OutM:=match r with
 |.ok d=>k d
 |.ow xs=>k (.lst xs)
 |.ex c=>.ex c b
 |.bad=>.bad
noncomputable def eM:FSM:=λρ b=>.nx ρ b
noncomputable def dC(g h:FSM):FSM:=λρ b=>match g ρ b with
 |.nx ρ' b'=>h ρ' b'
 |o=>o
noncomputable def mIf(f:F)(g h:FSM):FSM:=λρ b=>match f ρ with
 |.ok (.bl k)=>if k then g ρ b else h ρ b
 |.ex c=>.ex c b
 |_=>.bad
def C5(i:Nat)(f:F):FSM:=λρ b=>vZ b (f ρ) λd=>.nx (ρ.set (i+1) (.sh d)) b
def r8(f:F):FSM:=λρ b=>vZ b (f ρ) λ_=>.nx ρ b
noncomputable def sA(f:F):FSM:=λρ b=>match f ρ with
 |.ex c=>.ex c b
 |x=>.rt x ρ b
noncomputable def sB(c:Nat):FSM:=λ_ b=>.ex c b
def StB(b:Bool)(foot:L1 Addr)(G₀ H₀ G H:Hp):Prop:=if b=qc then StepR foot G₀ H₀ G H else Step G₀ H₀ G H
def StepR.step(a:StepR foot G₀ H₀ G H)(t:Step G H G1 H1)(fr: ∀b,H₀ b≠qb->H b≠qb):StepR foot G₀ H₀ G1 H1:=
 ⟨a.sg.trans t.sg,t.gh,λb o c e=>t.sh _ _ (a.sh b o c e),λb f d=>by
  rcases q:G b with _|o;have:=t.nw b q d;rcases z:H₀ b with _|o;rfl;exact absurd this (fr b (by rw[z];exact λy=>nomatch y));exact a.nw b f (by rw[q];exact λz=>nomatch z),λb c=>by
  rcases q:H b with _|o;exact absurd q (fr b c);rw[t.sh b o q];exact λz=>nomatch z⟩
def Step.toR(a:Step G₀ H₀ G H):StepR foot G₀ H₀ G H:=⟨a.sg,a.gh,λb o _ e=>a.sh b o e,a.nw,λb c=>by
 rcases q:H₀ b with _|o;exact absurd q c;rw[a.sh b o q];exact λz=>nomatch z⟩
noncomputable def shN:Slot->Bool
 |.no=>qc
 |.sh _=>qc
 |_=>qe
structure SM(X:Cx)(ad:Ad)(A:Nat)(G₀:Hp)(p dx d l1 l20:Addr)(b:Bool)(G H:Hp)(ρ:Rho)(σ:St):Prop where
 sl:SL X.K ad G H ρ σ
 gh:Same G H
 me:σ[0]? =pi (pi (.ref p))
 rk: ∃r l2,ρ[0]? =pi (.rk A r)/\RackIn X.K ad A G H p r dx d l1 l2/\(l2=l20\/X.H₀ l2=qb)
 st:StB b [p,dx,d,l1,l20] G₀ X.H₀ G H
 fr: ∀c,X.H₀ c≠qb->H c≠qb
 on: ∀j sl,ρ[j+1]? =pi sl->shN sl=qc
def OKm(X:Cx)(ad:Ad)(A:Nat)(G₀:Hp)(p dx d l1 l20:Addr)(o:OutM)(D':Ends)(E:Nat->Hp->Prop):Prop:=match o with
 |.nx ρ b=>∀σ G H,SM X ad A G₀ p dx d l1 l20 b G H ρ σ->D'.nx σ H
 |.rt (.ok x) ρ b=>∀σ G H v,SM X ad A G₀ p dx d l1 l20 b G H ρ σ->Rep X.K ad G x v->D'.rt v H
 |.rt (.ow xs) _ b=>b=qe/\∀q vs G H,Step G₀ X.H₀ G H->X.H₀ q=qb->G q=qb->H q=pi (.lst vs)->aK X.K ad G xs vs->D'.rt (.ref q) H
 |.ex c b=>b=qe/\∀G H,Step G₀ X.H₀ G H->E c H
 |_=>False
def tM(X:Cx)(ad:Ad)(A:Nat)(E:Nat->Hp->Prop)(g:FSM):TS:=λD' σ H=>∃G₀ p dx d l1 l20 G ρ b,SM X ad A G₀ p dx d l1 l20 b G H ρ σ/\OKm X ad A G₀ p dx d l1 l20 (g ρ b) D' E
abbrev MM(X:Cx)(ad:Ad)(A:Nat)(E:Nat->Hp->Prop)(st:Stmt)(g:FSM):Prop:=PS X st (tM X ad A E g)
abbrev MMs(X:Cx)(ad:Ad)(A:Nat)(E:Nat->Hp->Prop)(sts:L1 Stmt)(g:FSM):Prop:=PSs X sts (tM X ad A E g)
section
variable{X:Cx}{ad:Ad}{A:Nat}{G₀ G H G1 H1:Hp}{p dx d l1 l20:Addr}{b:Bool}{ρ:Rho}{σ:St}{E:Nat->Hp->Prop}{D':Ends}{f:F}{g h:FSM}{e c:Expr}{st:Stmt}{pos:Pos}
theorem SM.step(S:SM X ad A G₀ p dx d l1 l20 b G H ρ σ)(t:Step G H G1 H1):SM X ad A G₀ p dx d l1 l20 b G1 H1 ρ σ:=by obtain⟨r,h,i,g,e⟩:=S.rk;refine⟨S.sl.step t,t.gh,S.me,⟨r,h,i,g.step t,e⟩,?_,λc f=>?_,S.on⟩;have z:=S.st;unfold StB at z ⊢;by_cases a:b=qc;rw[if_pos a]at z ⊢;exact z.step t S.fr;rw[if_neg a]at z ⊢;exact z.trans t;rcases q:H c with _|o;exact absurd q (S.fr c f);rw[t.sh c o q];exact λz=>nomatch z
def nM{k}{Q'}(S:SM X ad A G₀ p dx d l1 l20 b G H ρ σ)(hx:XP X ad σ E)(hr:OKm X ad A G₀ p dx d l1 l20 (vZ b (f ρ) k) D' E)
  (q: ∀v x G1 H1,SM X ad A G₀ p dx d l1 l20 b G1 H1 ρ σ->Rep X.K ad G1 x v->OKm X ad A G₀ p dx d l1 l20 (k x) D' E->Step G H G1 H1->Q' v H1):tE X ad f σ H Q':=by
 refine⟨G,ρ,E,S.gh,S.sl,hx,?_⟩;cases e:f ρ with
 |ok x=>
  rw[e]at hr;exact λv G1 H1 t r=>q v x G1 H1 (S.step t) r hr t
 |ow s=>
  rw[e]at hr;intro a o G1 H1 t n m l r;obtain⟨j,g,h⟩:=dG (X:=X) (ad:=ad) t n m l r;exact q _ _ j H1 (S.step g) h hr g
 |ex c=>
  rw[e]at hr;obtain⟨i,hr⟩:=hr;have z:=S.st;unfold StB at z;rw[i,if_neg bf]at z;exact λG1 H1 t=>hr G1 H1 (z.trans t)
 |bad=>
  rw[e]at hr;exact hr
def GP:MM X ad A E (.Pass pos) eM:=PS.imp x8 λh g H a=>by obtain⟨c,p,j,d,i,e,G,l,b,S,f⟩:=a;exact f g G H S
def GQ:MMs X ad A E [] eM:=PSs.imp kZ λh g H a=>by obtain⟨c,p,j,d,i,e,G,l,b,S,f⟩:=a;exact f g G H S
def C6(h1:MM X ad A E st g)(h2:MMs X ad A E sts h):MMs X ad A E (st::sts) (dC g h):=by
 refine PSs.imp (e9 h1 h2) ?_;rintro t u H ⟨f,p,o,d,m,i,G,n,b,S,a⟩;refine⟨f,p,o,d,m,i,G,n,b,S,?_⟩;unfold dC at a;cases e:g n b with
 |nx j l=>
  rw[e]at a;exact λs q v r=>⟨f,p,o,d,m,i,q,j,l,r,a⟩
 |rt x j l=>
  rw[e]at a;cases x with
  |ok x=>exact a
  |ow w=>exact a
  |ex c=>exact a
  |bad=>exact a
 |ex c l=>rw[e]at a;exact a
 |bad=>rw[e]at a;exact a
def Np{a b}(hx: ∀σ,XP X ad σ E)(hc:MT X ad c f)(ha:MMs X ad A E a g)(hb:MMs X ad A E b h):MM X ad A E (.If c a b pos) (mIf f g h):=by
 refine PS.imp (Jf hc ha hb) ?_;rintro w σ H ⟨j,p,s,d,q,n,G,m,b,S,i⟩;unfold mIf at i;cases e:f m with
 |ok x=>
  rw[e]at i;cases x<;>try exact i.elim
  rename_i k;refine⟨G,m,E,S.gh,S.sl,hx σ,.inl ⟨k,e⟩,?_⟩;rw[e];intro v o u t r;unfold Rep at r;subst r;refine⟨k,rfl,?_⟩;have l:OKm X ad A j p s d q n (if k=qc then g m b else h m b) w E:=i;cases k;rw[if_neg bf]at l;show if qe=qc then _ else _
  rw[if_neg bf];exact⟨j,p,s,d,q,n,o,m,b,S.step t,l⟩;rw[if_pos rfl]at l;show if qc=qc then _ else _
  rw[if_pos rfl];exact⟨j,p,s,d,q,n,o,m,b,S.step t,l⟩
 |ow y=>rw[e]at i;exact i.elim
 |ex c=>
  rw[e]at i;obtain⟨hb,i⟩:=i;have z:=S.st;unfold StB at z;rw[hb,if_neg bf]at z;refine⟨G,m,E,S.gh,S.sl,hx σ,.inr ⟨c,e⟩,?_⟩;rw[e];exact λo u t=>i o u (z.trans t)
 |bad=>rw[e]at i;exact i.elim
theorem SM.set(S:SM X ad A G₀ p dx d l1 l20 b G H ρ σ)(r:Rep X.K ad G x v):SM X ad A G₀ p dx d l1 l20 b G H (ρ.set (i+1) (.sh x)) (σ.set (i+1) (pi v)):=by
 obtain⟨l,n,o,m,c⟩:=S.rk;refine⟨⟨by rw[ke,ke];exact S.sl.len,λj sl e=>?_⟩,S.gh,by rw[bc (by lia)];exact S.me,⟨l,n,by rw[bc (by lia)];exact o,m,c⟩,S.st,S.fr,λj sl e=>?_⟩;by_cases z:j=i+1;subst z;have a:i+1<ρ.length:=by have:=(ay.mp e).1;rwa [ke]at this
 rw[bj a]at e;cases e;exact⟨pi v,bj (by rw[<-S.sl.len];exact a),v,rfl,r⟩;rw[bc (qa z)]at e;obtain⟨g,h,f⟩:=S.sl.at_ j sl e;exact⟨g,by rw[bc (qa z)];exact h,f⟩;by_cases z:j=i;subst z;have a:j+1<ρ.length:=by have:=(ay.mp e).1;rwa [ke]at this
 rw[bj a]at e;cases e;rfl;rw[bc (by lia)]at e;exact S.on j sl e
def GR(hx: ∀σ,XP X ad σ E)(he:ME X ad e f)(hs:swapsWith e qb pos.line X.env=pure qe):MM X ad A E (.Expr e pos) (r8 f):=by refine PS.imp (nZ he hs) ?_;rintro l σ H ⟨a,p,o,d,m,g,G,n,b,S,h⟩;exact nM S (hx σ) h λv x i j c r k _=>k _ i j c
def KC(hx: ∀σ,XP X ad σ E)(he:ME X ad e f):MM X ad A E (.Return (pi e) pos) (sA f):=by
 refine PS.imp (uP he) ?_;rintro w σ H ⟨l,p,B,d,y,u,G,j,b,S,a⟩;refine⟨G,j,E,S.gh,S.sl,hx σ,?_⟩;unfold sA at a;cases e:f j with
 |ok x=>
  rw[e]at a;exact λv g h t r=>a σ g h v (S.step t) r
 |ow C=>
  rw[e]at a;obtain⟨i,a⟩:=a;have z:=S.st;unfold StB at z;rw[i,if_neg bf]at z;exact λq o g h t n m s r=>a q o g h (z.trans t) (z.sh.free n) m s r
 |ex c=>
  rw[e]at a;obtain⟨i,a⟩:=a;have z:=S.st;unfold StB at z;rw[i,if_neg bf]at z;exact λg h t=>a g h (z.trans t)
 |bad=>
  rw[e]at a;exact a
def C7{E₀}{x}{k}{np cpos kp}{msg}{j}(T:DefX X E₀)(hc:X.calm=qc)(hg:L2.Gl X x)(hm:X.mg x=pi (.ref (ad.cls k)))(hd:(x==("__debug__":Str))=qe)(hi:excIn X.K (ad.cls k) [.type "ValueError",.type "Exception",.type "BaseException",.type "object"] "ValueError.__new__"=qc)(hE: ∀c H,E c H->E₀ (.ref (ad.cls c)) qb H):
  MM X ad A E (.Raise (pi (.Call (.Name x np) [.Constant (.str msg) j kp] [] cpos)) qb pos) (sB k):=by
 rintro o s l H h I ⟨e,p,n,d,i,g,G,m,b,S,a⟩;obtain⟨f,a⟩:=a;have z:=S.st;unfold StB at z;rw[f,if_neg bf]at z;exact vN T hc hg hm hd hi I (hE k H (a G H z))
end
noncomputable def fL(kvs:L1 (Str×D))(x:Str):L1 (Str×D):=kvs.filter λp=>decide (p.1≠x)
noncomputable def mUp(A:Nat)(ρ:Rho)(k:Rk->OutM):OutM:=match(ρ[0]? :L7 Slot)with
 |some (.rk C r)=>if C=A then k r else .bad
 |_=>.bad
noncomputable def setR(A:Nat)(ρ:Rho)(r:Rk):OutM:=.nx (ρ.set 0 (.rk A r)) qc
noncomputable def Od(bb:Bool)(r:Rk)(d:D):Rk:=if bb then {r with done:=r.done++[d]} else {r with undone:=r.undone++[d]}
noncomputable def Oe(bb:Bool)(r:Rk):Rk:=if bb then {r with done:=r.done.dropLast} else {r with undone:=r.undone.dropLast}
def GS(A:Nat)(bb:Bool)(f:F):FSM:=λρ b=>mUp A ρ λr=>vZ b (f ρ) λd=>if(BP bb r).length<LIM then setR A ρ (Od bb r d)else .bad
def xG(A i:Nat)(bb:Bool):FSM:=λρ _=>mUp A ρ λr=>match(BP bb r).getLast? with
 |some d=>.nx ((ρ.set 0 (.rk A (Oe bb r))).set (i+1) (.sh d)) qc
 |none=>.bad
def v5(A:Nat):FSM:=λρ _=>mUp A ρ λr=>setR A ρ {r with undone:=[]}
def GT(A:Nat)(f g:F):FSM:=λρ b=>vZ b (g ρ) λv=>mUp A ρ λr=>vZ b (f ρ) λk=>match k with
 |.str x=>if r.held.length<LIM then setR A ρ {r with held:=fJ r.held x v} else .bad
 |_=>.bad
def GU(A:Nat)(f:F):FSM:=λρ b=>mUp A ρ λr=>vZ b (f ρ) λk=>match k with
 |.str x=>if(bC r.held x).isSome then setR A ρ {r with held:=fL r.held x} else .bad
 |_=>.bad
noncomputable def Mc(b:Bool)(r:RA)(k:L1 D->OutM):OutM:=match r with
 |.ok ds=>k ds
 |.ex c=>.ex c b
 |.bad=>.bad
section
variable{X:Cx}{ad:Ad}{A:Nat}{G₀:Hp}{p dx d l1 l20:Addr}{ρ:Rho}{σ:St}{E:Nat->Hp->Prop}{D':Ends}{f:F}{e:Expr}{pos ap cp np qp:Pos}{x:Str}
def nN{k}(hr:OKm X ad A G₀ p dx d l1 l20 (mUp A ρ k) D' E): ∃r,ρ[0]? =pi (.rk A r)/\OKm X ad A G₀ p dx d l1 l20 (k r) D' E:=by unfold mUp at hr;split at hr;rename_i C r e;by_cases a:C=A;rw[if_pos a]at hr;subst a;exact⟨r,e,hr⟩;rw[if_neg a]at hr;exact hr.elim;exact hr.elim
theorem SM.toR(S:SM X ad A G₀ p dx d l1 l20 b G H ρ σ):StepR [p,dx,d,l1,l20] G₀ X.H₀ G H:=by have z:=S.st;unfold StB at z;by_cases a:b=qc;rw[if_pos a]at z;exact z;rw[if_neg a]at z;exact z.toR
def SM.chg(S:SM X ad A G₀ p dx d l1 l20 b G H ρ σ)(hf:a∈[p,dx,d,l1,l20]\/X.H₀ a=qb)(ga:G a=qb)(hR:RackIn X.K ad A G (upd H a o) p r' dx d l1 l2)(h2:l2=l20\/X.H₀ l2=qb):
  SM X ad A G₀ p dx d l1 l20 qc G (upd H a o) (ρ.set 0 (.rk A r')) σ:=by
 have h:0<ρ.length:=by
  obtain⟨r,_,s,_⟩:=S.rk;exact(ay.mp s).1
 have gh:Same G (upd H a o):=λc u e=>by
  have g:c≠a:=λz=>by rw[z,ga]at e;cases e
  rw[aA g];exact S.gh c u e
 refine⟨⟨by rw[ke];exact S.sl.len,λj sl e=>?_⟩,gh,S.me,⟨r',l2,bj h,hR,h2⟩,?_,λc f=>?_,λj sl e=>?_⟩;cases j with
 |zero=>
  rw[bj h]at e;cases e;exact⟨_,S.me,p,dx,d,l1,l2,rfl,hR⟩
 |succ j=>
  rw[bc (by lia)]at e;obtain⟨l,m,i⟩:=S.sl.at_ _ sl e;have n:=S.on j sl e;refine⟨l,m,?_⟩;cases sl with
  |no=>trivial
  |sh d=>exact i
  |_=>cases n
 show StB qc _ _ _ _ _;unfold StB;rw[if_pos rfl];have z:=S.toR;refine⟨z.sg,gh,λc u f e=>?_,z.nw,λc f=>by
  by_cases q:c=a;subst q;rw[aD];exact λz=>nomatch z;rw[aA q];exact S.fr c f⟩
 have g:c≠a:=λq=>by
  subst q;rcases hf with hf|hf;exact f hf;rw[hf]at e;cases e
 rw[aA g];exact z.sh c u f e;by_cases q:c=a;subst q;rw[aD];exact λz=>nomatch z;rw[aA q];exact S.fr c f;rw[bc (by lia)]at e;exact S.on j sl e
def EC(h2:l2=l20\/X.H₀ l2=qb):l2∈[p,dx,d,l1,l20]\/X.H₀ l2=qb:=h2.elim (λz=>.inl (by rw[z];simp)) .inr
def RackIn.list(bb:Bool)(h:RackIn X.K ad A G H p r dx d l1 l2)(rv:aK X.K ad G ds vs):RackIn X.K ad A G (upd H (if bb then l1 else l2) (.lst vs)) p (if bb then {r with done:=ds} else {r with undone:=ds}) dx d l1 l2:=by
 refine gzq λRz ez=>?_;obtain⟨a,e,j⟩:=h.held;obtain⟨m,f,q⟩:=h.done;obtain⟨n,g,o⟩:=h.undone;subst ez;have i: ∀{l:Addr} {ws:L1 V},H l=pi (.lst ws)->p≠l/\dx≠l/\d≠l:=λ{l ws} hl=>
  ⟨(λz=>by rw[<-z,h.ins]at hl;cases hl),(λz=>by rw[<-z,h.own]at hl;cases hl),(λz=>by rw[<-z,e]at hl;cases hl)⟩
 cases bb;obtain⟨q1,b,c⟩:=i g;exact⟨by show upd H l2 _ _=_;rw[aA q1];exact h.ins,by show upd H l2 _ _=_;rw[aA b];exact h.own,⟨a,by show upd H l2 _ _=_;rw[aA c];exact e,j⟩,⟨m,by show upd H l2 _ _=_;rw[aA h.ne];exact f,q⟩,⟨vs,aD,rv⟩,h.ne,h.gp,h.gx,h.gd,h.g1,h.g2⟩;obtain⟨q1,b,c⟩:=i f;exact⟨by show upd H l1 _ _=_;rw[aA q1];exact h.ins,by show upd H l1 _ _=_;rw[aA b];exact h.own,⟨a,by show upd H l1 _ _=_;rw[aA c];exact e,j⟩,⟨vs,aD,rv⟩,⟨n,by show upd H l1 _ _=_;rw[aA h.ne.symm];exact g,o⟩,h.ne,h.gp,h.gx,h.gd,h.g1,h.g2⟩
def ED(bb:Bool)(RC:RkC X.K A)(h:RackIn X.K ad A G H p r dx d l1 l2)(hi:σ[0]? =pi (pi (.ref p)))(q:Q (.ref (if bb then l1 else l2)) H):LV X.K (DZ 0) (if bb then "done" else "undone") σ H Q:=by cases bb;exact iG RC h hi (fd:="undone") rfl RC.n3 q;exact iG RC h hi (fd:="done") rfl RC.n2 q
def AA(bb:Bool)(h:RackIn X.K ad A G H p r dx d l1 l2): ∃vs,H (if bb then l1 else l2)=pi (.lst vs)/\aK X.K ad G (BP bb r) vs/\G (if bb then l1 else l2)=qb:=by cases bb;obtain⟨e,c,f⟩:=h.undone;exact⟨e,c,f,h.g2⟩;obtain⟨b,a,g⟩:=h.done;exact⟨b,a,g,h.g1⟩
def KD(bb:Bool)(hx: ∀σ,XP X ad σ E)(RC:RkC X.K A)(hN:X.N[0]? =pi x)(hv:Vis X.env.scope x)(hd:(x==("__debug__":Str))=qe)(hcd:(x==("__classdict__":Str))=qe)(he:ME X ad e f)(hs:starEach [e] X.env=(qe,eval e X.env)::starEach [] X.env)(hl:(ap.endLine==cp.line)=qc):
  MM X ad A E (.Expr (.Call (.Attribute (.Attribute (.Name x np) (if bb then "done" else "undone") qp) "append" ap) [e] [] cp) pos) (GS A bb f):=by
 refine PS.imp (nZ (MH (T:="list") et PySem.F.slot_list_append PySem.F.type_list_append qN (fH (bO hN hv hd hcd) rfl) (bI he cW hs) rfl (vJ hs) hl hs rfl) rfl) ?_;rintro D' σ H ⟨n,p,Q,d,h,c,G,W,b,S,i⟩;obtain⟨r,I,i⟩:=nN i;obtain⟨r1,o,l,g,m⟩:=S.rk;rw[I]at l;cases l;obtain⟨B,s,Z,U⟩:=AA bb g;unfold Fh tBM;refine ED bb RC g S.me ?_;refine⟨.inl ⟨rfl,B,SqL.of s⟩,?_⟩;refine nM S (hx σ) i λv y M Y L J k t=>?_;have a:=g.step t;obtain⟨u,w,q,C⟩:=AA bb a;by_cases j:(BP bb r).length<LIM;rw[if_pos j]at k;refine⟨_,u,v,rfl,rfl,w,by rw[q.length];exact bg j (by decide),?_⟩;have O:(if bb then h else o)∈[p,Q,d,h,c]\/X.H₀ (if bb then h else o)=qb:=by
  cases bb;exact EC m;exact .inl (by simp)
 refine k σ M _ (L.chg (r':=Od bb r y) O C ?_ m);have z:=a.list bb (q.append (aK.cons J aK.nil));cases bb<;>exact z;rw[if_neg j]at k;exact k.elim
def GV(bb:Bool)(RC:RkC X.K A)(hN:X.N[0]? =pi x)(hv:Vis X.env.scope x)(hd:(x==("__debug__":Str))=qe)(hcd:(x==("__classdict__":Str))=qe)(hl:(ap.endLine==cp.line)=qc)(hnd:X.N.Nodup)(hi:X.N[i+1]? =pi y)(hlo:Loc X.env.scope y)(hf:X.fn y=qc\/X.env.scope.names.lookup y=pi .local):
  MM X ad A E (.Assign [.Name y yp] (.Call (.Attribute (.Attribute (.Name x np) (if bb then "done" else "undone") qp) "pop" ap) [] [] cp) pos) (xG A i bb):=by
 refine PS.imp (j8 (i:=i+1) hnd hi hlo (Jv (T:="list") et PySem.F.slot_list_pop PySem.F.type_list_pop Jw (fH (bO hN hv hd hcd) rfl) rfl hl) rfl hf) ?_;rintro J L H ⟨q,p,C,d,e,g,G,M,b,S,a⟩;obtain⟨r,t,a⟩:=nN a;obtain⟨O,s,m,j,o⟩:=S.rk;rw[t]at m;cases m;obtain⟨l,n,c,w⟩:=AA bb j;unfold Fk NY;refine ED bb RC j S.me ?_;refine⟨.inl ⟨rfl,l,SqL.of n⟩,?_⟩;rcases h:(BP bb r).getLast? with _|I;rw[h]at a;exact a.elim;rw[h]at a;have f:(BP bb r)[(BP bb r).length-1]? =pi I:=by rw[<-List.getLast?_eq_getElem?];exact h
 obtain⟨v,B,u⟩:=c.get f;refine⟨_,l,v,rfl,rfl,n,by rw[c.length];exact B,?_⟩;have hf:(if bb then e else s)∈[p,C,d,e,g]\/X.H₀ (if bb then e else s)=qb:=by
  cases bb;exact EC o;exact .inl (by simp)
 have rd:aK X.K ad G (BP bb r).dropLast l.dropLast:=by
  rw[List.dropLast_eq_take,List.dropLast_eq_take,c.length];exact c.take _
 refine a _ G _ (SM.set (i:=i) (S.chg (r':=Oe bb r) hf w ?_ o) u);have z:=j.list bb rd;cases bb<;>exact z
end
def jT(A:Nat)(M:FM)(fs:L1 F):FSM:=λρ b=>mUp A ρ λr=>Mc b (args fs ρ) λds=>match M r ds with
 |.pure x=>vZ b x λ_=>.nx ρ b
 |.chg _ r'=>.nx (ρ.set 0 (.rk A r')) qc
section
variable{X:Cx}{ad:Ad}{A n:Nat}{G₀ G H G1 H1:Hp}{p dx d l1 l2 l20:Addr}{b:Bool}{ρ:Rho}{σ:St}{E:Nat->Hp->Prop}{D':Ends}{f g:F}{fs:L1 F}{e k v:Expr}{es:L1 Expr}{pos ap cp np qp kp lp:Pos}{x m:Str}{r':Rk}{M:FM}
def C8(RC:RkC X.K A)(hN:X.N[0]? =pi x)(hv:Vis X.env.scope x)(hd:(x==("__debug__":Str))=qe)(hcd:(x==("__classdict__":Str))=qe):
  MM X ad A E (.Assign [.Attribute (.Name x np) "undone" qp] (.List [] lp) pos) (v5 A):=by
 refine PS.imp (lG (bO hN hv hd hcd) (qD cW) rfl) ?_;rintro W y H ⟨s,p,u,d,L,C,G,T,b,S,g⟩;obtain⟨r,J,g⟩:=nN g;obtain⟨Y,l2,i,m,U⟩:=S.rk;rw[J]at i;cases i;refine⟨bu _,λl n=>?_⟩;have j:Step G H G (upd H l (.lst [])):=Step.own S.gh n;have M:=S.step j;have a:=m.step j;have B:X.H₀ l=qb:=by
  rcases q:X.H₀ l with _|o;rfl;exact absurd n (S.fr l (by rw[q];exact λz=>nomatch z))
 obtain⟨f,t,I⟩:=a.held;obtain⟨v,h,Q⟩:=a.done;have el:upd H l (.lst []) l=pi (.lst []):=aD;have e: ∀{c:Addr} {o:HO},upd H l (.lst []) c=pi o->(∀fs,o≠ .ins A u fs)->c≠p:=λ{c o} hc ho z=>by
  rw[z,a.ins]at hc;cases hc;exact ho _ rfl
 have O:L≠l:=λz=>by
  obtain⟨w,q1,_⟩:=m.done;rw[z,n]at q1;cases q1
 refine⟨.ref p,S.me,p,A,u,_,rfl,a.ins,RC.cl,RC.n3,by show 3<1000;decide,?_⟩;refine g y G _ (M.chg (r':={r with undone:=[]}) (l2:=l) (.inl (by simp)) a.gp ?_ (.inr B));exact⟨aD,by rw[aA (e a.own λ_ z=>nomatch z)];exact a.own,⟨f,by rw[aA (e t λ_ z=>nomatch z)];exact t,I⟩,⟨v,by rw[aA (e h λ_ z=>nomatch z)];exact h,Q⟩,
  ⟨[],by rw[aA (e el λ_ z=>nomatch z)];exact el,aK.nil⟩,O,a.gp,a.gx,a.gd,a.g1,S.gh.free n⟩
def GW{K}(h:HR K ad G held kvs)x:HR K ad G (fL held x) (L2.dropK kvs (pu x)):=by
 unfold fL L2.dropK;induction h with
 |nil=>exact .nil
 |@cons p q e d a t c=>
  rw[jn,jn];by_cases z:p.1=x;have b:q.1=(pu x:L2.Key):=by rw[a.1,z]
  simp only[z,b,ne_eq,not_true_eq_false,decide_false,az,if_false];exact c;have b: ¬q.1=(pu x:L2.Key):=λy=>z (by rw[a.1]at y;exact n7 y);simp only[z,b,ne_eq,not_false_eq_true,decide_true,if_true];exact .cons a c
def RackIn.dict{held}(h:RackIn X.K ad A G H p r dx d l1 l2)(rv:HR X.K ad G held kvs):RackIn X.K ad A G (upd H d (.dK kvs)) p {r with held:=held} dx d l1 l2:=by
 obtain⟨e,j,m⟩:=h.held;obtain⟨f,a,l⟩:=h.done;obtain⟨g,b,i⟩:=h.undone;have ne: ∀{c:Addr} {o:HO},H c=pi o->(∀fs,o≠ .dK fs)->c≠d:=λ{c o} hc ho z=>by
  rw[z,j]at hc;cases hc;exact ho _ rfl
 exact⟨by rw[aA (ne h.ins λ_ z=>nomatch z)];exact h.ins,by rw[aA (ne h.own λ_ z=>nomatch z)];exact h.own,⟨kvs,aD,rv⟩,⟨f,by rw[aA (ne a λ_ z=>nomatch z)];exact a,l⟩,
  ⟨g,by rw[aA (ne b λ_ z=>nomatch z)];exact b,i⟩,h.ne,h.gp,h.gx,h.gd,h.g1,h.g2⟩
def GY(hu:X.A.units+62<cLine)(hx: ∀σ,XP X ad σ E)(RC:RkC X.K A)(hN:X.N[0]? =pi x)(hv:Vis X.env.scope x)(hd:(x==("__debug__":Str))=qe)(hcd:(x==("__classdict__":Str))=qe)(hk:ME X ad k f)(hw:ME X ad v g)(hs:swapsWith v (pi (.Subscript (.Attribute (.Name x np) "held" qp) k kp)) pos.line X.env=pure qe):
  MM X ad A E (.Assign [.Subscript (.Attribute (.Name x np) "held" qp) k kp] v pos) (GT A f g):=by
 refine PS.imp (FU (by lia) (fH (bO hN hv hd hcd) rfl) hk hw hs) ?_;rintro T σ H ⟨e,p,Z,d,U,i,G,J,b,S,Y⟩;refine nM S (hx σ) Y λw y G1 H1 l j a st=>?_;obtain⟨r,Q,a⟩:=nN a;obtain⟨r1,l2,s,B,M⟩:=l.rk;rw[Q]at s;cases s;refine iG RC B l.me (fd:="held") rfl RC.n1 ?_;refine nM l (hx σ) a λu z W H2 I o C st2=>?_;cases z with
 |str q=>
  unfold Rep at o;subst o;have c:=B.step st2;obtain⟨m,O,t⟩:=c.held;have L:m.length=r.held.length:=(li t).symm;have h:OKm X ad A e p Z d U i (if r.held.length<LIM then setR A J {r with held:=fJ r.held q y} else .bad) T E:=C;by_cases n:r.held.length<LIM;rw[if_pos n]at h;refine⟨d,_,rfl,IL.k (k:=pu q) O (by rw[L];exact bg n (by decide)),?_⟩;exact h σ W _ (I.chg (.inl (by simp)) c.gd (c.dict (Aj t (j.mono st2.sg) q)) M);rw[if_neg n]at h;exact h.elim
 |_=>exact C.elim
def GZ(hx: ∀σ,XP X ad σ E)(RC:RkC X.K A)(hN:X.N[0]? =pi x)(hv:Vis X.env.scope x)(hd:(x==("__debug__":Str))=qe)(hcd:(x==("__classdict__":Str))=qe)(hk:ME X ad k f)(hm:M1 X (.Attribute (.Name x np) "held" qp) "pop" ap k cp):
  MM X ad A E (.Expr (.Call (.Attribute (.Attribute (.Name x np) "held" qp) "pop" ap) [k] [] cp) pos) (GU A f):=by
 refine PS.imp (nZ (Ci (fH (bO hN hv hd hcd) rfl) hk hm) rfl) ?_;rintro M σ H ⟨e,p,U,d,O,h,G,B,b,S,l⟩;obtain⟨r,L,l⟩:=nN l;obtain⟨Z,Y,n,i,I⟩:=S.rk;rw[L]at n;cases n;obtain⟨c,Q,_⟩:=i.held;unfold Fh Ee;refine iG RC i S.me (fd:="held") rfl RC.n1 ⟨d,rfl,.inl ⟨c,.inl Q⟩,?_⟩;refine nM S (hx σ) l λu z T W y m t st2=>?_;cases z with
 |str q=>
  unfold Rep at m;subst m;have a:=i.step st2;obtain⟨j,J,o⟩:=a.held;have w:=kT o q;have g:OKm X ad A e p U d O h (if(bC r.held q).isSome=qc then setR A B {r with held:=fL r.held q} else .bad) M E:=t;rcases s:bC r.held q with _|dd;rw[s]at g;exact g.elim;rw[s]at g w;obtain⟨v,C,_⟩:=w;refine⟨j,pu q,v,J,rfl,C,?_⟩;exact g σ T _ (y.chg (.inl (by simp)) a.gd (a.dict (GW o q)) I)
 |_=>exact t.elim
def G6{k}{Q'}(S:SM X ad A G₀ p dx d l1 l20 b G H ρ σ)(hx:XP X ad σ E)(hr:OKm X ad A G₀ p dx d l1 l20 (Mc b (args fs ρ) k) D' E)
  (q: ∀vs ds G1 H1,SM X ad A G₀ p dx d l1 l20 b G1 H1 ρ σ->aK X.K ad G1 ds vs->ds.length=fs.length->OKm X ad A G₀ p dx d l1 l20 (k ds) D' E->Step G H G1 H1->Q' vs H1):tA X ad fs σ H Q':=by
 refine⟨G,ρ,E,S.gh,S.sl,hx,?_⟩;cases e:args fs ρ with
 |ok ds=>
  rw[e]at hr;exact λvs G1 H1 t r=>q vs ds G1 H1 (S.step t) r (gZ e) hr t
 |ex c=>
  rw[e]at hr;obtain⟨a,hr⟩:=hr;have z:=S.st;unfold StB at z;rw[a,if_neg bf]at z;exact λG1 H1 t=>hr G1 H1 (z.trans t)
 |bad=>
  rw[e]at hr;exact hr
def SM.call(S:SM X ad A G₀ p dx d l1 l20 b G H ρ σ)(h2:l2=l20\/X.H₀ l2=qb)(t:StepR [p,dx,d,l1,l2] G H G1 H1)(hR:RackIn X.K ad A G1 H1 p r' dx d l1 l2')(h3:l2'=l2\/H l2'=qb):SM X ad A G₀ p dx d l1 l20 qc G1 H1 (ρ.set 0 (.rk A r')) σ:=by
 have g:0<ρ.length:=by
  obtain⟨r,_,B,_⟩:=S.rk;exact(ay.mp B).1
 have f: ∀c,H c=qb->X.H₀ c=qb:=λc a=>by
  rcases q:X.H₀ c with _|o;rfl;exact absurd a (S.fr c (by rw[q];exact λz=>nomatch z))
 refine⟨⟨by rw[ke];exact S.sl.len,λj sl e=>?_⟩,t.gh,S.me,⟨r',l2',bj g,hR,?_⟩,?_,λc a=>t.th c (S.fr c a),λj sl e=>?_⟩;cases j with
 |zero=>
  rw[bj g]at e;cases e;exact⟨_,S.me,p,dx,d,l1,l2',rfl,hR⟩
 |succ j=>
  rw[bc (by lia)]at e;obtain⟨n,s,i⟩:=S.sl.at_ _ sl e;have x:=S.on j sl e;refine⟨n,s,?_⟩;cases sl with
  |no=>trivial
  |sh d=>
   obtain⟨v,q1,h⟩:=i;exact⟨v,q1,h.mono t.sg⟩
  |_=>cases x
 rcases h3 with rfl|h3;exact h2;exact .inr (f _ h3);show StB qc _ _ _ _ _;unfold StB;rw[if_pos rfl];have z:=S.toR;refine⟨z.sg.trans t.sg,t.gh,λc u a e=>t.sh c u (λm=>?_) (z.sh c u a e),λc w l=>?_,λc a=>t.th c (S.fr c a)⟩;simp only[av,jq,or_false,not_or]at m a;rcases m with m|m|m|m|m;exact a.1 m;exact a.2.1 m;exact a.2.2.1 m;exact a.2.2.2.1 m;rcases h2 with h2|h2;exact a.2.2.2.2 (m.trans h2);rw[m,h2]at e;cases e;rcases q:G c with _|o;exact f c (t.nw c q l);exact z.nw c w (by rw[q];exact λy=>nomatch y);rw[bc (by lia)]at e;exact S.on j sl e
def C9(S:SM X ad A G₀ p dx d l1 l20 b G H ρ σ)(h2:l2=l20\/X.H₀ l2=qb){R'}(hr:OKm X ad A G₀ p dx d l1 l20 (match R' with|.pure x=>vZ b x λ_=>.nx ρ b|.chg _ r'=>.nx (ρ.set 0 (.rk A r')) qc) D' E):
  RMK X.K ad A G H p dx d l1 l2 R' (λ_ H1=>D'.nx σ H1) E:=by
 cases R' with
 |pure x=>
  have a:OKm X ad A G₀ p dx d l1 l20 (vZ b x λ_=>.nx ρ b) D' E:=hr;cases x with
  |ok y=>exact λv e H1 t _=>a σ e H1 (S.step t)
  |ow o=>exact λq n e H1 t _ _ _ _=>a σ e H1 (S.step t)
  |ex c=>
   obtain⟨g,f⟩:=a;have z:=S.st;unfold StB at z;rw[g,if_neg bf]at z;exact λe H1 t=>f e H1 (z.trans t)
  |bad=>exact a.elim
 |chg x r'=>exact λv j i l t m h _=>hr σ j i (S.call h2 t m h)
def G8(hx: ∀σ,XP X ad σ E)(RC:RkC X.K A)(M0:MetOk X ad A m n M)(hN:X.N[0]? =pi x)(hv:Vis X.env.scope x)(hd:(x==("__debug__":Str))=qe)(hcd:(x==("__classdict__":Str))=qe)(ha:MA X ad (e::es) fs)(hn:fs.length=n)(hst:starEach (e::es) X.env=(qe,eval e X.env)::starEach es X.env)(hpl:(backTo cp (starEach es X.env)).any (·.1)=qe)(hfm:methodCallForm ((e::es).length+([]:L1 Keyword).length) (backTo cp (starEach (e::es) X.env)) (backToKw cp (keywordEach [] X.env))=qc)(hln:(ap.endLine==cp.line)=qc):
  MM X ad A E (.Expr (.Call (.Attribute (.Name x np) m ap) (e::es) [] cp) pos) (jT A M fs):=by
 rintro t s σ H Y I ⟨U,p,dx,d,l1,ab,G,ρ,b,S,L⟩;obtain⟨r,e0,L⟩:=nN L;obtain⟨J,l2,O,T,h2⟩:=S.rk;rw[e0]at O;cases O;have h:X.wp (eval (.Call (.Attribute (.Name x np) m ap) (e::es) [] cp) X.env) (EP X t σ λ_ a=>Y.nx σ a) X.xe s:=by
  obtain⟨fm,k,fd,ps,l,_⟩:=M0.ok;refine fy (L2.thn (bO hN hv hd hcd t s σ H (λv a=>v= .ref p/\a=H) I ⟨.ref p,S.me,rfl,rfl⟩) λu Z q=>?_) (gK rfl hfm hln);obtain⟨v,a,g,J,e1,e2⟩:=q;subst e1;subst e2;cases (show u=pf p from J);refine fG g T.ins RC.cl l (rQ M0.no) ?_;refine im (first:=[.ref p]) (h₀:=X.base) g.ok.mod.kin l.kp (L2.thn (ha cp t Z σ a (λz j=>∃c f,Step G a f j/\aK X.K ad f c z/\c.length=fs.length/\RMK X.K ad A f j p dx d l1 l2 (M r c) (λ_ H3=>Y.nx σ H3) E) g
   (G6 S (hx σ) L λz c f j S1 B o k i=>⟨c,f,i,B,o,C9 S1 h2 k⟩)) λus s2 ⟨z,j,Q,r2,c,f,i,B,o,k⟩=>⟨Q.kIn,?_⟩) hst hpl
  exact l8 M0 Q i.gh (T.step i) r2 B (o.trans hn) (hx σ) k l
 exact wpAny_Expr_any (L2.thn h λv Z C=>by obtain⟨y,a,g,J,q1⟩:=C;exact⟨σ,a,g,q1⟩) I.quiet rfl
end
structure CA where
 o:Expr
 m:Str
 ap:Pos
 as:List Expr
 cp:Pos
def sC:Expr->L7 CA
 |.Call f as kws cp=>if kws.isEmpty then(Cb f).bind λ(o,m,ap)=>if(ap.endLine==cp.line)=qc then pi ⟨o,m,ap,as,cp⟩ else qb else qb
 |_=>qb
def Da(h:Cb e=pi (o,f,q)):e= .Attribute o f q:=by cases e<;>first|(cases h;rfl)|(cases h;done)
def i8(h:sC e=pi c):e= .Call (.Attribute c.o c.m c.ap) c.as [] c.cp/\(c.ap.endLine==c.cp.line)=qc:=by
 cases e<;>try (cases h;done)
 rename_i f as a cp;have d:(if a.isEmpty then(Cb f).bind λ(o,m,ap)=>if(ap.endLine==cp.line)=qc then pi (⟨o,m,ap,as,cp⟩:CA)else qb else qb)=pi c:=h;by_cases hk:a.isEmpty=qc;rw[if_pos hk]at d;obtain⟨⟨o,m,ap⟩,j,i⟩:=zBd d;have b:(if(ap.endLine==cp.line)=qc then pi (⟨o,m,ap,as,cp⟩:CA)else qb)=pi c:=i;by_cases g:(ap.endLine==cp.line)=qc;rw[if_pos g]at b;cases b;cases Da j;cases ju.mp hk;exact⟨rfl,g⟩;rw[if_neg g]at b;cases b;rw[if_neg hk]at d;cases d
noncomputable def KG:L7 Nat->L7 Nat
 |some (i+1)=>pi i
 |_=>qb
def Db(h:KG o=pi i):o=pi (i+1):=by
 rcases o with _|j;cases h;cases j with
 |zero=>cases h
 |succ j=>cases h;rfl
noncomputable def EE:Expr->Bool
 |.List es _=>es.isEmpty
 |_=>qe
def AB(h:EE e=qc): ∃p,e= .List [] p:=by
 cases e<;>try (cases h;done)
 rename_i a p;cases ju.mp (show a.isEmpty=qc from h);exact⟨p,rfl⟩
def Of(C:SK.Ctx)(e:Expr):L7 Bool:=(sC e).bind λc=>if c.m="pop"/\c.as.isEmpty=qc then(II C c.o).bind λ(i,bb)=>if i=0 then pi bb else qb else qb
def Ha(h:Of C e=pi bb): ∃x np qp ap cp,e= .Call (.Attribute (.Attribute (.Name x np) (if bb then "done" else "undone") qp) "pop" ap) [] [] cp/\(ap.endLine==cp.line)=qc/\loc C x=pi 0:=by have j:=zBd h;clear h;obtain⟨c,f,h⟩:=j;obtain⟨rfl,d⟩:=i8 f;clear f;obtain⟨o,m,ap,u,cp⟩:=c;simp only at h d ⊢;split at h;rename_i r;obtain⟨rfl,l⟩:=r;cases ju.mp l;obtain⟨⟨i,t⟩,s,g⟩:=zBd h;have a:(if i=0 then pi t else qb)=pi bb:=g;by_cases b:i=0;rw[if_pos b]at a;cases a;subst b;obtain⟨x,p,q,rfl,n⟩:=oW s;exact⟨x,p,q,ap,cp,rfl,d,n⟩;rw[if_neg b]at a;cases a;cases h
noncomputable def Nq(A:Nat)(C:SK.Ctx)(t e:Expr):L7 FSM:=match t with
 |.Name x _=>(KG (loc C x)).bind λi=>(match Of C e with
  |some bb=>pi (xG A i bb)
  |none=>(bZ 50 C e).map λf=>C5 i f)
 |.Attribute o f q=>if atF C "undone" (.Attribute o f q)=pi 0/\EE e=qc then pi (v5 A)else qb
 |.Subscript o k _=>if atF C "held" o=pi 0 then(bZ 50 C k).bind λf=>(bY e).bind λ(y,py)=>(bZ 50 C (.Name y py)).map λg=>GT A f g else qb
 |_=>qb
noncomputable def Nr(A:Nat)(ms:L1 (Str×Nat×FM))(C:SK.Ctx)(e:Expr):L7 FSM:=match sC e with
 |some c=>(match bY c.o with
  |some (x,_)=>if loc C x=pi 0 then(ms.lookup c.m).bind λ(n,M)=>if c.as.length<20/\c.as.isEmpty=qe then(eG (bZ 50 C) c.as).bind λfs=>if fs.length=n then pi (jT A M fs)else qb else qb else qb
  |none=>(match II C c.o with
   |some (i,bb)=>if i=0/\c.m="append" then(one c.as).bind λa=>(bZ 50 C a).map λf=>GS A bb f else qb
   |none=>if atF C "held" c.o=pi 0/\c.m="pop" then(one c.as).bind λa=>(bZ 50 C a).map λf=>GU A f else qb))
 |none=>(match e with
  |.Call f as kws cp=>if kws.isEmpty then(bZ 50 C (.Call f as [] cp)).map r8 else qb
  |_=>qb)
def Hb(C:SK.Ctx)(x:L7 Expr):L7 FSM:=x.bind λe=>(match e with
 |.Call f as kws _=>if kws.isEmpty then(bY f).bind λ(x,_)=>(one as).bind λa=>if FD a then(match loc C x,glo C x with
  |none,pi (.exc c)=>pi (sB c)
  |_,_=>qb)else qb else qb
 |_=>qb)
noncomputable def isN{α:Type}:L7 α->Bool
 |none=>qc
 |some _=>qe
mutual
noncomputable def mS:Nat->Nat->L1 (Str×Nat×FM)->SK.Ctx->Stmt->L7 FSM
 |0,_,_,_,_=>qb
 |n+1,A,ms,C,st=>match st with
  |.Pass _=>pi eM
  |.If c a b _=>(bZ 50 C c).bind λf=>(mSs n A ms C a).bind λg=>(mSs n A ms C b).map λh=>mIf f g h
  |.Return e _=>e.bind λe=>(bZ 50 C e).map sA
  |.Raise x c _=>if isN c then Hb C x else qb
  |.Assign ts e _=>(one ts).bind λt=>Nq A C t e
  |.Expr e _=>Nr A ms C e
  |_=>qb
noncomputable def mSs:Nat->Nat->L1 (Str×Nat×FM)->SK.Ctx->L1 Stmt->L7 FSM
 |0,_,_,_,_=>qb
 |n+1,A,ms,C,l=>match l with
  |[]=>pi eM
  |st::r=>(mS n A ms C st).bind λg=>(mSs n A ms C r).map λh=>dC g h
end
section
variable{X:Cx}{ad:Ad}{A:Nat}{C:SK.Ctx}{E:Nat->Hp->Prop}{E₀:XK}{ms:L1 (Str×Nat×FM)}{e t:Expr}{g:FSM}
structure MeOk(X:Cx)(ad:Ad)(A:Nat)(ms:List (Str×Nat×FM))(C:SK.Ctx)(E:Nat->Hp->Prop)(E₀:XK):Prop where
 O:StOk X ad C
 T:DefX X E₀
 hx: ∀σ,XP X ad σ E
 hE: ∀c H,E c H->E₀ (.ref (ad.cls c)) qb H
 RC:RkC X.K A
 MO: ∀m n M,ms.lookup m=pi (n,M)->MetOk X ad A m n M
def Hc(L:MeOk X ad A ms C E E₀)(h:Nq A C t e=pi g):MM X ad A E (.Assign [t] e pos) g:=by obtain⟨K,kL,kI⟩:=dY (ad:=ad) 50;unfold Nq at h;split at h;rename_i y py;have hx:=zBd h;clear h;obtain⟨i,w,h⟩:=hx;have l:=Db w;have nm:=L.O.nm l;split at h;rename_i T Z;cases h;obtain⟨x,I,B,ap,cp,rfl,Q,s⟩:=Ha Z;obtain⟨a,j,m,c⟩:=L.O.cx.vis x 0 s;exact GV T L.RC a j m c Q L.O.cx.nd nm.1 nm.2.1 nm.2.2;obtain⟨f,u,rfl⟩:=zMd h;refine PS.imp (Aw L.O u l) ?_;rintro D' M H ⟨J,p,dx,d,l1,U,G,ρ,b,S,hr⟩;exact nM S (L.hx M) hr λv x G1 W S1 r k _=>k _ G1 W (S1.set r);rename_i o f q;split at h;rename_i n;cases h;obtain⟨x,I,B,s,z⟩:=iZ n.1;cases s;obtain⟨lp,rfl⟩:=AB n.2;obtain⟨a,j,m,c⟩:=L.O.cx.vis x 0 z;exact C8 L.RC a j m c;cases h;rename_i o k kp;split at h;rename_i n;obtain⟨x,I,B,rfl,z⟩:=iZ n;obtain⟨a,j,m,c⟩:=L.O.cx.vis x 0 z;have hx:=zBd h;clear h;obtain⟨f,w,h⟩:=hx;have hx:=zBd h;clear h;obtain⟨⟨y,py⟩,u,h⟩:=hx;cases aS u;obtain⟨N,Y,rfl⟩:=zMd h;exact GY L.O.cx.un L.hx L.RC a j m c (K X C _ f L.O.cx w).1 (K X C _ N L.O.cx Y).1 rfl;cases h;cases h
def Hd(L:MeOk X ad A ms C E E₀)(h:Nr A ms C e=pi g):MM X ad A E (.Expr e pos) g:=by obtain⟨v,Z,kI⟩:=dY (ad:=ad) 50;unfold Nr at h;split at h;rename_i c W;obtain⟨rfl,u⟩:=i8 W;obtain⟨o,m,ap,B,U⟩:=c;simp only at h u ⊢;split at h;rename_i x z N;cases aS N;split at h;rename_i p;obtain⟨l,q,t,n⟩:=L.O.cx.vis x 0 p;have hx:=zBd h;clear h;obtain⟨⟨I,M⟩,d,h⟩:=hx;simp only at h;split at h;rename_i b;have hx:=zBd h;clear h;obtain⟨fs,S,h⟩:=hx;split at h;rename_i Q;cases h;obtain⟨J,w⟩:=oV v L.O.cx S;rcases B with _|⟨a,r⟩;exact absurd b.2 (by simp);exact G8 L.hx L.RC (L.MO m I M d) l q t n J Q (aM (w a (.head _))) (g9 λe T=>w e (.tail _ T)) (oX w b.1) u;cases h;cases h;cases h;split at h;rename_i i K y;split at h;rename_i j;obtain⟨rfl,rfl⟩:=j;have hx:=zBd h;clear h;obtain⟨a,s,h⟩:=hx;cases cJ s;obtain⟨f,d,rfl⟩:=zMd h;obtain⟨x,z,G,rfl,p⟩:=oW y;obtain⟨l,q,t,n⟩:=L.O.cx.vis x 0 p;exact KD K L.hx L.RC l q t n (v X C _ f L.O.cx d).1 (aM (aO d).1) u;cases h;split at h;rename_i j;obtain⟨y,rfl⟩:=j;have hx:=zBd h;clear h;obtain⟨a,s,h⟩:=hx;cases cJ s;obtain⟨f,d,rfl⟩:=zMd h;obtain⟨x,z,G,rfl,p⟩:=iZ y;obtain⟨l,q,t,n⟩:=L.O.cx.vis x 0 p;refine GZ L.hx L.RC l q t n (v X C _ f L.O.cx d).1 ⟨rfl,?_,u,?_⟩;rw[aM (aO d).1];rfl;rw[aM (aO d).1];rfl;cases h;split at h;rename_i f B H U;split at h;rename_i hk;cases ju.mp hk;obtain⟨Y,s,rfl⟩:=zMd h;exact GR L.hx (v X C _ Y L.O.cx s).1 rfl;cases h;cases h
def Dc(L:MeOk X ad A ms C E E₀)(h:Hb C x=pi g):MM X ad A E (.Raise x qb pos) g:=by unfold Hb at h;have b:=zBd h;clear h;obtain⟨e,rfl,h⟩:=b;split at h;rename_i z y m u;split at h;rename_i f;cases dX f;have b:=zBd h;clear h;obtain⟨⟨x,p⟩,q,h⟩:=b;cases aS q;have b:=zBd h;clear h;obtain⟨a,l,h⟩:=b;cases cJ l;split at h;rename_i d;obtain⟨s,w,r,rfl⟩:=vV d;split at h;rename_i c v j;cases h;obtain⟨o,i,n,t⟩:=L.O.cx.gl j;exact C7 L.T L.O.cx.calm o n i (L.O.exi c) L.hE;cases h;cases h;cases h;cases h
theorem EF(L:MeOk X ad A ms C E E₀): ∀n,(∀st g,mS n A ms C st=pi g->MM X ad A E st g)/\∀l g,mSs n A ms C l=pi g->MMs X ad A E l g
 |0=>⟨(λ_ _ h=>by cases h),(λ_ _ h=>by cases h)⟩
 |n+1=>by
  obtain⟨p,a⟩:=EF L n;obtain⟨m,s,u⟩:=dY (ad:=ad) 50;refine⟨λst g h=>?_,λl g h=>?_⟩;unfold mS at h;split at h;cases h;exact GP;obtain⟨f,b,h⟩:=zBd h;obtain⟨i,j,h⟩:=zBd h;obtain⟨d,o,rfl⟩:=zMd h;exact Np L.hx (m X C _ f L.O.cx b).2.1 (a _ i j) (a _ d o);have hx:=zBd h;clear h;obtain⟨e,rfl,h⟩:=hx;obtain⟨f,b,rfl⟩:=zMd h;exact KC L.hx (m X C _ f L.O.cx b).1;rename_i x c q;split at h;rename_i r;rcases c with _|_;exact Dc L h;cases r;cases h;have hx:=zBd h;clear h;obtain⟨t,b,h⟩:=hx;cases cJ b;exact Hc L h;exact Hd L h;cases h;unfold mSs at h;split at h;cases h;exact GQ;obtain⟨i,b,h⟩:=zBd h;obtain⟨d,j,rfl⟩:=zMd h;exact C6 (p _ i b) (a _ d j)
end
noncomputable def Dd(A:Nat)(ρ:Rho)(x:D):RM:=match(ρ[0]? :L7 Slot)with
 |some (.rk C r)=>if C=A then .chg x r else .pure .bad
 |_=>.pure .bad
def f8(A:Nat):OutM->RM
 |.rt (.ok x) ρ b=>if b then Dd A ρ x else .pure (.ok x)
 |.rt (.ow xs) _ b=>if b then .pure .bad else .pure (.ow xs)
 |.rt _ _ _=>.pure .bad
 |.nx ρ b=>if b then Dd A ρ .non else .pure (.ok .non)
 |.ex c b=>if b then .pure .bad else .pure (.ex c)
 |.bad=>.pure .bad
def iI(A N:Nat)(g:FSM):FM:=λr ds=>f8 A (g (.rk A r::(ds.map Slot.sh++ao (N-(ds.length+1)) .no)) qe)
def KH(tab:L1 (Str×SK.Gl))(A:Nat)(ms:L1 (Str×Nat×FM))(st:Stmt):L7 (Nat×FM):=match st with
 |.FunctionDef _ as b _ _ _ sc _ _ _=>(d9 as).bind λps=>if bW (aC sc) ps sc then(mSs 100 A ms ⟨tab,[],sc,aC sc,[]⟩ b).map λg=>(ps.length-1,iI A (aC sc).length g)else qb
 |_=>qb
def SL.cons{K}{ad}{G H}{ρ}{σ}{s}{ov}(h:SL K ad G H ρ σ)(h0:SLi K ad G H s ov):SL K ad G H (s::ρ) (ov::σ):=
 ⟨by simp[h.len],λi a e=>by
  cases i with
  |zero=>cases e;exact⟨ov,rfl,h0⟩
  |succ i=>exact h.at_ i a e⟩
section
variable{K:Frag}{ad:Ad}{tab:L1 (Str×SK.Gl)}
def EG{st}{A n:Nat}{ms:L1 (Str×Nat×FM)}(B:ExcK K ad)(TB:eB P w K mg base ad k tab)(RC:RkC K A)(MO: ∀m n M,ms.lookup m=pi (n,M)->(m≠"held"/\m≠"done"/\m≠"undone")/\∃f r fd ps,r<=k/\Meth K A m f/\FnOk P w K mg base (CXe P w) r f fd ps (spM K ad A n M)/\dO K fd ps [])(Fu:Fun K x qual st f fd)(hps:d9 (defArgs st)=pi (self::ps))(hd:KH tab A ms st=pi (n,M)):FnOk P w K mg base (CXe P w) (k+1) f fd (self::ps) (spM K ad A n M):=by
 obtain⟨oc,od,kV,a5,pm,an,a1,ct,a3,rfl,lk,a0⟩:=Fu.ex;cases st with
 |FunctionDef nm as b dl re tp o ts bi a4=>
  have ak:((d9 as).bind λps=>if bW (aC o) ps o then(mSs 100 A ms ⟨tab,[],o,aC o,[]⟩ b).map λg=>(ps.length-1,iI A (aC o).length g)else qb)=pi (n,M):=hd;have ap:d9 as=pi (self::ps):=hps;rw[ap]at ak;have J:(if bW (aC o) (self::ps) o then(mSs 100 A ms ⟨tab,[],o,aC o,[]⟩ b).map λg=>((self::ps).length-1,iI A (aC o).length g)else qb)=pi (n,M):=ak;by_cases hs:bW (aC o) (self::ps) o=qc;rw[if_pos hs]at J;obtain⟨g,hg,e⟩:=zMd J;cases e;obtain⟨S,nm⟩:=cH hs;refine B0 lk a0 S (λvs H Q E Y=>?_) λA' ab s H vs Q E hr Y=>?_;obtain⟨G,p,r,dx,d,Z,N,u,ws,rfl,_,_,rq,hl,_⟩:=Y;have:=rq.length;simp at hl ⊢;lia;obtain⟨G,p,r,dx,d,Z,N,u,ws,rfl,hG,hR,rq,hl,U⟩:=Y;let C:SK.Ctx:=⟨tab,[],o,aC o,[]⟩;have ag: ∀x i,loc C x=pi i->(aC o)[i]? =pi x/\Loc o x/\x∈aC o:=λx i e=>by
   obtain⟨e1,t⟩:=lV e;refine⟨fY e1,?_,lU e1⟩;rcases t with t|t|t;exact .inl t;exact .inr t;exact absurd rfl (S.nofree _ (eQ t))
  let X:=kN (CXe P w) P w K mg base (aC o) qual o f a1 A' ab s H E;have O:StOk X ad C:=by
   refine⟨⟨rfl,S.nd,λx i e=>?_,λx e=>e,λx g e=>?_,λx i e=>?_,rfl,?_,hr.hd,B.exc,B.kin,B.kve,λj m F' e=>by cases e⟩,λ_=>rfl,rfl,λx i e=>(ag x i e).2.1,B.exm,B.exi⟩;obtain⟨a,b,c⟩:=ag x i e;exact⟨a,b.elim .inl λz=>.inr (.inl z),(nm x c).1,(nm x c).2⟩;obtain⟨a,b⟩:=TB x g e;refine⟨a,?_⟩;cases g with
   |fn j m F'=>
    refine gzq λRz ez=>?_;obtain⟨r',f',h1,h2,h3,h4,h5⟩:=b;subst ez;exact⟨r',f',⟨h2,h3,h4⟩,hr.mono h1,h5⟩
   |exc c=>exact b
   |verr=>exact b
   |val d=>exact b
   |tbl a6=>exact b
   |py p=>exact b
   |cls A ms=>exact⟨b.1,b.2.1,λm n M hm=>let ⟨no,f,r,fd,ps,h1,h2,h3,h4⟩:=b.2.2 m n M hm;⟨no,f,r,fd,ps,h2,h3,hr.mono h1,h4⟩⟩
   obtain⟨e1,t⟩:=eP e;rcases t with t|t;exact .inl t;exact absurd rfl (S.nofree _ (eQ t));exact ir (ib (by decide:62<=64) _) hr.units
  have T:DefX X E:=⟨rfl,rfl,rfl,λe s' h=>h⟩;have L:MeOk X ad A ms C (λc q=>E (.ref (ad.cls c)) qb q) E:=⟨O,T,λσ=>zZ T,λc H h=>h,RC,λm n M hm=>let ⟨no,f,r,fd,ps,h1,h2,h3,h4⟩:=MO m n M hm;⟨no,f,r,fd,ps,h2,h3,hr.mono h1,h4⟩⟩;refine⟨_,(EF L 100).2 b g hg,?_⟩;have S0:=i0 (X:=X) (ad:=ad) (n:=(aC o).length-(u.length+1)) hG rq;have a2:L2.start (aC o) (V.ref p::ws)=pi (V.ref p)::(ws.map pi++ao ((aC o).length-(u.length+1)) qb):=by
   unfold L2.start;rw[bq,rq.length];rfl
  refine⟨G,p,dx,d,Z,N,G,.rk A r::(u.map Slot.sh++ao ((aC o).length-(u.length+1)) .no),qe,?_,?_⟩;rw[a2];refine⟨S0.sl.cons ⟨p,dx,d,Z,N,rfl,hR⟩,hG,rfl,⟨r,N,rfl,hR,.inl rfl⟩,?_,λc hc=>hc,λj sl e=>?_⟩;unfold StB;rw[if_neg bf];exact Step.refl hG;have e':(u.map Slot.sh++ao ((aC o).length-(u.length+1)) Slot.no)[j]? =pi sl:=e;have m:=List.mem_of_getElem? e';rcases jz.mp m with m|m;obtain⟨d',_,rfl⟩:=au.mp m;rfl;rw[(List.mem_replicate.mp m).2];rfl;have l:RMK K ad A G H p dx d Z N (f8 A (g (.rk A r::(u.map Slot.sh++ao ((aC o).length-(u.length+1)) .no)) qe)) Q (λc q=>E (.ref (ad.cls c)) qb q):=U;have al: ∀(W:Rho) (b:Bool) (y:D),RMK K ad A G H p dx d Z N (if b then Dd A W y else .pure (.ok y)) Q (λc q=>E (.ref (ad.cls c)) qb q)->∀σ I q v,SM X ad A G p dx d Z N b I q W σ->Rep K ad I y v->Q v q:=λW b y U σ I q v S' rv=>by
   cases b;rw[if_neg bf]at U;have z:=S'.st;unfold StB at z;rw[if_neg bf]at z;exact U v I q z rv;rw[if_pos rfl]at U;obtain⟨r1,ar,f1,f2,f3⟩:=S'.rk;unfold Dd at U;rw[f1]at U;have am:RMK K ad A G H p dx d Z N (if A=A then .chg y r1 else .pure .bad) Q (λc q=>E (.ref (ad.cls c)) qb q):=U;rw[if_pos rfl]at am;exact am v I q ar S'.toR f2 f3 rv
  cases e:g (.rk A r::(u.map Slot.sh++ao ((aC o).length-(u.length+1)) .no)) qe with
  |nx W b=>rw[e]at l;exact λσ I q S'=>al W b .non l σ I q .non S' (by unfold Rep;rfl)
  |rt y W b=>
   rw[e]at l;cases y with
   |ok y=>exact λσ I q v S' rv=>al W b y l σ I q v S' rv
   |ow xs=>
    cases b;exact⟨rfl,l⟩;exact l.elim
   |ex c=>exact l.elim
   |bad=>exact l.elim
  |ex c b=>
   rw[e]at l;cases b;exact⟨rfl,l⟩;exact l.elim
  |bad=>rw[e]at l;exact l.elim
  rw[if_neg hs]at J;cases J
 |_=>cases hd
end
def kF(ρ:Rho)(A i:Nat)(M:FM)(fs:L1 F)(k:D->Rho->Out):Out:=match(ρ[i]? :L7 Slot)with
 |some (.rk C r)=>if C=A then(match args fs ρ with
  |.ok ds=>(match M r ds with
   |.pure x=>fU ρ x λd=>k d ρ
   |.chg x r'=>k x (ρ.set i (.rk A r')))
  |.ex c=>.ex c ρ
  |.bad=>.rt .bad)else .rt .bad
 |_=>.rt .bad
def pX(A i:Nat)(M:FM)(fs:L1 F):FS:=λρ=>kF ρ A i M fs λ_ ρ'=>.nx ρ'
section
variable{X:Cx}{ad:Ad}{σ:St}{G₀ G H G1 H1:Hp}{ρ:Rho}{A i:Nat}{r r':Rk}{p0 dx d l1 l2 l2':Addr}
def RackIn.stepR{K}{r}{qx qd q1 q2}(h:RackIn K ad C G H q r qx qd q1 q2)(t:StepR foot G H G1 H1)(dis: ∀a∈[q,qx,qd,q1,q2],a∉foot):RackIn K ad C G1 H1 q r qx qd q1 q2:=by
 obtain⟨c,f,l⟩:=h.held;obtain⟨i,d,n⟩:=h.done;obtain⟨j,e,m⟩:=h.undone;have gn: ∀{b:Addr} {o:HO},G b=qb->H b=pi o->G1 b=qb:=λ{b o} g hb=>by
  rcases z:G1 b with _|u;rfl;have:=t.nw b g (by rw[z];exact λy=>nomatch y);rw[hb]at this;cases this
 exact⟨t.sh _ _ (dis _ (by simp)) h.ins,t.sh _ _ (dis _ (by simp)) h.own,⟨c,t.sh _ _ (dis _ (by simp)) f,l.mono t.sg⟩,⟨i,t.sh _ _ (dis _ (by simp)) d,n.mono t.sg⟩,⟨j,t.sh _ _ (dis _ (by simp)) e,m.mono t.sg⟩,h.ne,
  gn h.gp h.ins,gn h.gx h.own,gn h.gd f,gn h.g1 d,gn h.g2 e⟩
def SS.updR(S:SS X ad G₀ G H ρ σ)(e:ρ[i]? =pi (.rk A r))(h1:σ[i]? =pi (pi (.ref p0)))(hR:RackIn X.K ad A G H p0 r dx d l1 l2)(t:StepR [p0,dx,d,l1,l2] G H G1 H1)(hR':RackIn X.K ad A G1 H1 p0 r' dx d l1 l2')(h3:l2'=l2\/H l2'=qb):
  SS X ad G₀ G1 H1 (ρ.set i (.rk A r')) σ:=by
 have hl:i<ρ.length:=(ay.mp e).1;have Y:fF H ρ σ i [p0,dx,d,l1,l2]:=⟨A,r,p0,dx,d,l1,l2,e,h1,hR.ins,rfl⟩;have f0:=S.rs.h0 i _ Y;have L:=S.rs.ow i _ Y;have a1:=Y.at S.sl
 have E: ∀c,H c=qb->X.H₀ c=qb:=λc hc=>S.st.sh.free hc
 have I: ∀(j:Nat) (sl:Slot),(ρ.set i (.rk A r'))[j]? =pi sl->(j=i/\sl= .rk A r')\/(j≠i/\ρ[j]? =pi sl):=λj sl e=>by
  by_cases z:j=i
  .subst z;rw[bj hl]at e;cases e;exact .inl ⟨rfl,rfl⟩
  .rw[bc (qa z)]at e;exact .inr ⟨z,e⟩
 have gn: ∀{b:Addr} {o:HO},G b=qb->H b=pi o->G1 b=qb:=λ{b o} g hb=>by
  cases z:G1 b with
  |none=>rfl
  |some u=>
   have:=t.nw b g (by rw[z];exact λy=>nomatch y)
   rw[hb]at this;cases this
 have ab: ∀{j:Nat} {h:L1 Addr},j≠i->fF H ρ σ j h->∀a∈h,a∉[p0,dx,d,l1,l2]:=λ{j h} l f a n hm=>l (S.rs.rr j i h _ a f Y n hm)
 have bk: ∀{j:Nat} {h:L1 Addr},j≠i->fF H1 (ρ.set i (.rk A r')) σ j h->fF H ρ σ j h:=λ{j h} l f=>by
  refine gzq λRz ez=>?_;obtain⟨C,r2,q,qx,qd,q1,x,U,Z,f3,f4⟩:=f;subst ez;rw[bc (qa l)]at U;refine gzq λRz ez=>?_;obtain⟨q',am,ag,al,an,W,N⟩:=S.sl.rk U;subst ez;rw[Z]at W;cases W;have fo:fF H ρ σ j [q,am,ag,al,an]:=⟨C,r2,q,am,ag,al,an,U,Z,N.ins,rfl⟩
  have:=t.sh _ _ (ab l fo q (by simp)) N.ins
  rw[f3]at this;cases this;exact⟨C,r2,q,qx,qd,q1,x,U,Z,N.ins,f4⟩
 have bi: ∀{h:L1 Addr},fF H1 (ρ.set i (.rk A r')) σ i h->h=[p0,dx,d,l1,l2']:=λ{h} f=>by
  refine gzq λRz ez=>?_;obtain⟨C,r2,q,qx,qd,q1,x,U,Z,f3,f4⟩:=f;subst ez;rw[h1]at Z;cases Z;rw[bj hl]at U;cases U;rw[hR'.ins]at f3;cases f3;exact f4
 have s: ∀a∈[p0,dx,d,l1,l2'],a∈[p0,dx,d,l1,l2]\/H a=qb:=λa n=>by
  simp only[av,jq,or_false]at n ⊢;rcases n with z|z|z|z|z
  .exact .inl (.inl z)
  .exact .inl (.inr (.inl z))
  .exact .inl (.inr (.inr (.inl z)))
  .exact .inl (.inr (.inr (.inr (.inl z))))
  .rcases h3 with y|y
   .exact .inl (.inr (.inr (.inr (.inr (z.trans y)))))
   .exact .inr (by rw[z];exact y)
 refine⟨⟨S.st.sg.trans t.sg,t.gh,λb o hb=>t.sh b o (λm=>by rw[f0 b m]at hb;cases hb) (S.st.sh b o hb),λb W N=>?_⟩,⟨by rw[ke];exact S.sl.len,λj sl p=>?_⟩,λj sl a p w hj=>?_,λj O sl ak a p T w w' hj a0=>?_,⟨λj h f a n=>?_,λj h f a n k sl ek w hk=>?_,λj O h ap a f f' n J=>?_⟩⟩
 .cases q:G b with
  |none=>exact E b (t.nw b q N)
  |some o=>exact S.st.nw b W (by rw[q];exact λy=>nomatch y)
 .rcases I j sl p with ⟨rfl,rfl⟩|⟨l,p⟩
  .exact⟨_,h1,p0,dx,d,l1,l2',rfl,hR'⟩
  .obtain⟨ov,k1,k2⟩:=S.sl.at_ j sl p;refine⟨ov,k1,?_⟩
   cases sl with
   |no=>trivial
   |sh y=>
    obtain⟨v,q1,x⟩:=k2;exact⟨v,q1,x.mono t.sg⟩
   |ow xs=>
    obtain⟨a,vs,q1,x,M,q4⟩:=k2;subst q1;exact⟨a,vs,rfl,gn x M,t.sh _ _ (λm=>L a m j _ p rfl k1) M,q4.mono t.sg⟩
   |dc ar=>
    refine gzq λRz ez=>?_;obtain⟨a,vs,q1,x,M,q4,q5⟩:=k2;subst ez;subst q1;exact⟨a,vs,rfl,gn x M,t.sh _ _ (λm=>L a m j _ p rfl k1) M,q4.mono t.sg,q5⟩
   |sd ar=>
    refine gzq λRz ez=>?_;obtain⟨a,vs,q1,x,M,q4,q5⟩:=k2;subst ez;subst q1;exact⟨a,vs,rfl,gn x M,t.sh _ _ (λm=>L a m j _ p rfl k1) M,q4.mono t.sg,q5⟩
   |rk C r2=>
    refine gzq λRz ez=>?_;obtain⟨q,qx,qd,q1,x,W,N⟩:=k2;subst ez;subst W;exact⟨q,qx,qd,q1,x,rfl,N.stepR t (ab l ⟨C,r2,q,qx,qd,q1,x,p,k1,N.ins,rfl⟩)⟩
 .rcases I j sl p with ⟨rfl,rfl⟩|⟨l,p⟩
  .cases w
  .exact S.ow j sl a p w hj
 .rcases I j sl p with ⟨rfl,rfl⟩|⟨l,p⟩
  .cases w
  .rcases I O ak T with ⟨rfl,rfl⟩|⟨B,T⟩
   .cases w'
   .exact S.dj j O sl ak a p T w w' hj a0
 .by_cases l:j=i
  .subst l;rw[bi f]at n;rcases s a n with z|z
   .exact f0 a z
   .exact E a z
  .exact S.rs.h0 j h (bk l f) a n
 .rcases I k sl ek with ⟨rfl,rfl⟩|⟨nk,Q⟩
  .cases w
  .by_cases l:j=i
   .subst l;rw[bi f]at n;rcases s a n with z|z
    .exact L a z k sl Q w hk
    .exact(S.sl.own_at Q w hk).2 z
   .exact S.rs.ow j h (bk l f) a n k sl Q w hk
 .by_cases l:j=i
  .by_cases B:O=i
   .rw[l,B]
   .subst l;rw[bi f]at n;have fb:=bk B f';rcases s a n with z|z
    .exact S.rs.rr j O _ ap a Y fb z J
    .exact absurd z (fb.at S.sl a J).2
  .by_cases B:O=i
   .subst B;rw[bi f']at J;have fb:=bk l f;rcases s a J with z|z
    .exact S.rs.rr j O h _ a fb Y n z
    .exact absurd z (fb.at S.sl a n).2
   .exact S.rs.rr j O h ap a (bk l f) (bk B f') n J
end
def mV(X:Cx)(ad:Ad)(A i:Nat)(M:FM)(fs:L1 F):TE:=λσ H Q=>∃G ρ E r p0 dx d l1 l2,Same G H/\SL X.K ad G H ρ σ/\XP X ad σ E/\σ[i]? =pi (pi (V.ref p0))/\RackIn X.K ad A G H p0 r dx d l1 l2/\
 tA X ad fs σ H (λvs H1=>∃ds G1,Step G H G1 H1/\aK X.K ad G1 ds vs/\ds.length=fs.length/\RMK X.K ad A G1 H1 p0 dx d l1 l2 (M r ds) Q E)
section
variable{X:Cx}{ad:Ad}{Z:(St->Nat->Hp->Prop)->Prop}{σ:St}{G₀ G H G1 H1:Hp}{ρ:Rho}{D':Ends}{E:St->Nat->Hp->Prop}{A i n:Nat}{M:FM}{fs:L1 F}{x m:Str}{es:L1 Expr}{np ap cp:Pos}
def EH(RC:RkC X.K A)(M0:MetOk X ad A m n M)(hN:X.N[i]? =pi x)(hv:Vis X.env.scope x)(hd:(x==("__debug__":Str))=qe)(hcd:(x==("__classdict__":Str))=qe)(ha:MA X ad es fs)(hn:fs.length=n)(hst: ∀a r,es=a::r->starEach (a::r) X.env=(qe,eval a X.env)::starEach r X.env/\(backTo cp (starEach r X.env)).any (·.1)=qe)(hl:es.length=fs.length)(hfm:methodCallForm (es.length+([]:L1 Keyword).length) (backTo cp (starEach es X.env)) (backToKw cp (keywordEach [] X.env))=qc)(hln:(ap.endLine==cp.line)=qc):
  PE X (.Call (.Attribute (.Name x np) m ap) es [] cp) (mV X ad A i M fs):=by
 rintro y s t H Q I ⟨G,ρ,E,r,c,dx,d,l1,l2,hG,hS,z,L,o,h⟩;obtain⟨fm,k,fd,ps,b,_⟩:=M0.ok;refine fy (L2.thn (bO hN hv hd hcd y s t H (λv f=>v= .ref c/\f=H) I ⟨.ref c,L,rfl,rfl⟩) λu U l=>?_) (gK rfl hfm hln);obtain⟨v,f,g,Z,C,O⟩:=l;subst C;subst O;cases (show u=pf c from Z);refine fG g o.ins RC.cl b (rQ M0.no) ?_;rcases es with _|⟨a,dZ⟩;rcases fs with _|⟨_,_⟩;refine gzq λRz ez=>?_;obtain⟨B,T,J,j,_,_,h⟩:=h;obtain⟨Y,G3,e,q,p,k⟩:=(show AK X.K ad B f (.ok []) _ J from h) [] B f (Step.refl j) aK.nil;subst ez;exact gw (first:=[.ref c]) g.kIn b.kp (l8 M0 g e.gh (o.step e) .nil q (p.trans hn) z k b);cases hl;refine im (first:=[.ref c]) (h₀:=X.base) g.ok.mod.kin b.kp (L2.thn (ha cp y U t f _ g h) λus s2 ⟨vs,H2,w,S,Y,G1,e,q,hl,k⟩=>⟨w.kIn,?_⟩) (hst a dZ rfl).1 (hst a dZ rfl).2;exact l8 M0 w e.gh (o.step e) S q (hl.trans hn) z k b
def EI(S:SS X ad G₀ G H ρ σ)(hx:XA X ad Z E){k}{Q'}(hr:OKo X ad G₀ (kF ρ A i M fs k) D' E)
  (q: ∀v y G1 H1 ρ1,SS X ad G₀ G1 H1 ρ1 σ->Rep X.K ad G1 y v->OKo X ad G₀ (k y ρ1) D' E->Q' v H1):mV X ad A i M fs σ H Q':=by
 unfold kF at hr;cases e:(ρ[i]? :L7 Slot)with
 |none=>rw[e]at hr;exact hr.elim
 |some sl=>
  rw[e]at hr;cases sl with
  |rk C r=>
   have b:OKo X ad G₀ (if C=A then(match args fs ρ with
    |.ok j=>(match M r j with
     |.pure x=>fU ρ x λd=>k d ρ
     |.chg x n=>k x (ρ.set i (.rk A n)))
    |.ex c=>.ex c ρ
    |.bad=>.rt .bad)else .rt .bad) D' E:=hr
   by_cases z:C=A;rw[if_pos z]at b;subst z;obtain⟨N,dx,d,W,Q,J,I⟩:=S.sl.rk e;refine⟨G,ρ,E σ,r,N,dx,d,W,Q,S.st.gh,S.sl,hx.1 σ,J,I,G,ρ,E σ,S.st.gh,S.sl,hx.1 σ,?_⟩;cases l:args fs ρ with
   |ok j=>
    rw[l]at b;intro vs G1 H1 st rq;refine⟨j,G1,st,rq,gZ l,?_⟩;have m:=S.step st;have o:=I.step st;have f:OKo X ad G₀ (match M r j with
     |.pure x=>fU ρ x λd=>k d ρ
     |.chg x n=>k x (ρ.set i (.rk C n))) D' E:=b
    cases B:M r j with
    |pure y=>
     rw[B]at f;cases y with
     |ok y=>exact λv h g st2 u=>q v y h g ρ (m.step st2) u f
     |ow xs=>
      intro a ws h g st2 Y m2 T p;obtain⟨O,w,r3⟩:=dG (X:=X) (ad:=ad) st2 Y m2 T p;exact q _ _ O g ρ (m.step w) r3 f
     |ex c=>exact λh g st2=>f σ h g (m.step st2)
     |bad=>exact f.elim
    |chg y n=>
     rw[B]at f;exact λv h g L t s U u=>q v y h g _ (m.updR e J o t s U) u f
   |ex c=>
    rw[l]at b;exact λG1 H1 st=>b σ G1 H1 (S.step st)
   |bad=>
    rw[l]at b;exact b.elim
   rw[if_neg z]at b;exact b.elim
  |no=>exact hr.elim
  |sh _=>exact hr.elim
  |ow _=>exact hr.elim
  |dc _=>exact hr.elim
  |sd _=>exact hr.elim
end
noncomputable def rk0:Rk:=⟨[],[],[]⟩
def spI(K:Frag)(ad:Ad)(A:Nat):Sp:=λvs H Q _=>∃p dx G,vs=[V.ref p]/\Same G H/\G p=qb/\G dx=qb/\dx≠p/\H p=pi (.ins A dx [])/\H dx=pi (.own p)/\
 ∀d l1 l2 H',H d=qb->H l1=qb->H l2=qb->RackIn K ad A G H' p rk0 dx d l1 l2->(∀b o,b≠p->H b=pi o->H' b=pi o)->Q .non H'
structure Ini(X:Cx)(A:Nat)(x:Str):Prop where
 RC:RkC X.K A
 hN:X.N[0]? =pi x
 hv:Vis X.env.scope x
 hd:(x==("__debug__":Str))=qe
 hcd:(x==("__classdict__":Str))=qe
noncomputable def Og(x:Str)(n1 q1 a1 n2 q2 a2 n3 q3 a3 e1 e2 e3:Pos):L1 Stmt:=
 [.Assign [.Attribute (.Name x n1) "held" q1] (.Dict [] [] e1) a1,.Assign [.Attribute (.Name x n2) "done" q2] (.List [] e2) a2,.Assign [.Attribute (.Name x n3) "undone" q3] (.List [] e3) a3]
section
variable{ad:Ad}{q1:Pos}
def AC(L:Ini X A x){σ:St}(me:σ[0]? =pi (pi (.ref p)))(hG:Same G H)(gp:G p=qb)(gx:G dx=qb)(ne:dx≠p)(hp:H p=pi (.ins A dx []))(hx:H dx=pi (.own p))(q: ∀d l1 l2 H',H d=qb->H l1=qb->H l2=qb->RackIn X.K ad A G H' p rk0 dx d l1 l2->(∀b o,b≠p->H b=pi o->H' b=pi o)->Q .non H'):
  ∃t,PSs X (Og x n1 q1 a1 n2 q2 a2 n3 q3 a3 e1 e2 e3) t/\t {nx:=λ_ H'=>Q .non H',rt:=Q} σ H:=by
 have nm: ∀n:Pos,PE X (.Name x n) (DZ 0):=λn=>bO L.hN L.hv L.hd L.hcd;refine⟨_,e9 (lG (nm n1) u4 rfl) (e9 (lG (nm n2) (qD cW) rfl) (nY (lG (nm n3) (qD cW) rfl))),?_⟩;intro d f;have h:d≠p:=λz=>by rw[z,hp]at f;cases f
 have dd:dx≠d:=λz=>by rw[<-z,hx]at f;cases f
 have j:upd H d (.dK []) p=pi (.ins A dx []):=by rw[aA (qa h)];exact hp
 refine⟨.ref p,me,p,A,dx,_,rfl,j,L.RC.cl,L.RC.n1,by show 0<1000;decide,?_⟩;refine⟨bu _,λl1 n1=>?_⟩;have lp:l1≠p:=λz=>by rw[z,aD]at n1;cases n1
 have m:l1≠d:=λz=>by rw[aA lp,z,aD]at n1;cases n1
 have c:H l1=qb:=by rw[aA lp,aA m]at n1;exact n1
 have s:dx≠l1:=λz=>by rw[<-z,hx]at c;cases c
 refine⟨.ref p,me,p,A,dx,[(("held":Str),V.ref d)],rfl,by rw[aA (qa lp),aD];rfl,L.RC.cl,L.RC.n2,by show 1<1000;decide,?_⟩;refine⟨bu _,λl2 n2=>?_⟩;have g:l2≠p:=λz=>by rw[z,aD]at n2;cases n2
 have ml:l2≠l1:=λz=>by rw[aA g,z,aD]at n2;cases n2
 have l:l2≠d:=λz=>by rw[aA g,aA ml,aA g,z,aD]at n2;cases n2
 have a:H l2=qb:=by rw[aA g,aA ml,aA g,aA l]at n2;exact n2
 have r:dx≠l2:=λz=>by rw[<-z,hx]at a;cases a
 refine⟨.ref p,me,p,A,dx,[(("held":Str),V.ref d),("done",V.ref l1)],rfl,by rw[aA (qa g),aD];rfl,L.RC.cl,L.RC.n3,by show 2<1000;decide,?_⟩;refine q d l1 l2 _ f c a ⟨by rw[aD];rfl,?_,⟨[],?_,.nil⟩,⟨[],?_,aK.nil⟩,⟨[],?_,aK.nil⟩,qa ml,gp,gx,hG.free f,hG.free c,hG.free a⟩ λb o i e=>?_;rw[aA ne,aA r,aA ne,aA s,aA ne,aA dd];exact hx;rw[aA h,aA (qa l),aA h,aA (qa m),aA h,aD];rw[aA lp,aA (qa ml),aA lp,aD];rw[aA g,aD];rw[aA i,aA (aJ e a),aA i,aA (aJ e c),aA i,aA (aJ e f)];exact e
end
section
variable{X:Cx}{ad:Ad}{A:Nat}
def SS.setR(S:SS X ad G₀ G H ρ σ)(s1:Same H H1)(hR:RackIn X.K ad A G H1 p r dx d l1 l2)(nw: ∀a∈[p,dx,d,l1,l2],H a=qb)(gh:Same G H1):SS X ad G₀ G H1 (ρ.set i (.rk A r)) (σ.set i (pi (.ref p))):=by
 have st:Step G H G H1:=⟨Same.refl _,gh,s1,λb Q O=>absurd Q O⟩;have S1:=S.step st;have g: ∀(j:Nat) (sl:Slot),(ρ.set i (.rk A r))[j]? =pi sl->(j=i/\sl= .rk A r/\i<ρ.length)\/(j≠i/\ρ[j]? =pi sl):=λj sl e=>by
  by_cases z:j=i;subst z;have v:j<ρ.length:=by have:=(ay.mp e).1;rwa [ke]at this
  rw[bj v]at e;cases e;exact .inl ⟨rfl,rfl,v⟩;rw[bc (qa z)]at e;exact .inr ⟨z,e⟩
 have s: ∀{j:Nat},j≠i->(σ.set i (pi (V.ref p)))[j]? =σ[j]? :=λ{j} z=>bc (qa z);have bk: ∀{j:Nat} {l:L1 Addr},j≠i->fF H1 (ρ.set i (.rk A r)) (σ.set i (pi (.ref p))) j l->fF H ρ σ j l:=λ{j l} m f=>by
  refine gzq λRz ez=>?_;obtain⟨C,r2,q,Y,qd,q1,W,I,y,J,N⟩:=f;subst ez;rw[bc (qa m)]at I y;exact fF.back S.sl s1 ⟨C,r2,q,Y,qd,q1,W,I,y,J,N⟩
 have M: ∀{l:L1 Addr},fF H1 (ρ.set i (.rk A r)) (σ.set i (pi (.ref p))) i l->l=[p,dx,d,l1,l2]:=λ{l} f=>by
  refine gzq λRz ez=>?_;obtain⟨C,r2,q,Y,qd,q1,W,I,y,J,N⟩:=f;subst ez;rcases g i _ I with ⟨_,z,v⟩|⟨z,_⟩;cases z;rw[bj (by rw[<-S.sl.len];exact v)]at y;cases y;rw[hR.ins]at J;cases J;exact N;exact absurd rfl z
 have u: ∀c,H c=qb->X.H₀ c=qb:=λc hc=>S.st.sh.free hc;refine⟨S1.st,⟨by rw[ke,ke];exact S.sl.len,λj sl e=>?_⟩,λj sl a e w h=>?_,λj x sl E a e T w w' h Z=>?_,⟨λj l f a n=>?_,λj l f a n k sl ek w hk=>?_,λj x l U a f L n t=>?_⟩⟩;rcases g j sl e with ⟨rfl,rfl,v⟩|⟨z,e⟩;exact⟨pi (.ref p),bj (by rw[<-S.sl.len];exact v),p,dx,d,l1,l2,rfl,hR⟩;obtain⟨ov,Q,O⟩:=S1.sl.at_ j sl e;exact⟨ov,by rw[s z];exact Q,O⟩;rcases g j sl e with ⟨_,rfl,_⟩|⟨z,e⟩;cases w;rw[s z]at h;exact S.ow j sl a e w h;rcases g j sl e with ⟨_,rfl,_⟩|⟨z,e⟩;cases w;rcases g x E T with ⟨_,rfl,_⟩|⟨z',T⟩;cases w';rw[s z]at h;rw[s z']at Z;exact S.dj j x sl E a e T w w' h Z;by_cases m:j=i;subst m;rw[M f]at n;exact u a (nw a n);exact S.rs.h0 j l (bk m f) a n;rcases g k sl ek with ⟨_,rfl,_⟩|⟨z,B⟩;cases w;rw[s z]at hk;by_cases m:j=i;rw[m]at f;rw[M f]at n;exact(S.sl.own_at B w hk).2 (nw a n);exact S.rs.ow j l (bk m f) a n k sl B w hk;by_cases m:j=i;by_cases o:x=i;rw[m,o];rw[m]at f;rw[M f]at n;exact absurd (nw a n) ((bk o L).at S.sl a t).2;by_cases o:x=i;rw[o]at L;rw[M L]at t;exact absurd (nw a t) ((bk m f).at S.sl a n).2;exact S.rs.rr j x l U a (bk m f) (bk o L) n t
structure MkOk(X:Cx)(ad:Ad)(A:Addr):Prop where
 ok: ∃f k fd ps,Mk X.K A f/\FnOk X.prog X.w X.K X.mg X.base (CXe X.prog X.w) k f fd ps (spI X.K ad A)/\Room (k+1) X.A/\dO X.K fd ps []
end
abbrev FC:=Rho->(Bool->Rho->Out)->Out
noncomputable def KI(d:D)(k:Bool->Out):Out:=match d with
 |.bl b=>k b
 |_=>.rt .bad
def KJ(f:F):FC:=λρ k=>fU ρ (f ρ) λd=>KI d λb=>k b ρ
def mB(A i:Nat)(M:FM)(fs:L1 F)(op:CmpOp)(g:F):FC:=λρ k=>kF ρ A i M fs λd ρ1=>fU ρ1 (g ρ1) λd2=>fU ρ1 (dR op d d2) λz=>KI z λb=>k b ρ1
noncomputable def cOr(c1 c2:FC):FC:=λρ k=>c1 ρ λb ρ1=>if b then k qc ρ1 else c2 ρ1 k
noncomputable def v6(c:FC)(g h:FS):FS:=λρ=>c ρ λb ρ1=>if b then g ρ1 else h ρ1
def tTx(X:Cx)(ad:Ad)(Z:(St->Nat->Hp->Prop)->Prop)(c:FC):TT:=λσ H Q=>∃G₀ G ρ D' E k,SS X ad G₀ G H ρ σ/\XA X ad Z E/\OKo X ad G₀ (c ρ k) D' E/\∀b ρ1 G1 H1,SS X ad G₀ G1 H1 ρ1 σ->OKo X ad G₀ (k b ρ1) D' E->Q b H1
abbrev MTX(X:Cx)(ad:Ad)(Z:(St->Nat->Hp->Prop)->Prop)(e:Expr)(c:FC):Prop:=PT X e (tTx X ad Z c)
def KL(X:Cx)(ad:Ad)(op:CmpOp):R2:=λx y H Q=>∃G d1 d2 E,Same G H/\Rep X.K ad G d1 x/\Rep X.K ad G d2 y/\RK X.K ad G H (dR op d1 d2) Q E
section
variable{X:Cx}{ad:Ad}{Z:(St->Nat->Hp->Prop)->Prop}{A i:Nat}{M:FM}{g:F}{fs:L1 F}{op:CmpOp}
def He(hu:X.A.units+62<cLine):OpR X (compareOp op) (KL X ad op):=by intro i s b H x y v u Q I j g h;obtain⟨G,l,e,E,f,c,a,d⟩:=h;exact gH op hu i s b H G l e x y v u Q E I f c a j g d
def EJ{G₀ G H}{ρ}{σ}{D'}{E}{k:Bool->Rho->Out}{Q:Bool->Hp->Prop}{r}(S:SS X ad G₀ G H ρ σ)(hr:OKo X ad G₀ (fU ρ r λz=>KI z λb=>k b ρ) D' E)(q: ∀b ρ1 G1 H1,SS X ad G₀ G1 H1 ρ1 σ->OKo X ad G₀ (k b ρ1) D' E->Q b H1):
  RK X.K ad G H r (λv H'=>∃b,v= .bl b/\Q b H') (E σ)/\lN r:=by
 cases r with
 |ok d=>
  cases d with
  |bl b=>
   refine⟨λv G1 H1 a e=>?_,.inl ⟨b,rfl⟩⟩;unfold Rep at e;exact⟨b,e,q b ρ G1 H1 (S.step a) hr⟩
  |_=>exact hr.elim
 |ow f=>exact hr.elim
 |ex c=>exact⟨λG1 H1 a=>hr σ G1 H1 (S.step a),.inr ⟨c,rfl⟩⟩
 |bad=>exact hr.elim
def De(h:MT X ad e f):MTX X ad Z e (KJ f):=by rintro j s a H Q I ⟨b,G,d,m,E,k,S,c,g,q⟩;obtain⟨l,i⟩:=EJ S g q;exact h j s a H Q I ⟨G,d,E a,S.st.gh,S.sl,c.1 a,i,l⟩
def KM{σ:St}{H}{Q}(h:tTx X ad Z (mB A i M fs op g) σ H Q):tOp (KL X ad op) (mV X ad A i M fs) (tE X ad g) σ H λv H'=>∃b,v= .bl b/\Q b H':=by obtain⟨e,G,s,r,E,k,S,c,n,q⟩:=h;refine EI S c n λv y u x o d l hk=>?_;refine gI d c hk λt p m w a f j=>?_;exact⟨m,y,p,E σ,a.gh,l.mono a.sg,f,(EJ (d.step a) j q).1⟩
end
section
variable{P:Program}{w:World}{K:Frag}{mg:Str->L7 Value}{base h:Heap}{ad:Ad}{k:Nat}{tab:L1 (Str×SK.Gl)}{fns:L1 (Nat×Fn)}
def KN{st}{A:Nat}(RC:RkC K A)(Fu:Fun K x qual st f fd)(hs:bW (aC (defScope st)) [self] (defScope st)=qc)(hb: ∃n1 q1 a1 n2 q2 a2 n3 q3 a3 e1 e2 e3,defBody st=Og self n1 q1 a1 n2 q2 a2 n3 q3 a3 e1 e2 e3):FnOk P w K mg base (CXe P w) (k+1) f fd [self] (spI K ad A):=by
 obtain⟨I,L,kV,t,N,C,r,ct,n,rfl,lk,c⟩:=Fu.ex;obtain⟨S,nm⟩:=cH hs;obtain⟨n1,q1,a1,n2,q2,a2,n3,q3,a3,e1,e2,e3,b⟩:=hb;have h:(aC (defScope st))[0]? =pi self:=by
  have:=S.pre;cases e:aC (defScope st)with
  |nil=>rw[e]at this;cases this
  |cons y B=>rw[e]at this;cases this;rfl
 have g:self∈aC (defScope st):=List.mem_of_getElem? h;refine B0 lk c S (λm H Q E a=>?_) λJ d s H m Q E M a=>?_;obtain⟨p,dx,G,rfl,_⟩:=a;rfl;obtain⟨p,dx,G,rfl,u,v,i,j,o,q,l⟩:=a;rw[b];refine AC ⟨RC,h,(S.par self (.head _)).elim .inl λz=>.inr (.inl z),(nm _ g).1,(nm _ g).2⟩ (p:=p) (dx:=dx) (G:=G) ?_ u v i j o q l;unfold L2.start;rfl
def gB.mono(h:gB P w K mg base ad k fns)(hk:k<=k'):gB P w K mg base ad k' fns:=λj n F e=>let ⟨r,h1,h2⟩:=h j n F e;⟨r,mq h1 hk,h2⟩
def EK(h1:jl K A Str.empty=qc)(h2:iw K A=qc)(h3:iy K A=qc)(h4:kr K (.ref A) "__setattr__"=pi (pi (.builtin "object.__setattr__")))(h5:kr K (.ref A) "held"=pi qb)(h6:kr K (.ref A) "done"=pi qb)(h7:kr K (.ref A) "undone"=pi qb):RkC K A:=⟨⟨h1,h2,h3,h4⟩,h5,h6,h7⟩
def PQ.rack(T:PQ P w K mg base h ad k tab fns)(A:Addr)(c:RkC K A)(hm:nsIn K mainGlobals "Rack"=pi (pi (.ref A)):=by kernel_rfl):PQ P w K mg base h ad k (("Rack",.cls A [])::tab) fns:=
 ⟨eB.cons T.t rfl ⟨mi T.X T.G hm,c,λ_ _ _ e=>by cases e⟩,T.u,T.X,T.G,T.B⟩
def PQ.met(T:PQ P w K mg base h ad k tab fns)(m qual:Str)(st:Stmt)(f:Addr)(self:Str)(ps:L1 Str)(n:Nat)(M:FM){A:Addr}{ms:L1 (Str×Nat×FM)}{oc:Value}{od an:L7 Addr}{osl:Array (L7 Value)}{kV doc pm cdv ct:Value}(l:K.lookup f=pi ⟨oc,od,.func (ni m qual (defArgs st) (defBody st) (defScope st) .none kV doc pm an cdv ct),osl⟩)
  (hl:tab.lookup ("Rack":Str)=pi (SK.Gl.cls A ms)) (d:KH tab A ms st=pi (n,M):=by kernel_rfl) (c:codeIn K cdv qual=qc:=by kernel_rfl) (kp:keepIn K (.ref f)=qc:=by kernel_rfl) (m1:kr K (.ref A) m=pi (pi (.ref f)):=by kernel_rfl) (m2:nh K (.ref f)=qc:=by kernel_rfl)
  (no:m≠"held"/\m≠"done"/\m≠"undone":=by decide) (hps:d9 (defArgs st)=pi (self::ps):=by rfl) (nd:(self::ps).Nodup:=by decide):
  PQ P w K mg base h ad (k+1) (("Rack",.cls A ((m,n,M)::ms))::tab) fns:=by
 have F:=lJ (x:=m) (qual:=qual) (st:=st) l c kp;obtain⟨o,j,g⟩:=(T.t "Rack" _ hl).2;have ok:=EG (k:=k) T.B T.t j g F hps d;refine⟨eB.cons (T.t.mono (oe k)) (by decide) ⟨o,j,λi s p e=>?_⟩,T.u.mono (oe k),T.X,T.G,T.B⟩
 rw[jo]at e
 cases q:i==m with
 |true=>
  rw[q]at e;cases e
  cases eq_of_beq q
  exact⟨no,f,k+1,_,_,aj _,⟨m1,m2,kp⟩,ok,F.binds λ_ _ _ _ _ _ E hl=>fZ hps nd hl⟩
 |false=>
  rw[q]at e;refine gzq λRz ez=>?_;obtain⟨a,y,r,C,b,z,v⟩:=g i s p e;subst ez;exact⟨a,y,r,C,b,mq z (oe k),v⟩
end
def Me(K:Frag)(ad:Ad)(A:Nat):Sp:=λvs H Q _=>∃G p r dx d l1 l2,vs=[V.ref p]/\Same G H/\RackIn K ad A G H p r dx d l1 l2/\
 ∀p' dx' d' l1' l2' H',(∀a∈[p',dx',d',l1',l2'],H a=qb)->Same H H'->RackIn K ad A G H' p' r dx' d' l1' l2'->Q (.ref p') H'
noncomputable def twS(x y f T:Str)(p1 p2 p3 p4 p5 p6 p7:Pos):Stmt:=.Assign [.Attribute (.Name y p1) f p2] (.Call (.Name T p3) [.Attribute (.Name x p4) f p5] [] p6) p7
section
variable{ad:Ad}
def sD:kH X (.type "dict") (λxs H Q=>∃a kvs,xs=[.ref a]/\Rd H a (.dK kvs)/\∀p,H p=qb->Q (.ref p) (upd H p (.dK kvs))):=by intro i s d H xs f Q I r h;obtain⟨a,kvs,rfl,e,q⟩:=h;obtain⟨u,rfl,c⟩:=lC r;cases c;exact u6 I e λp g n b=>⟨.ref p,_,b,rfl,q p n⟩
def AD(RC:RkC X.K A)(MK:MkOk X ad A)(h0:PE X (.Name x p0) (DZ 0))(hx: ∀p,PE X (.Name x p) (DZ 0))(hy: ∀p,PE X (.Name y p) (DZ 1))(hN:X.N.Nodup)(h1:X.N[1]? =pi y)(hl:Loc X.env.scope y)(hf:X.fn y=qc\/X.env.scope.names.lookup y=pi .local)(gR:L2.Gl X "Rack")(mR:X.mg "Rack"=pi (.ref A))(gd:L2.Gl X "dict")(md:X.mg "dict"=qb)(gl:L2.Gl X "list")(ml:X.mg "list"=qb)(ha: ∃a b c d e f g,sa=twS x y "held" "dict" a b c d e f g)(hb: ∃a b c d e f g,sb=twS x y "done" "list" a b c d e f g)(hc: ∃a b c d e f g,sc=twS x y "undone" "list" a b c d e f g){σ:St}(me:σ[0]? =pi (pi (.ref p)))(h2:1<σ.length)(hG:Same G H)(hR:RackIn X.K ad A G H p r dx d l1 l2)(q: ∀p' dx' d' l1' l2' H',(∀a∈[p',dx',d',l1',l2'],H a=qb)->Same H H'->RackIn X.K ad A G H' p' r dx' d' l1' l2'->Q (.ref p') H'):
  ∃t,PSs X [.Assign [.Name y p1] (.Call (.Name "Rack" p2) [] [] p3) p4,sa,sb,sc,.Return (pi (.Name y p5)) p6] t/\t {nx:=λ_ H'=>Q .non H',rt:=Q} σ H:=by
 refine gzq λRz ez=>?_;obtain⟨f,k,fd,ps,M,F,hr,ak⟩:=MK.ok;subst ez;obtain⟨a1,a2,a3,a4,a5,a6,a7,rfl⟩:=ha;obtain⟨b1,b2,b3,b4,b5,b6,b7,rfl⟩:=hb;obtain⟨c1,c2,c3,c4,c5,c6,c7,rfl⟩:=hc
 refine⟨_,e9 (j8 hN h1 hl (λcc s σ H Q I hq=>uR (E:=λ_ _ _=>False) M F hr gR mR ak .nil (λcc σ H s e s' I hc=>by obtain⟨_,_,_,_,_,_,_,_,_,_,_,_,_,_,z⟩:=hc;exact z.elim) (by decide) cc s σ H Q I hq) rfl hf)
  (e9 (lG (hy a1) (lH sD gd md (by decide+kernel) (bI (fH (hx a4) rfl) cW rfl)) rfl)
  (e9 (lG (hy b1) (lH gF gl ml (by decide+kernel) (bI (fH (hx b4) rfl) cW rfl)) rfl)
  (e9 (lG (hy c1) (lH gF gl ml (by decide+kernel) (bI (fH (hx c4) rfl) cW rfl)) rfl)
  (nY (uP (hy p5)))))),?_⟩
 refine gzq λRz ez=>?_;obtain⟨T,A1,A2⟩:=hR.held;obtain⟨v1,B1,B2⟩:=hR.done;obtain⟨v2,C1,C2⟩:=hR.undone;subst ez;intro p' dx' C w ne;refine⟨p',dx',G,rfl,?_,hG.free C,hG.free w,ne,aD,by rw[aA ne,aD],λd0 Z Y H1 nd n1 n2 h hk=>⟨rfl,?_⟩⟩
 .exact hG.trans ((Same.upd_new w).trans (Same.upd_new (by rw[aA (qa ne)];exact C)))
 have u:Same H H1:=λb o e=>hk b o (aJ e C) (by rw[aA (aJ e C),aA (aJ e w)];exact e)
 have W:(σ.set 1 (pi (V.ref p')))[0]? =pi (pi (.ref p)):=by rw[bc (by decide)];exact me
 have J:(σ.set 1 (pi (V.ref p')))[1]? =pi (pi (.ref p')):=bj h2
 have pp:p≠p':=aJ hR.ins C;refine⟨.ref p,W,p,A,dx,_,.ref d,rfl,u _ _ hR.ins,RC.cl,RC.n1,rfl,d,T,rfl,.of (u _ _ A1),λd' n=>?_⟩
 have S:d'≠p':=λz=>by rw[z,h.ins]at n;cases n
 refine⟨.ref p',J,p',A,dx',_,rfl,by rw[aA (qa S)];exact h.ins,RC.cl,RC.n1,by show 3<1000;decide,?_⟩
 have s2:Same H (upd (upd H1 d' (.dK T)) p' (.ins A dx' (mY "held" (.ref d') [("held",.ref d0),("done",.ref Z),("undone",.ref Y)]))):=λb o e=>by
  rw[aA (aJ e C),aA (aJ (u _ _ e) n)];exact u _ _ e
 refine⟨.ref p,W,p,A,dx,_,.ref l1,rfl,s2 _ _ hR.ins,RC.cl,RC.n2,rfl,l1,v1,rfl,.inl (SqL.of (s2 _ _ B1)),λU l=>?_⟩
 have v:U≠p':=λz=>by rw[z,aD]at l;cases l
 have ag:U≠d':=λz=>by rw[aA v,z,aD]at l;cases l
 have O:H1 U=qb:=by rw[aA v,aA ag]at l;exact l
 refine⟨.ref p',J,p',A,dx',_,rfl,by rw[aA (qa v),aD],RC.cl,RC.n2,by show 3<1000;decide,?_⟩
 have s3:Same H (upd (upd (upd (upd H1 d' (.dK T)) p' (.ins A dx' (mY "held" (.ref d') [("held",.ref d0),("done",.ref Z),("undone",.ref Y)]))) U (.lst v1)) p' (.ins A dx' (mY "done" (.ref U) (mY "held" (.ref d') [("held",.ref d0),("done",.ref Z),("undone",.ref Y)])))):=λb o e=>by
  rw[aA (aJ e C),aA (aJ (u _ _ e) O)];exact s2 _ _ e
 refine⟨.ref p,W,p,A,dx,_,.ref l2,rfl,s3 _ _ hR.ins,RC.cl,RC.n3,rfl,l2,v2,rfl,.inl (SqL.of (s3 _ _ C1)),λg' i=>?_⟩
 have j:g'≠p':=λz=>by rw[z,aD]at i;cases i
 have B:g'≠U:=λz=>by rw[aA j,z,aD]at i;cases i
 have ab:g'≠d':=λz=>by rw[aA j,aA B,aA j,z,aD]at i;cases i
 have L:H1 g'=qb:=by rw[aA j,aA B,aA j,aA ab]at i;exact i
 refine⟨.ref p',J,p',A,dx',_,rfl,by rw[aA (qa j),aD],RC.cl,RC.n3,by show 3<1000;decide,?_⟩
 refine⟨.ref p',J,?_⟩;have xd:dx'≠d':=aJ h.own n;have xe:dx'≠U:=aJ h.own O;have xg:dx'≠g':=aJ h.own L;refine q p' dx' d' U g' _ (λa m=>?_) (λb o e=>?_) ⟨aD,?_,⟨T,?_,A2⟩,⟨v1,?_,B2⟩,⟨v2,?_,C2⟩,qa B,h.gp,h.gx,hG.free (u.free n),hG.free (u.free O),hG.free (u.free L)⟩
 .simp only[av,jq,or_false]at m;rcases m with rfl|rfl|rfl|rfl|rfl
  .exact C
  .exact w
  .exact u.free n
  .exact u.free O
  .exact u.free L
 .rw[aA (aJ e C),aA (aJ (u _ _ e) L)];exact s3 _ _ e
 .rw[aA ne,aA xg,aA ne,aA xe,aA ne,aA xd];exact h.own
 .rw[aA S,aA (qa ab),aA S,aA (qa ag),aA S,aD]
 .rw[aA v,aA (qa B),aA v,aD]
 .rw[aA j,aD]
end
section
variable{K:Frag}{ad:Ad}{tab:L1 (Str×SK.Gl)}{st:Stmt}
def Nt(B:ExcK K ad)(TB:eB P w K mg base ad k tab)(hms:tab.lookup ("Rack":Str)=pi (SK.Gl.cls A ms))(MK: ∃f r fd ps,r<=k/\Mk K A f/\FnOk P w K mg base (CXe P w) r f fd ps (spI K ad A)/\dO K fd ps [])(Fu:Fun K m qual st f fd)(hs:bW (aC (defScope st)) [self] (defScope st)=qc)(h0:loc ⟨tab,[],defScope st,aC (defScope st),[]⟩ self=pi 0)(h1:loc ⟨tab,[],defScope st,aC (defScope st),[]⟩ other=pi 1)(hd:glo ⟨tab,[],defScope st,aC (defScope st),[]⟩ "dict"=pi (.py .dict))(hl:glo ⟨tab,[],defScope st,aC (defScope st),[]⟩ "list"=pi (.py .list))(hR:(defScope st).names.lookup ("Rack":Str)=pi .globalImplicit)(hb:defBody st=[.Assign [.Name other p1] (.Call (.Name "Rack" p2) [] [] p3) p4,sa,sb,sc,.Return (pi (.Name other p5)) p6])(ha: ∃a b c d e f g,sa=twS self other "held" "dict" a b c d e f g)(hbb: ∃a b c d e f g,sb=twS self other "done" "list" a b c d e f g)(hc: ∃a b c d e f g,sc=twS self other "undone" "list" a b c d e f g):
  FnOk P w K mg base (CXe P w) (k+2) f fd [self] (Me K ad A):=by
 obtain⟨oc,od,kV,ak,pm,an,ag,ct,ab,rfl,lk,q⟩:=Fu.ex;obtain⟨S,nm⟩:=cH hs;refine B0 lk q S (λvs H Q E h=>?_) λA' outer s H vs Q E L h=>?_;obtain⟨G,p,r,dx,d,l1,Y,rfl,_⟩:=h;rfl;obtain⟨G,p,r,dx,d,l1,Y,rfl,hG,o,Z⟩:=h;have O:=oY (outer:=outer) (H:=H) (E:=E) (bs:=[]) B TB (fns:=[]) (λj n F e=>by cases e) hs (L.mono (oe k));refine gzq λRz ez=>?_;obtain⟨C,z,y,J⟩:=O.cx.vis self 0 h0;obtain⟨i,b2,T,N⟩:=O.cx.vis other 1 h1;obtain⟨d1,d2,d3,U⟩:=O.cx.gl hd;obtain⟨t,M,al,v⟩:=O.cx.gl hl;obtain⟨r1,r2,r3,_⟩:=O.cx.gt _ _ hms;have I:=O.nm h1;obtain⟨X,r,l,u,W,m2,m3,m4⟩:=MK;subst ez;rw[hb];refine AD (p0:=p1) r3 ⟨X,r,l,u,m2,m3,L.mono (Nat.succ_le_succ W),m4⟩ (bO C z y J) (λ_=>bO C z y J) (λ_=>bO i b2 T N) O.cx.nd i I.2.1 I.2.2 (O.cx.gk _ hR) r2 d1 U t v ha hbb hc (p:=p) ?_ ?_ hG o Z;unfold L2.start;rfl;have x:=(ay.mp i).1;unfold L2.start;simp only[bo,aq,fu,bq,ki];exact bg x (by show(aC (defScope st)).length<=_;lia)
end
noncomputable def AE(j A i:Nat):FS:=λρ=>match ρ[i]? with
 |some (.rk C r)=>if C=A then .nx (ρ.set j (.rk A r))else .rt .bad
 |_=>.rt .bad
structure TwOk(X:Cx)(ad:Ad)(A:Addr)(m:Str):Prop where
 no:m≠"held"/\m≠"done"/\m≠"undone"
 ok: ∃f k fd ps,Meth X.K A m f/\FnOk X.prog X.w X.K X.mg X.base (CXe X.prog X.w) k f fd ps (Me X.K ad A)/\Room k X.A/\dO X.K fd ps []
section
variable{ad:Ad}{i:Nat}
def Hf(RC:RkC X.K A)(T:TwOk X ad A m)(hN:X.N[i]? =pi x)(hv:Vis X.env.scope x)(hd:(x==("__debug__":Str))=qe)(hcd:(x==("__classdict__":Str))=qe)(hln:(ap.endLine==cp.line)=qc):
  PE X (.Call (.Attribute (.Name x np) m ap) [] [] cp) λσ H Q=>∃p,σ[i]? =pi (pi (.ref p))/\Me X.K ad A [.ref p] H Q λ_ _ _=>False:=by
 intro q s σ H Q I h;refine gzq λRz ez=>?_;obtain⟨p,t,l⟩:=h;obtain⟨f,k,O,Y,g,F,C,w⟩:=T.ok;have b:=l;obtain⟨G,L,r,Z,d,S,M,e,hG,o,_⟩:=b;subst ez;cases e;refine fy (L2.thn (bO hN hv hd hcd q s σ H (λv j=>v= .ref p/\j=H) I ⟨.ref p,t,rfl,rfl⟩) λu U a=>?_) (gK rfl rfl hln);obtain⟨v,j,c,B,n,y⟩:=a;subst n;subst y;cases (show u=pf p from B);refine fG c o.ins RC.cl g (rQ T.no) ?_;exact gw (first:=[.ref p]) c.kIn g.kp (oK (vs:=[V.ref p]) F C w c (.cons rfl .nil) l λe J E=>by obtain⟨_,_,_,_,_,_,_,_,_,_,_,_,_,_,z⟩:=E;exact z.elim)
def Hg(O:StOk X ad C)(RC:RkC X.K A)(T:TwOk X ad A m)(hi:loc C x=pi i)(hj:loc C y=pi j)(hln:(ap.endLine==cp.line)=qc):
  MS X ad Z (.Assign [.Name y yp] (.Call (.Attribute (.Name x np) m ap) [] [] cp) pos) (AE j A i):=by
 obtain⟨J,v,t,u⟩:=O.cx.vis x i hi;have f:=O.nm hj;refine PS.imp (j8 O.cx.nd f.1 f.2.1 (Hf RC T J v t u hln) rfl f.2.2) ?_;rintro h U H ⟨b,G,g,E,S,Q,c⟩;unfold AE at c;cases e:(g[i]? :L7 Slot)with
 |none=>rw[e]at c;exact c.elim
 |some sl=>
  rw[e]at c;cases sl with
  |rk C r=>
   by_cases n:C=A;subst n;have a:OKo X ad b (if C=C then .nx (g.set j (.rk C r))else .rt .bad) h E:=c;rw[if_pos rfl]at a;refine gzq λRz ez=>?_;obtain⟨p,w,d,q,z,q1,o⟩:=S.sl.rk e;subst ez;refine⟨p,q1,G,p,r,w,d,q,z,rfl,S.st.gh,o,λY B W N s I M l L=>?_⟩;exact a _ G I (S.setR l L M (S.st.gh.trans l));have a:OKo X ad b (if C=A then .nx (g.set j (.rk A r))else .rt .bad) h E:=c;rw[if_neg n]at a;exact a.elim
  |_=>exact c.elim
end
noncomputable def ovr(S:L1 Addr)(F H:Hp):Hp:=λb=>if b∈S then F b else H b
def eC{F H}(h:b∈S):ovr S F H b=F b:=if_pos h
def a9{F H}(h:b∉S):ovr S F H b=H b:=if_neg h
noncomputable def fzF(rc:Addr->Obj):Hp:=λb=>pi (.frz (rc b) (.own 0))
def noF:Hp:=λ_=>qb
section
variable{X:Cx}{cc:cf}{σ:St}{H F U:Hp}{s:Shared}{S:L1 Addr}{ad:Ad}{A:Nat}{G:Hp}{p dx d l1 l2:Addr}{r:Rk}{rc:Addr->Obj}
def _root_.L2.Inv.swap(I:Inv X cc σ H s)(hn: ∀b∈S,H b≠qb)(h0: ∀b∈S,X.H₀ b=qb)(ok:HOk X.prog X.w (ovr S F H) s.heap):Inv X cc σ (ovr S F H) s:=by
 have no: ∀{b:Addr},H b=qb->ovr S F H b=qb:=λ{b} e=>by rw[a9 λz=>hn b z e];exact e
 have d: ∀{b:Addr} {u:HO},X.H₀ b=pi u->b∉S:=λ{b u} e z=>by rw[h0 b z]at e;cases e
 exact⟨I.ok,I.os,I.bare,⟨I.base.keep,I.base.slot,λb o e n f=>no (I.base.free b o e n f),I.base.there,λb h e=>by rw[a9 (d e)];exact I.base.tups b h e,λb o u e=>by rw[a9 (d e)];exact I.base.frzs b o u e,λb i e=>by rw[a9 (d e)];exact I.base.tbls b i e⟩,
  I.loc,I.cell,no I.free,λx c e=>no (I.freeC x c e),λq g=>let ⟨a,b,c⟩:=I.pin q g;⟨a,no b,c⟩,ok,I.len⟩
noncomputable def gC(p dx d l1 l2:Addr):L1 Addr:=[p,dx,d,l1,l2]
def jU(h:a∈gC p dx d l1 l2):a=p\/a=dx\/a=d\/a=l1\/a=l2:=by simpa[gC]using h
def IO(P:Program)(w:World)(S:L1 Addr)(U:Hp)(rc:Addr->Obj):Prop:=(∀b,U b≠qb->b∈S)/\∀h:Heap,(∀b∈S,h.get? b=pi (rc b))->HOk P w U h
def KO(I:Inv X cc σ H s)(hR:RackIn X.K ad A G H p r dx d l1 l2)(h0: ∀b∈gC p dx d l1 l2,X.H₀ b=qb):
  ∃rc,Inv X cc σ (ovr (gC p dx d l1 l2) (fzF rc) H) s/\IO X.prog X.w (gC p dx d l1 l2) (ovr (gC p dx d l1 l2) H noF) rc:=by
 obtain⟨ab,l,A2⟩:=hR.held;obtain⟨v1,n,B2⟩:=hR.done;obtain⟨v2,j,C2⟩:=hR.undone;obtain⟨i1,S,i3,J,mA,⟨od,es,U,i5,M⟩,i7⟩:=I.hok p _ hR.ins;obtain⟨y,L⟩:=I.hok dx _ hR.own;obtain⟨Q,k2,O,W,kb,v,t,B,k6⟩:=I.hok d _ l;obtain⟨T,g,Z,m2,E⟩:=I.hok l1 _ n;obtain⟨q1,i,n2,N,C⟩:=I.hok l2 _ j;let rc:Addr->Obj:=λb=>(s.heap.get? b).getD y;have f: ∀b∈gC p dx d l1 l2,s.heap.get? b=pi (rc b):=λb a=>by
  show s.heap.get? b=pi ((s.heap.get? b).getD y);rcases jU a with rfl|rfl|rfl|rfl|rfl;rw[J];rfl;rw[L];rfl;rw[B];rfl;rw[E];rfl;rw[C];rfl
 have m: ∀{b:Addr},(b=p\/b=dx\/b=d\/b=l1\/b=l2)->b∈gC p dx d l1 l2:=λ{b} h=>by simpa[gC]using h
 have own: ∀{c b:Addr},c∈gC p dx d l1 l2->H c=pi (.own b)->b∈gC p dx d l1 l2:=λ{c b} hc e=>by
  rcases jU hc with rfl|rfl|rfl|rfl|rfl;rw[hR.ins]at e;cases e;rw[hR.own]at e;cases e;exact m (.inl rfl);rw[l]at e;cases e;rw[n]at e;cases e;rw[j]at e;cases e
 have tup: ∀{c:Addr} {x:L1 V},H c=pi (.tup x)->c∉gC p dx d l1 l2:=λ{c x} e hc=>by
  rcases jU hc with rfl|rfl|rfl|rfl|rfl;rw[hR.ins]at e;cases e;rw[hR.own]at e;cases e;rw[l]at e;cases e;rw[n]at e;cases e;rw[j]at e;cases e
 have Y: ∀b∈gC p dx d l1 l2,H b≠qb:=λb a e=>by
  rcases jU a with rfl|rfl|rfl|rfl|rfl;rw[hR.ins]at e;cases e;rw[hR.own]at e;cases e;rw[l]at e;cases e;rw[n]at e;cases e;rw[j]at e;cases e
 refine⟨rc,I.swap Y h0 λb u e=>?_,λb a=>?_,λh hh b u e=>?_⟩;by_cases a:b∈gC p dx d l1 l2;rw[eC a]at e;cases e;exact⟨f b a,_,f b a⟩;rw[a9 a]at e;exact(I.hok b u e).stay (λ_ _ _ q=>q) (λc q=>by rw[a9 λz=>a (own z q)];exact q) λc x q=>by rw[a9 (tup q)];exact q
 by_cases z:b∈gC p dx d l1 l2;exact z;rw[a9 z]at a;exact absurd rfl a;by_cases a:b∈gC p dx d l1 l2;have k: ∀{c:Addr} {o:Obj},c∈gC p dx d l1 l2->s.heap.get? c=pi o->h.get? c=pi o:=λ{c o} hc e=>by rw[hh c hc, <-f c hc];exact e
 rw[eC a]at e;rcases jU a with rfl|rfl|rfl|rfl|rfl;rw[hR.ins]at e;cases e;exact⟨by rw[eC (m (.inr (.inl rfl)))];exact i1,S,i3,k a J,mA,⟨od,es,U,k (m (.inr (.inl rfl))) i5,M⟩,i7⟩;rw[hR.own]at e;cases e;exact⟨y,k a L⟩;rw[l]at e;cases e;exact⟨Q,k2,O,W,kb,v,t,k a B,k6⟩;rw[n]at e;cases e;exact⟨T,g,Z,m2,k a E⟩;rw[j]at e;cases e;exact⟨q1,i,n2,N,k a C⟩;rw[a9 a]at e;cases e
def Hh(I:Inv X cc σ H s)(hF: ∀b∈S,H b=fzF rc b)(kp:IO X.prog X.w S U rc)(h0: ∀b∈S,X.H₀ b=qb):Inv X cc σ (ovr S U H) s:=by
 refine I.swap (λb a e=>by rw[hF b a]at e;cases e) h0 λb u e=>?_;by_cases a:b∈S;rw[eC a]at e;exact(kp.2 s.heap (λc d=>(I.hok c _ (hF c d)).1) b u e).stay (λ_ _ _ q=>q) (λc q=>by rw[eC (kp.1 c (by rw[q];exact λz=>nomatch z))];exact q) λc f q=>by rw[eC (kp.1 c (by rw[q];exact λz=>nomatch z))];exact q
 rw[a9 a]at e;exact(I.hok b u e).stay (λ_ _ _ q=>q) (λc q=>by rw[a9 λz=>by rw[hF c z]at q;cases q];exact q) λc f q=>by rw[a9 λz=>by rw[hF c z]at q;cases q];exact q
end
def v7(G G':Hp):Prop:= ∀b u,G b=pi u->(∃o,u= .frz o (.own 0))\/G' b=pi u
section
variable{K:mj}{ad:Ad}{G G':Hp}
def v7.rd(e:v7 G G')(h:Rd G a u)(n1: ∀o x,u≠ .frz o x)(n2: ∀x,u≠ .own x):Rd G' a u:=by rcases h with h|⟨o,h⟩;rcases e _ _ h with ⟨o,z⟩|z;exact absurd z (n1 _ _);exact .inl z;rcases e _ _ h with ⟨o,z⟩|z;cases z;exact absurd rfl (n2 0);exact .inr ⟨o,z⟩
mutual
theorem Rep.less(e:v7 G G'): ∀{d:D} {v:V},Rep K ad G d v->Rep K ad G' d v
 |.non,_,h=>h
 |.bl _,_,h=>h
 |.int _,_,h=>h
 |.str _,_,h=>h
 |.tup ds,v,h=>by
  unfold Rep at h ⊢;obtain⟨a,g,c,b,f⟩:=h;exact⟨a,g,c,b.elim (λz=>.inl (e.rd z (λ_ _ z=>nomatch z) λ_ z=>nomatch z)) .inr,aK.less e f⟩
 |.lst ds,v,h=>by
  unfold Rep at h ⊢;obtain⟨a,g,c,b,f⟩:=h;exact⟨a,g,c,b.elim (λz=>.inl (e.rd z (λ_ _ z=>nomatch z) λ_ z=>nomatch z)) .inr,aK.less e f⟩
 |.exc _,_,h=>by
  unfold Rep at h ⊢;obtain⟨a,c,b⟩:=h;rcases e _ _ b with ⟨o,z⟩|z;cases z;exact⟨a,c,z⟩
 |.fn _,_,h=>h
 |.dct ks ds,v,h=>by
  unfold Rep at h ⊢;refine gzq λRz ez=>?_;obtain⟨a,o,i,c,b,f,j⟩:=h;subst ez;rcases e _ _ b with ⟨l,z⟩|z;cases z;exact⟨a,o,i,c,z,f,aK.less e j⟩
theorem aK.less(e:v7 G G'): ∀{ds:L1 D} {vs:L1 V},aK K ad G ds vs->aK K ad G' ds vs
 |[],_,h=>h
 |d::ds,vs,h=>by
  unfold aK at h ⊢;obtain⟨v,r,b,c,a⟩:=h;exact⟨v,r,b,Rep.less e c,aK.less e a⟩
end
theorem HR.less(h:HR K ad G ps qs)(e:v7 G G'):HR K ad G' ps qs:=Paired.mapP h λ_ _ z=>⟨z.1,z.2.less e⟩
end
structure Apart(H:Hp)(ρ:Rho)(σ:St)(S:List Addr):Prop where
 ow: ∀a∈S, ∀(k:Nat) (sl:Slot),ρ[k]? =pi sl->sl.owns=qc->σ[k]? ≠pi (pi (.ref a))
 rk: ∀k as,fF H ρ σ k as->∀a∈as,a∉S
section
variable{X:Cx}{ad:Ad}{K:mj}{G H G₀:Hp}{ρ:Rho}{σ:St}{A i:Nat}{r:Rk}{p dx d l1 l2:Addr}
def SL.sw(h:SL K ad G H ρ σ)(rp:v7 G G')(out: ∀b,b∉S->H' b=H b/\(G b=qb->G' b=qb))(ap:Apart H ρ σ S):SL K ad G' H' ρ σ:=by
 refine⟨h.len,λi s e=>?_⟩;obtain⟨N,m,j⟩:=h.at_ i s e;refine⟨N,m,?_⟩;cases s with
 |no=>exact trivial
 |sh d=>obtain⟨v,q1,c⟩:=j;exact⟨v,q1,c.less rp⟩
 |ow y=>
  obtain⟨a,o,rfl,c,g,f⟩:=j;have n:a∉S:=λz=>ap.ow a z i _ e rfl m;exact⟨a,o,rfl,(out a n).2 c,by rw[(out a n).1];exact g,f.less rp⟩
 |dc y=>
  obtain⟨a,o,rfl,c,g,f⟩:=j;have n:a∉S:=λz=>ap.ow a z i _ e rfl m;exact⟨a,o,rfl,(out a n).2 c,by rw[(out a n).1];exact g,HR.less f.1 rp,f.2⟩
 |sd y=>
  obtain⟨a,o,rfl,c,g,f⟩:=j;have n:a∉S:=λz=>ap.ow a z i _ e rfl m;exact⟨a,o,rfl,(out a n).2 c,by rw[(out a n).1];exact g,HR.less f.1 rp,f.2⟩
 |rk C r=>
  obtain⟨p,u,d,t,l,rfl,q⟩:=j;have n: ∀a,a∈[p,u,d,t,l]->a∉S:=ap.rk i _ ⟨C,r,p,u,d,t,l,e,m,q.ins,rfl⟩;have x:=out p (n p (by simp));have nx:=out u (n u (by simp));have B:=out d (n d (by simp));have A:=out t (n t (by simp));have E:=out l (n l (by simp));refine gzq λRz ez=>?_;obtain⟨w,T,Q⟩:=q.held;obtain⟨J,I,U⟩:=q.done;obtain⟨O,L,M⟩:=q.undone;subst ez;exact⟨p,u,d,t,l,rfl,x.1.trans q.ins,nx.1.trans q.own,⟨w,B.1.trans T,HR.less Q rp⟩,⟨J,A.1.trans I,U.less rp⟩,⟨O,E.1.trans L,M.less rp⟩,q.ne,x.2 q.gp,nx.2 q.gx,B.2 q.gd,A.2 q.g1,E.2 q.g2⟩
def RS.sw(R:RS H₀ H ρ σ)(h:SL K ad G H ρ σ)(out: ∀b,b∉S->H' b=H b)(ap:Apart H ρ σ S):RS H₀ H' ρ σ:=by
 have bk: ∀k c,fF H' ρ σ k c->fF H ρ σ k c:=λk c f=>by
  refine gzq λRz ez=>?_;obtain⟨C,r,p,z,d,v,u,l,o,s,x⟩:=f;obtain⟨A,m,w,q,g,q1,t⟩:=h.rk l;subst ez;rw[o]at q1;cases q1;have n:p∉S:=ap.rk k _ ⟨C,r,p,m,w,q,g,l,o,t.ins,rfl⟩ p (by simp);rw[out p n]at s;exact⟨C,r,p,z,d,v,u,l,o,s,x⟩
 exact⟨λi c f=>R.h0 i c (bk i c f),λi c f=>R.ow i c (bk i c f),λi j c e a f y=>R.rr i j c e a (bk i c f) (bk j e y)⟩
theorem SS.no(T:SS X ad G₀ G H ρ σ):SS X ad G₀ G H (ρ.set i .no) σ/\(∀{k:Nat} {sl},(ρ.set i .no)[k]? =pi sl->sl.owns=qc->ρ[k]? =pi sl)/\∀{k} {as},fF H (ρ.set i .no) σ k as->k≠i/\fF H ρ σ k as:=by
 have b: ∀{k:Nat} {sl:Slot},(ρ.set i .no)[k]? =pi sl->(k=i/\sl= .no/\i<ρ.length)\/(k≠i/\ρ[k]? =pi sl):=λ{k sl} q=>by
  by_cases z:k=i;subst z;have g:k<ρ.length:=by have:=(ay.mp q).1;rwa [ke]at this
  rw[bj g]at q;cases q;exact .inl ⟨rfl,rfl,g⟩;rw[bc (qa z)]at q;exact .inr ⟨z,q⟩
 have own: ∀{k:Nat} {sl:Slot},(ρ.set i .no)[k]? =pi sl->sl.owns=qc->ρ[k]? =pi sl:=λ{k sl} q w=>(b q).elim (λz=>by rw[z.2.1]at w;cases w) And.right;have e: ∀{k:Nat} {as:L1 Addr},fF H (ρ.set i .no) σ k as->k≠i/\fF H ρ σ k as:=λ{k as} ⟨C,r,p,dx,d,l1,l2,f1,f⟩=>(b f1).elim (λz=>nomatch z.2.1) λz=>⟨z.1,C,r,p,dx,d,l1,l2,z.2,f⟩;refine⟨⟨T.st,⟨by rw[ke];exact T.sl.len,λk sl q=>?_⟩,λk sl a q w h=>T.ow k sl a (own q w) w h,λk c sl l a q s w m h o=>T.dj k c sl l a (own q w) (own s m) w m h o,⟨λk as f=>T.rs.h0 k as (e f).2,λk as f a t c sl q w=>T.rs.ow k as (e f).2 a t c sl (own q w) w,λk c as j a f n=>T.rs.rr k c as j a (e f).2 (e n).2⟩⟩,own,e⟩;rcases b q with ⟨rfl,rfl,g⟩|⟨_,q⟩;exact⟨σ[k]'(by rw[<-T.sl.len];exact g),bd _,trivial⟩;exact T.sl.at_ k sl q
def SS.take(T:SS X ad G₀ G H ρ σ)(e:ρ[i]? =pi (.rk A r)): ∃p dx d l1 l2,σ[i]? =pi (pi (.ref p))/\RackIn X.K ad A G H p r dx d l1 l2/\(∀b∈gC p dx d l1 l2,X.H₀ b=qb)/\Apart H (ρ.set i .no) σ (gC p dx d l1 l2)/\SS X ad G₀ G H (ρ.set i .no) σ:=by obtain⟨p,dx,d,l1,l2,q1,h⟩:=T.sl.rk e;have c:fF H ρ σ i (gC p dx d l1 l2):=⟨A,r,p,dx,d,l1,l2,e,q1,h.ins,rfl⟩;obtain⟨m,own,j⟩:=T.no (i:=i);exact⟨p,dx,d,l1,l2,q1,h,λb l=>T.rs.h0 i _ c b l,⟨λa g k sl q w=>T.rs.ow i _ c a g k sl (own q w) w,λk n f a g o=>(j f).1 (T.rs.rr k i n _ a (j f).2 c g o)⟩,m⟩
theorem SS.sw(T:SS X ad G₀ G H ρ σ)(rp:v7 G G')(out: ∀b,b∉S->H' b=H b/\(G b=qb->G' b=qb))(ap:Apart H ρ σ S)(st:Step G₀ X.H₀ G' H'):SS X ad G₀ G' H' ρ σ:=⟨st,T.sl.sw rp out ap,T.ow,T.dj,T.rs.sw T.sl (λb a=>(out b a).1) ap⟩
def RackIn.gn(q:RackIn K ad A G H p r dx d l1 l2): ∀b∈gC p dx d l1 l2,G b=qb:=λb a=>by
 rcases jU a with rfl|rfl|rfl|rfl|rfl;exact q.gp;exact q.gx;exact q.gd;exact q.g1;exact q.g2
def RackIn.re(q:RackIn K ad A G H p r dx d l1 l2)(hH: ∀b∈gC p dx d l1 l2,H' b=H b/\G' b=qb)(le:v7 G G'):RackIn K ad A G' H' p r dx d l1 l2:=by simp only[gC,av,jq,or_false,forall_eq_or_imp,forall_eq]at hH;obtain⟨c,nx,f,e,g⟩:=hH;obtain⟨a,o,m⟩:=q.held;obtain⟨i,h,s⟩:=q.done;obtain⟨l,j,n⟩:=q.undone;exact⟨c.1.trans q.ins,nx.1.trans q.own,⟨a,f.1.trans o,m.less le⟩,⟨i,e.1.trans h,s.less le⟩,⟨l,g.1.trans j,n.less le⟩,q.ne,c.2,nx.2,f.2,e.2,g.2⟩
def SS.putBy(T:SS X ad G₀ G H ρ σ)(ap:Apart H ρ σ S)(h0: ∀b∈S,X.H₀ b=qb)(gs: ∀b∈S,G b=qb):SS X ad G₀ (ovr S (fzF rc) G) (ovr S (fzF rc) H) ρ σ/\Same G (ovr S (fzF rc) G):=by
 have c:Same G (ovr S (fzF rc) G):=λb u e=>by rw[a9 λz=>by rw[gs b z]at e;cases e];exact e
 refine⟨T.sw (λb u e=>.inr (c b u e)) (λb a=>⟨a9 a,λz=>by rw[a9 a];exact z⟩) ap ⟨T.st.sg.trans c,λb u e=>?_,λb u e=>?_,λb f d=>?_⟩,c⟩;by_cases a:b∈S;rw[eC a]at e ⊢;exact e;rw[a9 a]at e ⊢;exact T.st.gh b u e;rw[a9 λz=>by rw[h0 b z]at e;cases e];exact T.st.sh b u e;by_cases a:b∈S;exact h0 b a;rw[a9 a]at d;exact T.st.nw b f d
def v7.drop(le:v7 G₁ G)(gs: ∀b∈S,G b=fzF rc b):v7 G₁ (ovr S noF G):=λb u e=>(le b u e).elim .inl λz=>by
 by_cases a:b∈S;rw[gs b a]at z;cases z;exact .inl ⟨_,rfl⟩;exact .inr (by rw[a9 a];exact z)
def SS.thaw(T:SS X ad G₀ G H ρ σ)(gs: ∀b∈S,G b=fzF rc b)(h0: ∀b∈S,X.H₀ b=qb/\G₀ b=qb):SS X ad G₀ (ovr S noF G) (ovr S noF H) ρ σ:=by
 have gn: ∀b∈S,G b≠qb:=λb c e=>by rw[gs b c]at e;cases e
 refine T.sw (v7.drop (λ_ _ e=>.inr e) gs) (λb c=>⟨a9 c,λz=>by rw[a9 c];exact z⟩) ⟨λa d k sl q w z=>gn a d (T.sl.own_at q w z).1,λk j f a d h=>gn a h (f.at T.sl a d).1⟩ ⟨λb u e=>?_,λb u e=>?_,λb u e=>?_,λb i g=>?_⟩;rw[a9 λz=>by rw[(h0 b z).2]at e;cases e];exact T.st.sg b u e;by_cases c:b∈S;rw[eC c]at e;cases e;rw[a9 c]at e ⊢;exact T.st.gh b u e;rw[a9 λz=>by rw[(h0 b z).1]at e;cases e];exact T.st.sh b u e;by_cases c:b∈S;exact(h0 b c).1;rw[a9 c]at g;exact T.st.nw b i g
end
def Nu(o:Obj)(q:Str):Prop:= ∃vs t,o.data= .fields vs/\vs[1]? =pi (.str q t)
structure Tb(P:Addr)(q:Str)(ps:Array Value)(cs:cf):Prop where
 ok:TriplesOk ps.toList
 cod: ∀pos cv,codeAmong pos ps.toList=pi cv->∃c o,cv= .ref c/\(c,o)∈cs/\Nu o q
 ne: ∀p∈cs,p.1≠P
def kG{l}{i j}{a b:Nat}{c}(h:TriplesOk l):TriplesOk (l++[.int i a,.int j b,c]):=by
 fun_induction TriplesOk l with
 |case1=>trivial
 |case2 _ _ _ _ _ _ y=>exact y h
 |case3=>exact h.elim
def nO{pos pos':Pos}{c cv}{l}(t:TriplesOk l)(h:codeAmong pos' (l++[rawInt pos.line,rawInt pos.col,c])=pi cv):codeAmong pos' l=pi cv\/cv=c:=by
 fun_induction TriplesOk l with
 |case1=>simp only[kg,codeAmong,rawInt]at h;split at h;exact .inr (jw h).symm;cases h
 |case2 _ _ _ _ _ _ y=>simp only[List.cons_append,codeAmong]at h ⊢;split at h;rename_i e;rw[if_pos e];exact .inl h;rename_i e;rw[if_neg e];exact y t h
 |case3=>exact t.elim
section
variable{cs cc:cf}{σ:St}{R':ce}
def AF(I:Inv X ((P,k8 ps)::(cs++cc)) σ H s)(T:Tb P q ps cs)(hx:P∈X.ex)(hpn: ∀p∈X.pn++cc,p.1≠P)(hpar:defaultsOf params X.env=([],[]))(hq:X.env.qual++"<lambda>"=q)(hfree: ∀x,(x,l0)∈sc.names->X.env.kindOf x=pi .cell\/X.env.kindOf x=pi .free)(hcode:X.env.code= .ref c)(hC:lf s.heap c P)(hB:s.heap.BuiltinsAt X.mg P)(k: ∀(a:Addr) ps' (cs':cf) cv ctv s',Inv X ((P,k8 ps')::(cs'++cc)) σ H s'->Tb P q ps' cs'->(∃more,ps'=ps++more)->(∀p∈cs',p∈cs\/s.z<=p.1)->s.z<=a->
   s'.heap.get? a=pi {cls:=.type "function",data:=.func (lg "<lambda>" q params body sc (lQ X.env.cells sc.names []) ((X.mg "__name__").getD .none) cv ctv)}->s'.heap.CodeRec cv q->(∃c',cv= .ref c'/\H c'=qb/\c'≠X.env.locals/\c'∉X.fs)->
   (∀b o,b≠P->s.heap.get? b=pi o->s'.heap.get? b=pi o)->R' (.ref a) s'):
  X.wp (eval (.Lambda params body sc pos) X.env) R' X.xe s:=by
 have O:closureFor sc X.env=pure (lQ X.env.cells sc.names []):=jN λx hx=>by
  obtain⟨c,h⟩:=I.ok.has x (hfree x hx);rw[h];rfl
 have l:=I.pin (P,k8 ps) (bt _ (.head _));have hg:s.heap.Ns mainGlobals X.mg:=I.mod.glob.keeps I.bk
 have ak:mainGlobals≠P:=λz=>by
  obtain⟨o,es,ep,e,J,_⟩:=hg;have Y:=l.1;rw[z]at e;rw[e]at Y;cases Y;cases J
 have I0:Inv X (cs++cc) σ H s:=I.pins_of λp g=>I.pin p (bt _ (.tail _ g))
 have N: ∀p∈X.pn++(cs++cc),p.1≠P:=λp g=>by
  rcases jz.mp g with h|h
  .exact hpn p (gc _ h)
  .rcases jz.mp h with h|h
   .exact T.ne p h
   .exact hpn p (bt _ h)
 have ad: ∀b∈[P],(b∈X.ex\/X.s₀.z<=b)/\b≠X.env.locals/\(∀x c,X.env.cells.lookup x=pi c->c≠b)/\∀p∈X.pn++(cs++cc),p.1≠b:=λb j=>by
  rw[ip.mp j];exact⟨.inl hx,(I.ok.exf P hx).1,(I.ok.exf P hx).2,N⟩
 have after: ∀(B:Heap) (E:Nat),(∀b o,b≠P->s.heap.get? b=pi o->B.get? b=pi o)->Inv X (cs++cc) σ H {s with heap:=B,toks:=E}:=λB E f=>by
  have y: ∀b,b∉[P]->b≠P:=λb j z=>j (by rw[z];exact .head _)
  refine I0.step (ch:=[P]) (g':=s.gens) (d':=s.drawn) ad (λb o _ _ j e _=>f b o (y b j) e) (λb o _ _ j e _=>⟨o.slots,f b o (y b j) e⟩) (λb o _ _ n=>n) (λb o j e=>⟨o,f b o (y b j) e⟩) (λ_ _ e=>e) (λ_ _ _ e=>e) (λb ps e=>⟨#[],by rw[e];simp⟩) (λm hn=>?_) (λa o e=>?_) I.bare
  .obtain⟨o,es,ep,e,r⟩:=hn;exact⟨o,es,ep,f _ o (I.ok.exf P hx).1.symm e,r⟩
  .have nP: ∀b,H b≠qb->b≠P:=λb j z=>j (by rw[z];exact l.2.1)
   refine(I.hok a o e).stay (λb u j q=>f b u ?_ q) (λ_ q=>q) λ_ _ q=>q
   rcases j with rfl|j
   .exact nP _ (by rw[e];exact λz=>nomatch z)
   .exact nP _ (by rw[j];exact λz=>nomatch z)
 refine PySem.W.kla_eval hpar ?_;rw[hq]
 cases hf:codeAmong pos ps.toList with
 |some cv=>
  refine PySem.W.kla_makeFunctionHit (mg:=X.mg) O I.ok.glob hg hcode hC l.1 T.ok hf hB λctv B E hk ab=>?_
  obtain⟨G,o1,U,m1,r1⟩:=T.cod pos cv hf;have Z:=I.pin (G,o1) (bt _ (.tail _ (gc _ m1)))
  have f: ∀b o,s.heap.get? b=pi o->(B.push {cls:=.type "function",data:=.func (lg "<lambda>" q params body sc (lQ X.env.cells sc.names []) ((X.mg "__name__").getD .none) cv ctv)}).get? b=pi o:=λb o e=>ae _ (hk b o e)
  refine k _ ps cs cv ctv _ ((after _ E λb o _ e=>f b o e).pins_of λp g=>?_) T ⟨#[],by simp⟩ (λp g=>.inl g) ab (af _ rfl) ?_ ⟨G,U,Z.2.1,Z.2.2.1,Z.2.2.2.1⟩ λb o _ e=>f b o e
  .have:=I.pin p (bt _ g)
   exact⟨f _ _ this.1,this.2⟩
  .obtain⟨vs,t,d,v⟩:=r1;exact⟨G,o1,vs,t,U,f _ _ Z.1,d,v⟩
 |none=>
  refine PySem.W.kla_makeFunction (mg:=X.mg) O I.ok.glob hg hcode hC l.1 T.ok hf ak hB λc' ctv B E al i am S ag=>?_
  refine gzq λRz ez=>?_;obtain⟨c2,oc,vs,t,Y,K,J,hv⟩:=S;subst ez;cases Y
  have f: ∀b o,b≠P->s.heap.get? b=pi o->(B.push (PySem.W.kla_obj "<lambda>" q params body sc (lQ X.env.cells sc.names []) ((X.mg "__name__").getD .none) c' ctv)).get? b=pi o:=λb o ne e=>ae _ (al b o ne e)
  have M:P<s.z:=ah l.1;have C: ∀v,oc.data≠ .cell v:=λv z=>by rw[J]at z;cases z
  have Q:H c'=qb:=I.hok.fresh i
  refine k _ (ps++ #[rawInt pos.line,rawInt pos.col,.ref c']) ((c',oc)::cs) (.ref c') ctv _ ((after _ E f).pins_of λp g=>?_) ⟨?_,?_,?_⟩ ⟨_,rfl⟩ (λp g=>(av.mp g).elim (λz=>.inr (by rw[z];exact i)) .inl) (mq i (mr am)) (af _ rfl) ?_ ⟨c',rfl,Q,ng (bg I.lt i),I.nofs i⟩ f
  .rcases av.mp g with rfl|g
   .exact⟨ae _ ag,l.2.1,l.2.2.1,l.2.2.2.1,λv z=>nomatch z⟩
   .rcases av.mp g with rfl|g
    .refine⟨ae _ K,Q,?_,I.nofs i,C⟩;exact ng (bg I.lt i)
    .have:=I.pin p (bt _ (.tail _ g))
     exact⟨f _ _ (N p (bt _ g)) this.1,this.2⟩
  .rw[Array.toList_append];exact kG T.ok
  .intro L cv h;rw[Array.toList_append]at h;rcases nO T.ok h with h|rfl
   .obtain⟨G,o1,U,m1,r1⟩:=T.cod L cv h;exact⟨G,o1,U,.tail _ m1,r1⟩
   .exact⟨c',oc,rfl,.head _,vs,t,J,hv⟩
  .intro p g;rcases av.mp g with rfl|g
   .exact ng (bg M i)
   .exact T.ne p g
  .exact⟨c',oc,vs,t,rfl,ae _ K,J,hv⟩
end
noncomputable abbrev EL(qual:Str)(sc:Scope)(L f:Addr)(cd:Value)(cl:L1 (Str×Addr)):ph:=PySem.W.envX qual sc L f cd cl
def cxL(CX:CXT)(P:Program)(w:World)(K:mj)(mg:Str->L7 Value)(base:Heap)(N:L1 Str)(qual:Str)(sc:Scope)(f:Addr)(cd:Value)(cl:L1 (Str×Addr))(A:Around)(outer:L1 ph)(s:Shared)(H:Hp)(E:XK):Cx where
 prog:=P;w:=w;K:=K;mg:=mg;base:=base;A:=A.deeper (EL qual sc s.z f cd cl);N:=N;s₀:=s;H₀:=H;env:=EL qual sc s.z f cd cl;outer:=outer;stack:=EL qual sc s.z f cd cl::outer;ex:=[];calm:=qc;fn:=λ_=>qe;pn:=[];xe:=λe s'=>wpAny (model P w) (A.deeper (EL qual sc s.z f cd cl)) (leaving (EL qual sc s.z f cd cl) e) (λ_ s''=>CX outer H s E e s'') (λe' s''=>CX outer H s E e' s'') s'
structure LamSc(N:List Str)(sc:Scope):Prop where
 kind:sc.kind= .function
 co:sc.isCoroutine=qe
 gen:sc.isGenerator=qe
 nocell: ∀x∈sc.names,x.2≠ .cell
 noloc: ∀x,sc.names.lookup x≠pi .local
section
variable{K:mj}{vs:L1 V}
def AG(S:LamSc N sc)(hd:A.handled=qb)(e0:Env0 P w K mg base A outer s H)(hns:h'.Ns s.z m)(hk: ∀b o,s.heap.get? b=pi o->h'.get? b=pi o)(inj: ∀x y c,cl.lookup x=pi c->cl.lookup y=pi c->x=y)(has: ∀x,sc.names.lookup x=pi .free->∃c,cl.lookup x=pi c)(cel: ∀x c,cl.lookup x=pi c->(∃v,s.heap.IsCell c v)/\H c=qb)(hl:vs.length=N.length)(hv: ∀(i:Nat) x v,N[i]? =pi x->vs[i]? =pi v->sc.names.lookup x=pi .free->∃u c,bJ v u/\cl.lookup x=pi c/\s.heap.IsCell c (pi u)):
  Inv (cxL CX P w K mg base N qual sc f cd cl A outer s H E) [] (vs.map pi) H {s with heap:=h',toks:=t'}:=by
 have e: ∀b:Addr,b∉(cxL CX P w K mg base N qual sc f cd cl A outer s H E).ex:=λb z=>absurd (show b∈([]:L1 Addr) from z) (by simp);have g: ∀x,sc.names.lookup x≠pi .cell:=λx z=>S.nocell _ (gy z) rfl;refine⟨⟨e0.mod,S.kind,rfl,rfl,aj _,inj,λy d=>?_,λy c d _=>(bf d).elim,λ_=>hd,Around.frames_deeper e0.frames,.inr ⟨rfl,rfl⟩,λb z=>absurd z (e b),e0.bs,e0.bsz,λb _ _=>e b,λb z=>absurd z (e b),e0.funs,e0.frf⟩,
  rfl,e0.bare,Un.kept hk,⟨m,hns,λi y v G j l=>?_⟩,λy c h=>?_,e0.hok.fresh (aj _),λy c h=>(cel y c h).2,λp B=>absurd (show p∈([]:cf) from B) (by simp),e0.hok.kept hk,(aq ..).trans hl⟩
 have d:sc.names.lookup y=pi .cell\/sc.names.lookup y=pi .free:=d;rcases d with d|d;exact absurd d (g y);exact has y d;have t:vs[i]? =pi v:=by
  rw[i6]at j;rcases q:vs[i]? with _|a;rw[q]at j;cases j;rw[q]at j;cases j;rfl
 have l:sc.names.lookup y=pi .local\/sc.names.lookup y=pi .cell\/sc.names.lookup y=pi .free:=l;rcases l with z|z|z;exact absurd z (S.noloc y);exact absurd z (g y);refine gzq λRz ez=>?_;obtain⟨u,c,r,C,o,n,hd⟩:=hv i y v G t z;subst ez;exact⟨u,r,.inr ⟨.inr z,c,C,o,hk _ _ n,hd⟩⟩;obtain⟨⟨v,o,n,hd⟩,_⟩:=cel y c h;exact⟨v,o,hk _ _ n,hd⟩
def Hi(S:LamSc N sc)(hobj:s.heap.get? f=pi {cls:=.type "function",data:=.func (lg name qual params body sc cl pm cd ct)})(hcd:s.heap.CodeRec cd qual)(hbind:bindArgs (lg name qual params body sc cl pm cd ct) ⟨[],[]⟩=pure [])(hr:Room (k+1) A)(e0:Env0 P w K mg base A outer s H)(inj: ∀x y c,cl.lookup x=pi c->cl.lookup y=pi c->x=y)(has: ∀x,sc.names.lookup x=pi .free->∃c,cl.lookup x=pi c)(cel: ∀x c,cl.lookup x=pi c->(∃v,s.heap.IsCell c v)/\H c=qb)(hl:vs.length=N.length)(hv: ∀(i:Nat) x v,N[i]? =pi x->vs[i]? =pi v->sc.names.lookup x=pi .free->∃u c,bJ v u/\cl.lookup x=pi c/\s.heap.IsCell c (pi u))(hb: ∃t,PE (cxL CX P w K mg base N qual sc f cd cl A outer s H E) body t/\t (vs.map pi) H Q):
  codeAny (model P w) A (.call (.ref f) ⟨[],[]⟩) (CR CX outer P w H s Q E) s:=by
 have h:s.heap.NoLimit:=e0.mod.nolimit.keeps λb o e=>(e0.bs b o e).1;refine PySem.W.kla_callFunE hr.depth hobj rfl S.co S.gen rfl hcd ?_;rw[hbind];refine ac (wpAny_newFunctionEnv S.nocell (λx j=>nomatch j) (λr d a=>⟨h.fresh _ a,?_⟩) S.kind);have hk: ∀b o,s.heap.get? b=pi o->r.get? b=pi o:=λb o e=>a.extBut b o (bh (ah e)) (ae _ e);show codeAny _ _ (.expr body (EL qual sc s.z f cd cl)) _ _;obtain⟨t,l,n⟩:=hb;have I:=AG (CX:=CX) (E:=E) (t':=s.toks+0) (qual:=qual) (f:=f) (cd:=cd) S hr.hd e0 d hk inj has cel hl hv;refine PySem.W.kla_codeExpr (wpAny_mono (l [] _ (vs.map pi) H Q I n) (λv p g=>?_) λe p g=>g);obtain⟨x,z,J,m,q⟩:=g;exact⟨x,z,J.os,J.bare,J.base,J.hok,m,q⟩
end
structure RoomQ(k:Nat)(A:Around):Prop where
 dp:A.depth+3*k+5<recursionLimit
 un:A.units+16*k+200<cLine
structure FnOkQ(P:Program)(w:World)(K:mj)(mg:Str->Option Value)(base:Heap)(CX:CXT)(k:Nat)(f:Addr)(fd:FuncData)(ps:List Str)(sp:Sp):Prop where
 len: ∀vs H Q E,sp vs H Q E->vs.length=ps.length
 run: ∀(A:Around) (outer:List ph) (s:Shared) (H:Hp) (args:Args) (us:List Value) (vs:List V) (Q:VK) (E:XK),RoomQ k A->Env0 P w K mg base A outer s H->BindsTo s fd args (ps.zip us)->b9 vs us->sp vs H Q E->
  codeAny (model P w) A (.call (.ref f) args) (CR CX outer P w H s Q E) s
noncomputable def qX(X:Cx)(A:Around)(Ex:ce):Cx:={X with A:=A,calm:=qe,xe:=Ex}
section
variable{σ:St}
def KP(hA:A.frames=X.A.frames)(I:Inv X cc σ H s):Inv (qX X A Ex) cc σ H s:=
 ⟨⟨I.ok.mod,I.ok.kind,I.ok.glob,I.ok.blt,I.ok.above,I.ok.inj,I.ok.has,I.ok.cab,(λz=>(bf z).elim),hA.trans I.ok.frames,I.ok.stk,I.ok.exf,I.ok.bs,I.ok.bsz,I.ok.noex,I.ok.exfs,I.ok.funs,I.ok.frf⟩,I.os,I.bare,I.base,I.loc,I.cell,I.free,I.freeC,I.pin,I.hok,I.len⟩
def KQ(h:Cx.Ok X)(I:Inv (qX X A Ex) cc σ H s):Inv X cc σ H s:=
 ⟨h,I.os,I.bare,I.base,I.loc,I.cell,I.free,I.freeC,I.pin,I.hok,I.len⟩
end
section
variable{ad:Ad}{i:Nat}{q1:Str}{F:Fn}
def Df(hi:X.N[i]? =pi en)(hv:Vis X.env.scope en)(hde:(en==("__debug__":Str))=qe)(hdc:(en==("__classdict__":Str))=qe)(hg:L2.Gl X x)(hm:X.mg x=pi (.ref fa))(hdb:(x==("__debug__":Str))=qe)(hk:ku X.K (.ref fa)=qc)(hf:FnOkQ X.prog X.w X.K X.mg X.base (CXe X.prog X.w) kf fa fd [q1] (w6 X.K ad 1 F))(hb:dO X.K fd [q1] [])(hr:RoomQ kf X.A)(he:starEach [.Name en p2] X.env=(qe,eval (.Name en p2) X.env)::starEach [] X.env)(hpl:(backTo pos (starEach [] X.env)).any (·.1)=qe):
  PE X (.Call (.Name x p) [.Name en p2] [] pos) (λσ H Q=>σ[i]? =pi (pi (.ref ea))/\w6 X.K ad 1 F [.ref ea] H Q λ_ _ _=>False):=by
 rintro o s σ H Q I ⟨q,d⟩;refine wpAny_Call_Name_kw (fT I hg hm ?_ hdb);refine im (h₀:=X.base) I.ok.mod.kin hk (L2.thn (bI (bO hi hv hde hdc) cW he pos o s σ H (λh f=>h=[.ref ea]/\f=H) I ⟨.ref ea,q,rfl,rfl⟩) λc g ⟨h,f,b,r,m,j⟩=>⟨b.kIn,?_⟩) he hpl;subst m j;have l:(c++[]).length=[q1].length:=by rw[j3, <-r.length];rfl
 refine wpAny_call (codeAny_mono (hf.run X.A X.stack g f ⟨c,[]⟩ c [.ref ea] Q (λ_ _ _=>False) hr b.env0 (by have:=hb g c b.kIn l;rwa [j3]at this) r d) λr t a=>?_);cases r with
 |error e=>refine gzq λRz ez=>?_;obtain⟨_,_,_,_,_,_,_,_,_,_,_,_,_,_,z⟩:=a;subst ez;exact z.elim
 |ok n=>
  cases n with
  |ret u=>exact b.after a
  |next=>exact ba a
  |brk=>exact ba a
  |cont=>exact ba a
end
section
variable{ad:Ad}{σ:St}
def xH{i:Nat}{F}{q1}(F0:Fram X)(hN:X.N.Nodup)(hi:X.N[i]? =pi en)(hil:X.env.scope.names.lookup en=pi .local)(hic:(en==("__classdict__":Str))=qe)(hgx:L2.Gl X x)(hmx:X.mg x=pi (.ref fa))(hdx:(x==("__debug__":Str))=qe)(hkx:ku X.K (.ref fa)=qc)(hfx:FnOkQ X.prog X.w X.K X.mg X.base (CXe X.prog X.w) kf fa fd [q1] (w6 X.K ad 1 F))(hbx:dO X.K fd [q1] [])(hrq: ∀v,RoomQ kf (X.A.mark v))(hg:L2.Gl X cx)(hm:X.mg cx=pi (.ref (ad.cls 0)))(hdb:(cx==("__debug__":Str))=qe)(hde:(en==("__debug__":Str))=qe)(hx:exmOne X.K (.ref (ad.cls c)) (.ref (ad.cls 0))=pi qc)(I:Inv X cc σ H s)(ho:s'.os=s.os)(hgn:AllBare s'.gens)(fly:Heap.FlyingW B X.stack ea (.ref (ad.cls c)) a0 s'.heap)(un:Un (frs X.stack) [] H H' s.heap s'.heap)(hok:HOk X.prog X.w H' s'.heap)(ne:H' ea=qb)(c8: ∀b o,s.heap.get? b=pi o->b∉frs X.stack->∃o',B.get? b=pi o')(c9: ∀b o,H' b=pi o->∃o',B.get? b=pi o')(hGe: ∃G,Same G (upd H' ea (Eb (ad.cls c) ea))/\Rep X.K ad G (.exc c) (.ref ea)/\RK X.K ad G (upd H' ea (Eb (ad.cls c) ea)) (F [.exc c]) D'.rt λ_ _=>False):
  (tX X cc D' (.ExceptHandler (pi (.Name cx cp)) (pi en) [.Return (pi (.Call (.Name x xp) [.Name en ep] [] ap)) rq] hp')).xe (.ref ea) s':=by
 have ak:X.A.frames=pi (X.env::X.outer):=by rw[<-F0.stk];exact I.ok.frames
 have L: ∀{h:Heap},h.FunFrames B X.stack->∀b∈frs X.stack, ∀o,h.get? b=pi o->∀r,o.data≠ .fields r:=λff b hb o e=>by
  obtain⟨_,o2,Z,nf⟩:=ff.mem (b:=b) hb;rw[e]at Z;cases Z;exact nf
 have U: ∀q:Heap,B.StaysIn q->s'.heap.UpToSlots q->Inv X cc σ H' {s' with heap:=q}:=λq st2 up=>
  I.call' (ch:=[]) (s':={s' with heap:=q}) ho (Na un fly.1 st2 up (L fly.2.2.1) c8) (Kd hok fly.1 st2 c9) hgn λb hb=>by simp at hb
 have f:s.heap.get? ea=qb:=by
  cases e:s.heap.get? ea with
  |none=>rfl
  |some o=>
   by_cases hf:ea∈frs X.stack
   .refine gzq λRz ez=>?_;obtain⟨E,r,_,_,_,t,_,n,_⟩:=fly.2.2.2;subst ez;exact absurd n (L fly.2.2.1 ea hf E t r)
   .obtain⟨o',e'⟩:=c8 ea o e hf;rw[fly.2.1]at e';cases e'
 show X.wp (noteFrame (.ref ea) X.env) _ X.xe s';have j:=fly;rw[F0.stk]at j;refine wpAny_looks_onW ak F0.fr j λh1 J ag=>?_
 refine wpAny_landsW J λq g am=>?_
 have l:=ag.trans am;have O:=U q g.1 l;refine wpAny_handleBy_cons (codeAny_handlers_test ?_) (by intro z;cases z)
 refine dt O.ok.kind hg (Calls.loadGlobal_global (by rw[O.ok.glob];exact O.mod.glob.keeps O.bk) hm ?_) hdb
 have LT:Looks (model X.prog X.w) q (typeOf (.ref ea)) (.ref (ad.cls c)):=by
  refine gzq λRz ez=>?_;obtain⟨E,r,_,_,_,t,⟨M,_⟩,n,_⟩:=g.2.2.2;subst ez;exact M▸(Looks.ld t).andThen .now
 refine(exm_one (K:=X.K) O.kIn LT hx).at ?_;show codeAny _ _ _ _ _;refine codeAny_handlers_suite_as ?_;refine lands_againW g λh3 C an=>?_
 have J3:=U h3 C.1 (l.trans an)
 have T:oE h3 ea (ad.cls c):=by
  refine gzq λRz ez=>?_;obtain⟨E,r,_,_,_,t,⟨M,_⟩,n,_⟩:=C.2.2.2;subst ez;exact⟨E,r,t,M,n⟩
 have J4:Inv X cc σ (upd H' ea (Eb (ad.cls c) ea)) {s' with heap:=h3}:=by
  refine J3.track ne ?_ (λz=>?_) (λy d n z=>?_) (λp hp z=>?_) ?_
  .cases e:X.s₀.heap.get? ea with
   |none=>rfl
   |some o=>
    obtain⟨o',Y⟩:=I.base.there ea o e (by rw[F0.ex];simp)
    rw[f]at Y;cases Y
  .refine gzq λRz ez=>?_;obtain⟨m,hn,_⟩:=I.loc;obtain⟨o,_,_,a,_⟩:=hn;subst ez;rw[<-z,f]at a;cases a
  .obtain⟨v,o,a,_⟩:=I.cell y d n;rw[z,f]at a;cases a
  .obtain⟨a,_⟩:=I.pin p hp;rw[z,f]at a;cases a
  .obtain⟨E,r,t,M,n⟩:=T;refine⟨⟨E,r,t,M,n⟩,⟨E,t⟩,?_⟩;rintro ha hb ⟨o1,v1,Y,Z,e3⟩ k;exact⟨o1,v1,k _ Y,Z,e3⟩
 refine gW J4 hN hi (.inl hil) (v:=.ref ea) rfl (λs5 J5=>?_) (.inr hil)
 have ar:i<σ.length:=by rw[J4.len];exact(ay.mp hi).1
 have al:(σ.set i (pi (.ref ea)))[i]? =pi (pi (V.ref ea)):=bj ar
 obtain⟨G,sG,rG,hq⟩:=hGe
 refine wpAny_mono (nY (uP (Df (X:=qX X (X.A.mark (pi (.ref ea))) _) (i:=i) (ea:=ea) hi (.inl hil) hde hic hgx hmx hdx hkx hfx hbx (hrq _) rfl rfl)) cc s5 (σ.set i (pi (.ref ea))) _ ⟨λ_ _=>False,λv H1=>D'.rt v H1,λ_ _=>False,λ_ _=>False⟩ (KP rfl J5) ⟨al,G,[.exc c],sG,?_,rfl,hq⟩) (λfl s6 hs=>?_) λ_ _ h=>h
 .unfold aK;exact⟨.ref ea,[],rfl,rG,by unfold aK;rfl⟩
 .cases fl with
  |next=>obtain⟨_,_,_,z⟩:=hs;exact z.elim
  |brk=>obtain⟨_,_,_,z⟩:=hs;exact z.elim
  |cont=>obtain⟨_,_,_,z⟩:=hs;exact z.elim
  |ret u=>
   obtain⟨v,S,H6,ab,r6,q6⟩:=hs;have J6:Inv X cc S H6 s6:=KQ J4.ok ab;have Q:i<S.length:=by rw[J6.len];exact(ay.mp hi).1
   show wpAny _ _ (do bindName X.env en .none;unbindBehindTheSuite X.env en hp') _ _ s6
   refine aa (wpAny_bindName (gW J6 hN hi (.inl hil) (v:=.non) rfl (λs7 J7=>?_) (.inr hil)))
   unfold unbindBehindTheSuite;refine wpAny_onRaise (Cu J7 hN hi hil (v:=.non) (bj Q) λs8 J8=>?_)
   exact⟨v,_,_,J8,r6,q6⟩
end
noncomputable def oZ(F:Fn):R->R
 |.ok d=>.ok d
 |.ow xs=>.ow xs
 |.ex c=>match F [.exc c]with
  |.ok d=>.ok d
  |.ow xs=>.ow xs
  |_=>.bad
 |.bad=>.bad
section
variable{dn en x cx:Str}{cp xp ep ap hp' rq np dp rp tp:Pos}
noncomputable def kU(dn en x cx:Str)(cp xp ep ap hp' rq np dp rp tp:Pos):Stmt:=
 .Try [.Return (pi (.Call (.Name dn np) [] [] dp)) rp] [.ExceptHandler (pi (.Name cx cp)) (pi en) [.Return (pi (.Call (.Name x xp) [.Name en ep] [] ap)) rq] hp'] [] [] tp
end
noncomputable def AH:L7 SK.Gl->Bool
 |some (.py .isin)=>qc
 |_=>qe
def AI(h:AH g=qc):g=pi (.py .isin):=by unfold AH at h;split at h;rfl;cases h
def qL(C:SK.Ctx):Expr->L7 F
 |.Name x _=>(loc C x).map aE
 |_=>qb
noncomputable def qE:Nat->SK.Ctx->Expr->L7 F
 |0,_,_=>qb
 |n+1,C,e=>match e with
  |.Name x _=>(loc C x).map aB
  |.Constant c _ _=>(kD c).map rK
  |.BinOp a op b _=>(qE n C a).bind λf=>(qE n C b).map λg=>aV op f g
  |.List es _=>if es.length<=1000 then(eG (qE n C) es).map gG else qb
  |.Subscript a b _=>(qL C a).bind λf=>(qE n C b).map λg=>rIx f g
  |.Call f as kws cp=>if kws.isEmpty then(match f with
   |.Name x _=>if AH (glo C x)then(two as).bind λ(a,t)=>(bY t).bind λ(tn,_)=>(qE n C a).bind λfa=>(glo C tn).bind λg=>(isP g).map λP=>rIs P fa else qb
   |.Attribute o m ap=>(one as).bind λa=>if(ap.endLine==cp.line)=qc then(qL C o).bind λf=>(qE n C a).bind λg=>if m="count" then pi (tD yL f g)else if m="index" then pi (tD yM f g)else qb else qb
   |_=>qb)else qb
  |_=>qb
noncomputable def qT:Nat->SK.Ctx->Expr->L7 F
 |0,_,_=>qb
 |n+1,C,e=>match e with
  |.BoolOp op es _=>(two es).bind λ(a,b)=>if op= .And then qb else(qT n C a).bind λf=>(qT n C b).map λg=>rOr f g
  |.UnaryOp op a _=>(match op with
   |.Not=>(qT n C a).map qP
   |_=>qb)
  |.Compare a ops cs _=>(match ops with
   |[op]=>(one cs).bind λb=>(qE n C a).bind λf=>(qE n C b).map λg=>bH op f g
   |_=>qb)
  |.Call f as kws cp=>qE n C (.Call f as kws cp)
  |_=>qb
mutual
noncomputable def qS:Nat->SK.Ctx->Stmt->L7 FS
 |0,_,_=>qb
 |n+1,C,st=>match st with
  |.Assign ts e _=>(one ts).bind λt=>(bY t).bind λ(x,_)=>(loc C x).bind λi=>(qE n C e).map λf=>fS i f
  |.If c a b _=>(qT n C c).bind λf=>(qSs n C a).bind λg=>(qSs n C b).map λh=>sIf f g h
  |.Return o _=>o.bind λe=>(qE n C e).map dW
  |_=>qb
noncomputable def qSs:Nat->SK.Ctx->L1 Stmt->L7 FS
 |0,_,_=>qb
 |n+1,C,l=>match l with
  |[]=>pi aU
  |st::r=>(qS n C st).bind λg=>(qSs n C r).map λh=>aR g h
end
structure QOk(X:Cx)(ad:Ad)(C:SK.Ctx):Prop where
 nd:X.N.Nodup
 vis: ∀x i,loc C x=pi i->X.N[i]? =pi x/\Vis X.env.scope x/\(x==("__debug__":Str))=qe/\(x==("__classdict__":Str))=qe
 nm: ∀x i,loc C x=pi i->L6 X x i
 isn: ∀x,glo C x=pi (.py .isin)->x="isinstance"/\L2.Gl X "isinstance"/\X.mg "isinstance"=qb
 cls: ∀t g P,glo C t=pi g->isP g=pi P->∃cv,ClNm X t cv/\Nc X ad cv P
 un:X.A.units+62<cLine
 exc: ∀c,ExcCls X.K (ad.cls c)
section
variable{X:Cx}{ad:Ad}{C:SK.Ctx}{A:Around}
def KR(O:StOk X0 ad C)(hu:A.units+62<cLine):QOk (qX X0 A Ex) ad C:=by
 refine⟨O.cx.nd,O.cx.vis,λx i h=>O.nm h,λx h=>?_,λt g P h e=>?_,hu,O.cx.exc⟩;obtain⟨l,o,j,f⟩:=O.cx.gl h;cases (show x="isinstance" from j);exact⟨rfl,l,f⟩;obtain⟨a,c,k⟩:=Ey O.cx h e;refine⟨a,?_,k⟩;cases c with
 |blt T e g m b n d=>exact .blt T e g m b n d
 |own C e g m d=>exact .own C e g m d
def KS(O:QOk X ad C)(h:qL C e=pi f):ML X ad e f/\∃x p,e= .Name x p:=by unfold qL at h;split at h;rename_i x p;obtain⟨i,a,rfl⟩:=zMd h;obtain⟨b,c,d,g⟩:=O.vis x i a;exact⟨zE b c d g,x,p,rfl⟩;cases h
def iM(h:qE n C e=pi f):gM e/\nJ e/\(∀a b c d,e≠ .Slice a b c d)/\∀a b c d,e≠ .ListComp a b c d:=by
 cases n with
 |zero=>cases h
 |succ n=>cases e<;>first|(cases h;done)|exact⟨trivial,trivial,(λ_ _ _ _ z=>nomatch z),(λ_ _ _ _ z=>nomatch z)⟩
theorem EM{n}(hE: ∀e f,qE n C e=pi f->ME X ad e f): ∀{es} {fs},eG (qE n C) es=pi fs->MA X ad es fs
 |[],fs,h=>by
  cases h;exact zD
 |e::es,fs,h=>by
  unfold eG at h;rcases a:qE n C e with _|f;rw[a]at h;cases h;rw[a]at h;obtain⟨r,c,b⟩:=zMd h;subst b;exact oI (hE e f a) (EM hE c) (aM (iM a).1)
theorem xI(O:QOk X ad C): ∀n e f,qE n C e=pi f->ME X ad e f
 |0,_,_,h=>by cases h
 |n+1,e,f,h=>by
  have q:=xI O n;unfold qE at h;split at h;rename_i x p;obtain⟨i,H,rfl⟩:=zMd h;obtain⟨y,I,M,B⟩:=O.vis x i H;exact yS y I M B;obtain⟨d,b,rfl⟩:=zMd h;exact gX b;obtain⟨l,b,h⟩:=zBd h;obtain⟨u,c,rfl⟩:=zMd h;exact Ed (q _ l b) (q _ u c);split at h;rename_i r;obtain⟨fs,b,rfl⟩:=zMd h;exact Er (EM q b) (by rw[eL b];exact r);cases h;obtain⟨l,b,h⟩:=zBd h;obtain⟨u,c,rfl⟩:=zMd h;exact JY (KS O b).1.lk (q _ u c) (oU (iM c).2.2.1);rename_i Y W E U;split at h;rename_i hk;cases ju.mp hk;split at h;rename_i x p;split at h;rename_i N;obtain⟨rfl,J,z⟩:=O.isn x (AI N);have j:=zBd h;clear h;obtain⟨⟨a,t⟩,v,h⟩:=j;cases gL v;have j:=zBd h;clear h;obtain⟨⟨tn,Q⟩,K,h⟩:=j;cases aS K;obtain⟨l,b,h⟩:=zBd h;obtain⟨g,c,h⟩:=zBd h;obtain⟨P,L,rfl⟩:=zMd h;obtain⟨S,A,G⟩:=O.cls tn g P c L;exact tW O.exc J z A G (q _ l b).ml (aM (iM b).1);cases h;rename_i o m T;have j:=zBd h;clear h;obtain⟨a,v,h⟩:=j;cases cJ v;split at h;rename_i r;have j:=zBd h;clear h;obtain⟨fo,b,h⟩:=j;have j:=zBd h;clear h;obtain⟨l,c,h⟩:=j;obtain⟨w,x,p,rfl⟩:=KS O b;split at h;rename_i s;cases h;subst s;exact Cz O.un w (q _ l c) (aM (iM c).1) rfl r;split at h;rename_i s;cases h;subst s;exact CB O.un w (q _ l c) (aM (iM c).1) rfl r;cases h;cases h;cases h;cases h;cases h
theorem KU(O:QOk X ad C): ∀n e f,qT n C e=pi f->MT X ad e f
 |0,_,_,h=>by cases h
 |n+1,e,f,h=>by
  have l:=KU O n;unfold qT at h;split at h
  .rename_i o r p;have j:=zBd h;clear h;obtain⟨⟨a,b⟩,m,h⟩:=j;cases gL m;simp only at h;split at h
   .cases h
   rename_i q;cases o with
   |And=>exact absurd rfl q
   |Or=>
   obtain⟨d,c,h⟩:=zBd h;obtain⟨i,g,rfl⟩:=zMd h;exact Au (FV (l _ d c) (zB (l _ i g)))
  .split at h
   .obtain⟨d,c,rfl⟩:=zMd h;exact Em (l _ d c)
   .cases h
  .split at h
   .have j:=zBd h;clear h;obtain⟨b,m,h⟩:=j;cases cJ m;obtain⟨d,c,h⟩:=zBd h;obtain⟨i,g,rfl⟩:=zMd h;exact Ep O.un (xI O n _ d c) (xI O n _ i g) (eK (iM g).2.1)
   .cases h
  .exact El (xI O n _ _ h) (λ_=>rfl)
  .cases h
theorem KW(O:QOk X ad C){Z}: ∀n,(∀st g,qS n C st=pi g->MS X ad Z st g)/\∀l g,qSs n C l=pi g->MSs X ad Z l g
 |0=>⟨(λ_ _ h=>by cases h),(λ_ _ h=>by cases h)⟩
 |n+1=>by
  obtain⟨r,a⟩:=KW O (Z:=Z) n;refine⟨λst g h=>?_,λl g h=>?_⟩;unfold qS at h;split at h;rename_i v e s;have d:=zBd h;clear h;obtain⟨t,j,h⟩:=d;cases cJ j;have d:=zBd h;clear h;obtain⟨⟨x,p⟩,j,h⟩:=d;cases aS j;obtain⟨i,c,h⟩:=zBd h;obtain⟨f,b,rfl⟩:=zMd h;have nm:=O.nm x i c;refine Ax (j8 O.nd nm.1 nm.2.1 (xI O n _ f b) ?_ nm.2.2);have u:=(iM b).2.2.2;cases e<;>first|rfl|exact absurd rfl (u _ _ _ _)|(cases n<;>cases b;done)
  obtain⟨f,c,h⟩:=zBd h;obtain⟨o,b,h⟩:=zBd h;obtain⟨m,q,rfl⟩:=zMd h;exact Kb (KU O n _ f c) (a _ o b) (a _ m q);have d:=zBd h;clear h;obtain⟨e,rfl,h⟩:=d;obtain⟨f,c,rfl⟩:=zMd h;exact vI (xI O n _ f c);cases h;unfold qSs at h;split at h;cases h;exact tR;obtain⟨o,c,h⟩:=zBd h;obtain⟨m,b,rfl⟩:=zMd h;exact vH (r _ o c) (a _ m b)
end
noncomputable def KY:R->R
 |.ex _=>.bad
 |r=>r
def qFn(tab:L1 (Str×SK.Gl))(st:Stmt):L7 (Nat×Fn):=match st with
 |.FunctionDef _ as b _ _ _ sc _ _ _=>(d9 as).bind λps=>if bW (aC sc) ps sc then(qSs 100 ⟨tab,[],sc,aC sc,[]⟩ b).map λg=>(ps.length,λds=>KY (SK.fnOf (aC sc).length g ds))else qb
 |_=>qb
noncomputable def quiet(A:Around):Around:={A with handled:=qb}
def RoomQ.room(r:RoomQ k A):Room k (quiet A):=⟨rfl,r.dp,r.un⟩
theorem RoomQ.deeper(r:RoomQ (k+1) A)env:RoomQ k (A.deeper env):=
 ⟨by have:=r.dp;show A.depth+1+3*k+5<_;lia,by have:=r.un;show A.units+3+16*k+200<_;lia⟩
section
variable{K:Frag}{ad:Ad}{tab:L1 (Str×SK.Gl)}
def Hj{st}{F}(B:ExcK K ad)(TB:eB P w K mg base ad k tab)(Fu:Fun K x qual st f fd)(hps:d9 (defArgs st)=pi ps)(hd:qFn tab st=pi (n,F)):FnOkQ P w K mg base (CXe P w) (k+1) f fd ps (w6 K ad n F):=by
 obtain⟨oc,od,kV,bl,pm,an,ag,ct,a7,rfl,lk,a5⟩:=Fu.ex;cases st with
 |FunctionDef nm as b dl re tp h ts bi bb=>
  have a0:((d9 as).bind λPs=>if bW (aC h) Ps h then(qSs 100 ⟨tab,[],h,aC h,[]⟩ b).map λg=>(Ps.length,λN=>KY (SK.fnOf (aC h).length g N))else qb)=pi (n,F):=hd;have a4:d9 as=pi ps:=hps;rw[a4]at a0;have ab:(if bW (aC h) ps h then(qSs 100 ⟨tab,[],h,aC h,[]⟩ b).map λg=>(ps.length,λN=>KY (SK.fnOf (aC h).length g N))else qb)=pi (n,F):=a0;by_cases hs:bW (aC h) ps h=qc;rw[if_pos hs]at ab;obtain⟨g,hg,e⟩:=zMd ab;cases e;obtain⟨S,nm⟩:=cH hs;refine⟨λvs H Q E ⟨G,N,_,r,hl,_⟩=>by rw[r.length,hl],λA t s H args us vs Q E hr U hb r ar=>?_⟩;have hl:vs.length=ps.length:=by obtain⟨G,N,_,r,hl,_⟩:=ar;rw[r.length,hl]
  have KX:K.In s.heap:=U.mod.kin.keeps λb o e=>(U.bs b o e).1;have a6:s.heap.NoLimit:=U.mod.nolimit.keeps λb o e=>(U.bs b o e).1;have am: ∀y∈ps.zip us,h.names.lookup y.1=pi .local\/(h.names.lookup y.1=pi .cell/\((cellsFrom (s.z+1) h.names []).lookup y.1).isSome=qc):=λ⟨n,v⟩ hy=>by
   rcases S.par n (kd hy).1 with q|q;exact .inl q;exact .inr ⟨q,e7 _ _ _ (.inl q)⟩
  have a2:A.depth<recursionLimit:=by have:=hr.dp;lia
  refine codeAny_call_function a2 (KX _ _ lk) rfl S.co S.gen rfl (ij KX a5) (hb _ _ _ _ ?_);refine wpAny_newFunctionEnv_cells S.kind am λenv he s1 y=>?_;subst he;refine⟨a6.keeps y.toInCall.keep,codeAny_func ?_⟩;have e1:Env0 P w K mg base (quiet A) t s H:=⟨U.frames,U.mod,U.bs,U.bsz,U.funs,U.frf,U.hok,U.bare⟩;let X0:=kN (CXe P w) P w K mg base (aC h) qual h f ag (quiet A) t s H E;have I0:Inv X0 [] (L2.start (aC h) vs) H s1:=gE S rfl e1 hl r y;let X:=qX X0 (A.deeper (envOfC qual h s.z f ag)) (λe s'=>wpAny (model P w) (A.deeper (envOfC qual h s.z f ag)) (leaving (envOfC qual h s.z f ag) e) (λ_ al=>CXe P w t H s E e al) (λe' al=>CXe P w t H s E e' al) s');have I:Inv X [] (L2.start (aC h) vs) H s1:=KP rfl I0;have Y:Room k X0.A:=(hr.deeper _).room;let C:SK.Ctx:=⟨tab,[],h,aC h,[]⟩;have ap: ∀x i,loc C x=pi i->(aC h)[i]? =pi x/\Loc h x/\x∈aC h:=λx i e=>by
   obtain⟨e1,L⟩:=lV e;refine⟨fY e1,?_,lU e1⟩;rcases L with L|L|L;exact .inl L;exact .inr L;exact absurd rfl (S.nofree _ (eQ L))
  have O:StOk X0 ad C:=by
   refine⟨⟨rfl,S.nd,λx i e=>?_,λx e=>e,λx g e=>?_,λx i e=>?_,rfl,?_,Y.hd,B.exc,B.kin,B.kve,λj m F' e=>by cases e⟩,λ_=>rfl,rfl,λx i e=>(ap x i e).2.1,B.exm,B.exi⟩;obtain⟨a,b,c⟩:=ap x i e;exact⟨a,b.elim .inl λz=>.inr (.inl z),(nm x c).1,(nm x c).2⟩;obtain⟨a,b⟩:=TB x g e;refine⟨a,?_⟩;cases g with
   |fn j m F'=>
    refine gzq λRz ez=>?_;obtain⟨r',f',h1,h2,h3,h4,h5⟩:=b;subst ez;exact⟨r',f',⟨h2,h3,h4⟩,Y.mono h1,h5⟩
   |exc c=>exact b
   |verr=>exact b
   |val d=>exact b
   |tbl bm=>exact b
   |py p=>exact b
   |cls A ms=>exact⟨b.1,b.2.1,λm n M hm=>let ⟨no,f,r,fd,ps,h1,h2,h3,h4⟩:=b.2.2 m n M hm;⟨no,f,r,fd,ps,h2,h3,Y.mono h1,h4⟩⟩
   obtain⟨e1,L⟩:=eP e;rcases L with L|L;exact .inl L;exact absurd rfl (S.nofree _ (eQ L));exact ir (ib (by decide:62<=64) _) Y.units
  have OQ:QOk X ad C:=KR O (ir (ib (by decide:62<=64) _) Y.units);obtain⟨G,N,hG,rr,be,hq⟩:=ar;have a3:wpAny (model P w) X.A (execs b X.env) (SP X [] {nx:=λ_ T=>Q .non T,rt:=Q}) X.xe s1:=by
   refine(KW OQ (Z:=λ_=>True) 100).2 b g hg [] s1 _ H _ I ⟨G,G,N.map Slot.sh++ao ((aC h).length-N.length) .no,λ_ _ _=>False,?_,⟨λσ cc H s e s' _ hc=>?_,trivial⟩,?_⟩;have:=i0 (X:=X) (ad:=ad) (n:=(aC h).length-N.length) hG rr;unfold L2.start;rw[rr.length];exact this;obtain⟨_,_,_,_,_,_,_,_,_,_,_,_,_,_,_,_,z⟩:=hc;exact z.elim;have l:RK K ad G H (KY (match g (N.map Slot.sh++ao ((aC h).length-N.length) .no)with
    |.rt (.ok d)=>.ok d
    |.rt (.ow xs)=>.ow xs
    |.rt _=>.bad
    |.nx _=>.ok .non
    |.ex c _=>.ex c
    |_=>.bad)) Q (λc T=>E (.ref (ad.cls c)) qb T):=hq
   cases e:g (N.map Slot.sh++ao ((aC h).length-N.length) .no)with
   |nx ρ=>rw[e]at l;exact λσ G' T S'=>l .non G' T S'.st (by unfold Rep;rfl)
   |bk ρ=>rw[e]at l;exact l.elim
   |ct ρ=>rw[e]at l;exact l.elim
   |ex c ρ=>rw[e]at l;exact l.elim
   |rt r'=>
    rw[e]at l;cases r' with
    |ok d=>exact l
    |ow xs=>exact l
    |ex c=>exact l.elim
    |bad=>exact l.elim
  refine wpAny_mono a3 (λfl s' hs=>?_) λe s' hs=>hs;have a1: ∀{ak:St} {T:Hp} {v:V} {u:Value},Inv X [] ak T s'->bJ v u->Q v T->CE t P w H s Q u s':=
   λ{ak T v u} J rv q=>⟨v,T,J.os,J.bare,J.base,J.hok,rv,q⟩
  cases fl with
  |ret u=>
   obtain⟨v,ak,T,J,rv,q⟩:=hs;exact a1 J rv q
  |next=>
   obtain⟨ak,T,J,q⟩:=hs;exact a1 (v:=V.non) (u:=oq) J rfl q
  |brk=>
   obtain⟨_,_,_,q⟩:=hs;exact ba q
  |cont=>
   obtain⟨_,_,_,q⟩:=hs;exact ba q
  rw[if_neg hs]at ab;cases ab
 |_=>cases hd
end
abbrev Pl:=cf
structure TD(Δ:Pl->Prop)(L pl:Pl):Prop where
 tb:Δ L
 dj: ∀p∈L, ∀r∈pl,p.1≠r.1
def SPL(X:Cx)(Δ:Pl->Prop)(cc:Pl)(D:Ends)(f:Flow)(s':Shared):Prop:= ∃L,TD Δ L (X.pn++cc)/\SP X (L++cc) D f s'
def LPS(X:Cx)(Δ:Pl->Prop)(st:Stmt)(t:TS):Prop:=
 ∀(cc L:Pl) (s:Shared) (σ:St) (H:Hp) (D:Ends),TD Δ L (X.pn++cc)->Inv X (L++cc) σ H s->t D σ H->X.wp (exec st X.env) (SPL X Δ cc D) X.xe s
def o7(X:Cx)(Δ:Pl->Prop)(st:L1 Stmt)(t:TS):Prop:=
 ∀(cc L:Pl) (s:Shared) (σ:St) (H:Hp) (D:Ends),TD Δ L (X.pn++cc)->Inv X (L++cc) σ H s->t D σ H->X.wp (execs st X.env) (SPL X Δ cc D) X.xe s
def EPL(X:Cx)(Δ:Pl->Prop)(cc:Pl)(σ:St)(Q:VK)(u:Value)(s':Shared):Prop:= ∃L,TD Δ L (X.pn++cc)/\EP X (L++cc) σ Q u s'
def LPE(X:Cx)(Δ:Pl->Prop)(e:Expr)(t:TE):Prop:=
 ∀(cc L:Pl) (s:Shared) (σ:St) (H:Hp) (Q:VK),TD Δ L (X.pn++cc)->Inv X (L++cc) σ H s->t σ H Q->X.wp (eval e X.env) (EPL X Δ cc σ Q) X.xe s
def TPL(X:Cx)(Δ:Pl->Prop)(cc:cf)(σ:St)(Q:Bool->Hp->Prop)(b:Bool)(s':Shared):Prop:=
 ∃L,TD Δ L (X.pn++cc)/\TP X (L++cc) σ Q b s'
def LPW(X:Cx)(Δ:Pl->Prop)(e:Expr)(t:TT):Prop:=
 ∀(whole:Sem Value) (cc L:Pl) (s:Shared) (σ:St) (H:Hp) (Q:Bool->Hp->Prop),TD Δ L (X.pn++cc)->Inv X (L++cc) σ H s->t σ H Q->
  X.wp (isTrue e X.env whole) (TPL X Δ cc σ Q) X.xe s
def LPT(X:Cx)(Δ:Pl->Prop)(e:Expr)(t:TT):Prop:=
 ∀(cc L:Pl) (s:Shared) (σ:St) (H:Hp) (Q:Bool->Hp->Prop),TD Δ L (X.pn++cc)->Inv X (L++cc) σ H s->t σ H Q->
  X.wp (isTrue e X.env (eval e X.env)) (TPL X Δ cc σ Q) X.xe s
section
variable{tA tB:TT}{st:Stmt}{dZ:L1 Stmt}
def LPS.imp(a:LPS X Δ st t)(k: ∀D σ H,t' D σ H->t D σ H):LPS X Δ st t':=λb L s σ H D T I w=>a b L s σ H D T I (k D σ H w)
def o7.imp(a:o7 X Δ dZ t)(k: ∀D σ H,t' D σ H->t D σ H):o7 X Δ dZ t':=λb L s σ H D T I w=>a b L s σ H D T I (k D σ H w)
def EN(a:PS X st t):LPS X Δ st t:=λe L s b H D T I w=>L2.thn (a _ s b H D I w) λf d c=>⟨L,T,c⟩
def o8(a:PSs X dZ t):o7 X Δ dZ t:=λe L s b H D T I w=>L2.thn (a _ s b H D I w) λf d c=>⟨L,T,c⟩
def fM(h1:LPS X Δ st t)(h2:o7 X Δ dZ u):o7 X Δ (st::dZ) (NU t u):=by
 intro e L s j H D T I h;refine wpAny_execs_cons (L2.thn (h1 e L s j H {D with nx:=u D} T I h) λf g a=>?_);obtain⟨c,b,a⟩:=a;cases f with
 |next=>
  obtain⟨d,l,i,a⟩:=a;exact h2 e c g d l D b i a
 |ret v=>exact⟨c,b,a⟩
 |brk=>exact⟨c,b,a⟩
 |cont=>exact⟨c,b,a⟩
def KZ(hc:PT X c tc)(ha:o7 X Δ a t)(hb:o7 X Δ b u):LPS X Δ (.If c a b pos) (Mr tc t u):=by intro j L s f H D T I h;refine wpAny_If (L2.thn (hc _ s f H _ I h) λd g e=>?_);obtain⟨l,i,q1⟩:=e;rcases d with _|_;exact hb j L g f l D T i q1;exact ha j L g f l D T i q1
def AJ{iter tg}(hp:PassesOwn (model X.prog X.w) X.A X.env X.xe)(hc:X.calm=qc)(hi:PI X tg iter wi)(hg:PG X tg gg)(hb:o7 X Δ body tb)(hs: ∀x,foldedSetIterable iter X.env x=pure x):LPS X Δ (.For tg iter body [] pos) (Ow wi gg tb):=by
 intro B L s σ H D T0 I h;refine wpAny_For (L2.thn (hi _ s σ H _ I h) λv s1 h1=>L2.thn h1 λam s2 h2=>?_) hs;obtain⟨it,j,tn,J,H2,e,I2,T,st2,f2,W,⟨m0,w0⟩,S⟩:=h2;subst e;have q: ∀{H':Hp} {L':Pl},(∀b∈j,H' b=qb)->(∀b∈j, ∀p∈L',p.1≠b)->∀b∈j,pV X (L'++B) H' b:=λ{H' L'} hn hd b hb=>by
  obtain⟨_,a1,a2,a3,a4,a5⟩:=f2 b hb;refine⟨hn b hb,a1,a2,a3,a4,λp hp=>?_⟩;rcases jz.mp hp with z|z;exact a5 p (gc _ z);rcases jz.mp z with z|z;exact hd b hb p z;exact a5 p (bt _ (bt _ z))
 have d0: ∀b∈j, ∀p∈L,p.1≠b:=λb hb p hp=>(f2 b hb).2.2.2.2.2 p (bt _ (gc _ hp));refine codeAny_forLoop_any (λn s'=>∃i σ' H' L',TD Δ L' (X.pn++B)/\(∀b∈j, ∀p∈L',p.1≠b)/\Inv X (L'++B) σ' H' s'/\tn i s'.heap/\(∀b∈j,H' b=qb)/\W i n σ' H') ?_ m0 ⟨0,σ,H2,L,T0,d0,I2,st2,λb hb=>(f2 b hb).1,w0⟩;rintro n s3 ⟨i,t,H3,L3,T3,d3,I3,ab,Z,w3⟩;rcases S i n t H3 w3 with ⟨ad,qn⟩|⟨go,N,hN,step⟩;refine wpAny_passesOwn hp (L2.thn (T.done X rfl rfl rfl hc i _ s3 t H3 X.xe I3 (q Z d3) ab ad) λr s4 g=>?_);obtain⟨G,I4⟩:=g;subst G;exact wpAny_execs_nil ⟨L3,T3,t,H3,I4,qn⟩;refine wpAny_passesOwn hp (L2.thn (T.item X rfl rfl rfl hc i _ s3 t H3 X.xe I3 (q Z d3) ab go) λr s4 g=>?_);obtain⟨u,G,h4⟩:=g;subst G;refine wpAny_passesOwn hp (L2.thn h4 λ_ K g=>?_);obtain⟨x,H5,I5,r5,y5,E,al⟩:=g;have ag:=I5.pinned (q al d3) (T.obj _ _ E);refine wpAny_passesOwn hp (L2.thn (hg _ K t H5 x u _ ag r5 (step x H5 y5)) λ_ s6 g=>?_);obtain⟨ak,H6,I6,q6⟩:=g;rw[jc]at I6;have T6:TD Δ L3 (X.pn++(B++iR j K.heap)):=⟨T3.tb,λp hp r G=>by
  rw[<-jc]at G;rcases jz.mp G with z|z;exact T3.dj p hp r z;exact d3 _ (qB z).1 p hp⟩
 refine wpAny_passesOwn hp (L2.thn (hb _ L3 s6 ak H6 _ T6 I6 q6) λf Q C=>?_);obtain⟨O,T7,C⟩:=C;have M:TD Δ O (X.pn++B):=⟨T7.tb,λp hp r G=>T7.dj p hp r (by rw[<-jc];exact gc _ G)⟩;have un: ∀{a:St} {c:Hp},Inv X (O++(B++iR j K.heap)) a c Q->Inv X (O++B) a c Q:=λ{a c} l=>by
  rw[<-jc]at l;exact l.unpinned
 have y: ∀{a:St} {c:Hp},Inv X (O++(B++iR j K.heap)) a c Q->N a c->∃m,m<n/\∃i σ' H' L',TD Δ L' (X.pn++B)/\(∀b∈j, ∀p∈L',p.1≠b)/\Inv X (L'++B) σ' H' Q/\tn i Q.heap/\(∀b∈j,H' b=qb)/\W i m σ' H':=λ{a c} l U=>by
  obtain⟨m',hm,w7⟩:=hN a c U;have Y: ∀b∈j, ∀o,K.heap.get? b=pi o->(b,o)∈B++iR j K.heap:=λb hb o e=>bt _ (jI hb e);have pin: ∀b∈j, ∀o,K.heap.get? b=pi o->Q.heap.get? b=pi o/\c b=qb:=λb hb o e=>by
   have:=l.pin (b,o) (bt _ (bt _ (Y b hb o e)));exact⟨this.1,this.2.1⟩
  refine⟨m',hm,i+1,a,c,O,M,λb hb p hp=>?_,un l,T.keep _ _ _ E λb hb o e=>(pin b hb o e).1,λb hb=>?_,w7⟩;obtain⟨o,e,d⟩:=T.obj _ _ E b hb;exact T7.dj p hp (b,o) (bt _ (Y b hb o e));obtain⟨o,e,d⟩:=T.obj _ _ E b hb;exact(pin b hb o e).2
 cases f with
 |next=>obtain⟨a,c,l,U⟩:=C;exact y l U
 |cont=>obtain⟨a,c,l,U⟩:=C;exact y l U
 |brk=>obtain⟨a,c,l,C⟩:=C;exact⟨O,M,a,c,un l,C⟩
 |ret v=>obtain⟨x7,a,c,l,r7,C⟩:=C;exact⟨O,M,x7,a,c,un l,r7,C⟩
def AL(he:LPE X Δ e te):LPS X Δ (.Return (pi e) pos) λD σ H=>te σ H D.rt:=by intro f L s σ H D T I h;exact wpAny_Return_some (L2.thn (he f L s σ H D.rt T I h) λu j a=>by obtain⟨i,d,v,g,b,c,q⟩:=a;exact⟨i,d,v,σ,g,b,c,q⟩)
def EO(h:PE X e te):LPE X Δ e te:=λd L s a H Q T I w=>L2.thn (h _ s a H Q I w) λu c b=>⟨L,T,b⟩
def LPW.pt(h:LPW X Δ e tc):LPT X Δ e tc:=h _
def K0(h:PT X e tc):LPT X Δ e tc:=λf L s a H Q T I w=>L2.thn (h _ s a H Q I w) λb d c=>⟨L,T,c⟩
def Hk(ha:LPT X Δ a tA):LPW X Δ (.BoolOp .Or [a] pos) tA:=by intro g d L s b H Q T I h;refine isTrue_or (L2.thn (ha d L s b H Q T I h) λc f e=>?_);rcases c with _|_;exact isTrue_or_nil e;exact e
def K1(ha:LPT X Δ a tA)(hb:LPW X Δ (.BoolOp .Or (b::r) pos) tB):LPW X Δ (.BoolOp .Or (a::b::r) pos) (tOr tA tB):=by intro n g L s f H Q T I h;refine isTrue_or (L2.thn (ha g L s f H _ T I h) λc m d=>?_);obtain⟨l,j,i,e,q1⟩:=d;rcases c with _|_;exact hb n g l m f i Q j e q1;exact⟨l,j,i,e,q1⟩
def Hl(hc:LPT X Δ c tc)(ha:o7 X Δ sa t)(hb:o7 X Δ sb u):LPS X Δ (.If c sa sb pos) (Mr tc t u):=by intro e L s b H D T I h;refine wpAny_If (L2.thn (hc e L s b H _ T I h) λd f a=>?_);obtain⟨l,j,i,g,q1⟩:=a;rcases d with _|_;exact hb e l f b i D j g q1;exact ha e l f b i D j g q1
def Two(Δ₁ Δ₂:Pl->Prop)(L:Pl):Prop:= ∃M1 M2,L=M1++M2/\Δ₁ M1/\TD Δ₂ M2 M1
def LPE.fst(h:LPE X Δ e te):LPE X (Two Δ Δ') e te:=by
 intro f L s l H Q T I w;obtain⟨M1,M2,rfl,m,i⟩:=T.tb;rw[jc]at I;have d: ∀r∈X.pn++(M2++f),r∈M2\/r∈X.pn++f:=λr a=>by
  rcases jz.mp a with z|z;exact .inr (gc _ z);exact(jz.mp z).imp id (bt _)
 refine L2.thn (h (M2++f) M1 s l H Q ⟨m,λp b r a=>(d r a).elim (λz=>(i.dj r z p b).symm) (T.dj p (gc _ b) r)⟩ I w) λu n j=>?_;obtain⟨g,c,j⟩:=j;refine⟨g++M2,⟨⟨g,M2,rfl,c.tb,i.tb,λp b r a=>(c.dj r a p (bt _ (gc _ b))).symm⟩,λp b r a=>?_⟩,by rwa [jc]⟩;rcases jz.mp b with z|z;exact c.dj p z r ((jz.mp a).elim (gc _) λy=>bt _ (bt _ y));exact T.dj p (bt _ z) r a
def LPE.snd(h:LPE X Δ e te):LPE X (Two Δ' Δ) e te:=by intro i L s f H Q T I w;obtain⟨M1,M2,rfl,q,g⟩:=T.tb;have l:Inv X (M2++(M1++i)) f H s:=I.pins_of λp a=>I.pin p (bt _ (by simp only[jz]at a ⊢;rcases a with z|z|z<;>simp[z]));refine L2.thn (h (M1++i) M2 s f H Q ⟨g.tb,λp a r b=>?_⟩ l w) λu t o=>?_;rcases jz.mp b with z|z;exact T.dj p (bt _ a) r (gc _ z);rcases jz.mp z with z|z;exact g.dj p a r z;exact T.dj p (bt _ a) r (bt _ z);obtain⟨d,c,v,n,J,j,m⟩:=o;refine⟨M1++d,⟨⟨M1,d,rfl,q,c.tb,λp a r b=>c.dj p a r (bt _ (gc _ b))⟩,λp a r b=>?_⟩,v,n,J.pins_of λp a=>J.pin p (bt _ (by simp only[jz]at a ⊢;rcases a with (z|z)|z<;>simp[z])),j,m⟩;rcases jz.mp a with z|z;exact T.dj p (gc _ z) r b;exact c.dj p z r ((jz.mp b).elim (gc _) λy=>bt _ (bt _ y))
end
abbrev Mn:=Hp->Hp->VK->(Nat->Hp->Prop)->Prop
noncomputable def exR(F:Fn)(c:Nat):R:=match F [.exc c]with
 |.ok d=>.ok d
 |.ow xs=>.ow xs
 |_=>.bad
def Hm(P:Program)(w:World)(K:mj)(mg:Str->L7 Value)(base:Heap)(ad:Ad)(k:Nat)(fs:L1 Addr)(s:Shared)(G H:Hp)(a:Addr)(Φ:Mn):Prop:=
 ∀(A:Around) (outer:L1 ph) (s1:Shared) (G1 H1:Hp) (Q:VK) (E:XK),Room k A->Step G H G1 H1->Env0 P w K mg base A outer s1 H1->(∀b o,s.heap.get? b=pi o->H b=qb->b∉fs->s1.heap.get? b=pi o/\H1 b=qb)->
  Φ G1 H1 Q (λc H'=>E (.ref (ad.cls c)) qb H')->codeAny (model P w) A (.call (.ref a) ⟨[],[]⟩) (CR (CXe P w) outer P w H1 s1 Q E) s1
def tlM(K:mj)(ad:Ad)(F:Fn)(Φ:Mn)(G H:Hp)(Q:VK):Prop:=
 Φ G H Q λc H'=>xk ad (λc H'=>∃G',Step G H G' H'/\RK K ad G' H' (exR F c) Q λ_ _=>False) (.ref (ad.cls c)) qb H'
def cY(F:Fn):RM->RM
 |.pure r=>.pure (oZ F r)
 |.chg x r=>.chg x r
def K2{K}{ad}{F}(h:RMK K ad A G H p dx d l1 l2 (cY F m) Q λ_ _=>False):tlM K ad F (λG H Q E=>RMK K ad A G H p dx d l1 l2 m Q E) G H Q:=by
 cases m with
 |chg x r=>exact h
 |pure r=>
  cases r with
  |ok d=>exact h
  |ow f=>exact h
  |bad=>exact h
  |ex c=>exact λb e a=>⟨c,rfl,b,a,RK.step (show RK K ad G H (exR F c) Q λ_ _=>False from h) a⟩
section
variable{K:mj}{ad:Ad}{kV:Value}{q1:Str}{F:Fn}{args:Args}
def AM(lk:K.lookup f=pi ⟨oc,od,.func (ni name qual params [kU dn en x cx cp xp ep ap hp' rq np dp rp tp] scope dV kV doc pm an cdv ct),osl⟩)(hcd:ky K cdv qual=qc)(S:FnScope N [dn] scope)(h0:N[0]? =pi dn)(h1:N[1]? =pi en)(hdl:scope.names.lookup dn=pi .local)(hel:scope.names.lookup en=pi .local)(hdd:(dn==("__debug__":Str))=qe)(hdk:(dn==("__classdict__":Str))=qe)(hed:(en==("__debug__":Str))=qe)(hek:(en==("__classdict__":Str))=qe)(hmx:mg x=pi (.ref fa))(hdx:(x==("__debug__":Str))=qe)(hkx:ku K (.ref fa)=qc)(hfx:FnOkQ P w K mg base (CXe P w) kf fa fd [q1] (w6 K ad 1 F))(hbx:dO K fd [q1] [])(hkf:kf<=k)(hmc:mg cx=pi (.ref (ad.cls 0)))(hcb:(cx==("__debug__":Str))=qe)(hx: ∀c,exmOne K (.ref (ad.cls c)) (.ref (ad.cls 0))=pi qc)(hglx: ∀X,X.env.scope=scope->L2.Gl X x)(hglc: ∀X,X.env.scope=scope->L2.Gl X cx)(hr:Room (k+1) A)(e0:Env0 P w K mg base A outer s H)(hb:BindsTo s (ni name qual params [kU dn en x cx cp xp ep ap hp' rq np dp rp tp] scope dV kV doc pm an cdv ct) args [(dn,.ref a)])(hfn:PySem.W.FnAt a s.heap)(hdeed:Hm P w K mg base ad k (frs outer) s G H a Φ)(hG:Same G H)(hq:tlM K ad F Φ G H Q):
  codeAny (model P w) A (.call (.ref f) args) (CR (CXe P w) outer P w H s Q E) s:=by
 have KX:K.In s.heap:=e0.mod.kin.keeps λb o e=>(e0.bs b o e).1;have al:s.heap.NoLimit:=e0.mod.nolimit.keeps λb o e=>(e0.bs b o e).1;have r: ∀y∈[(dn,pf a)],scope.names.lookup y.1=pi .local\/(scope.names.lookup y.1=pi .cell/\((cellsFrom (s.z+1) scope.names []).lookup y.1).isSome=qc):=λy hy=>by
  rw[ip.mp hy];exact .inl hdl
 refine codeAny_call_function hr.depth (KX _ _ lk) rfl S.co S.gen rfl (ij KX hcd) (hb _ _ _ _ ?_);refine wpAny_newFunctionEnv_cells S.kind r λenv he C y=>?_;subst he;refine⟨al.keeps y.toInCall.keep,codeAny_func ?_⟩;let X:=kN (CXe P w) P w K mg base N qual scope f cdv A outer s H E;have I:Inv X [] (start N [.ref a]) H C:=gE (vs:=[.ref a]) (us:=[.ref a]) (ps:=[dn]) S hr.hd e0 rfl (.cons rfl .nil) y;have hk:=y.toInCall.keep;let p:Ends:={nx:=λ_ j=>Q .non j,rt:=Q};have U:wpAny (model P w) X.A (execs [kU dn en x cx cp xp ep ap hp' rq np dp rp tp] X.env) (SP X [] p) X.xe C:=by
  let hd:ExceptHandler:=.ExceptHandler (pi (.Name cx cp)) (pi en) [.Return (pi (.Call (.Name x xp) [.Name en ep] [] ap)) rq] hp';have I':Inv (tX X [] p hd) [] (start N [.ref a]) H C:=Nb I;refine wpAny_execs_cons (L2.thn (Q:=SP X [] p) (wpAny_Try_except ?_) λL s2 l=>?_);show wpAny (model P w) (tX X [] p hd).A (execs _ (tX X [] p hd).env) _ (tX X [] p hd).xe C;refine wpAny_execs_cons (wpAny_Return_some (wpAny_Call_Name_kw ?_));obtain⟨m5,ar,Z⟩:=I.loc;obtain⟨u5,r5,l5⟩:=Z 0 dn (.ref a) h0 rfl (.inl hdl);cases (show u5=pf a from r5);have ag:m5 dn=pi (.ref a):=by
   have hk:X.env.kindOf dn=pi .local:=hdl;rcases l5 with ⟨_,e⟩|⟨k,_⟩;exact e;rcases k with k|k<;>(rw[hk]at k;cases k)
  refine wpAny_Name (wpAny_loadName_local I.ok.kind hdl ar ag ?_) hdd;have T:PySem.W.FnAt a C.heap:=by
   obtain⟨oc,od,fd,sl,e⟩:=hfn;exact⟨oc,od,fd,sl,hk _ _ e⟩
  refine PySem.W.callWith_F0 T (wpAny_call ?_);refine codeAny_mono (hdeed (tX X [] p hd).A (tX X [] p hd).stack C G H Q (xk ad λc j=>∃z,Step G H z j/\RK K ad z j (exR F c) Q λ_ _=>False) (hr.deeper _) (Step.refl hG) I'.env0 (λb o e n _=>⟨hk b o e,n⟩) hq) λab s2 g=>?_;cases ab with
  |error e=>
   obtain⟨t,cls,a0,j,B,rfl,ho,ak,Y,un,hok,ne,c8,c9,c,rfl,z,st,am⟩:=g;have st2:Step z j (upd z t (Eb (ad.cls c) t)) (upd j t (Eb (ad.cls c) t)):=Step.new st.gh ne;refine xH (X:=X) (i:=1) (kf:=kf) (fa:=fa) (F:=F) (fd:=fd) (q1:=q1) ⟨rfl,rfl,rfl⟩ S.nd h1 hel hek (hglx X rfl) hmx hdx hkx hfx hbx (λv=>⟨?_,?_⟩) (hglc X rfl) hmc hcb hed (hx c) I ho ak Y un hok ne c8 c9 ⟨upd z t (Eb (ad.cls c) t),(st.trans st2).gh,?_,?_⟩;have:=(hr.deeper X.env).dp;show X.A.depth+3*kf+5<_;have e:X.A=A.deeper X.env:=rfl;rw[e];lia;have:=(hr.deeper X.env).un;show X.A.units+16*kf+200<_;have e:X.A=A.deeper X.env:=rfl;rw[e];lia;unfold Rep;exact⟨t,rfl,aD⟩;have h:RK K ad _ _ (match F [.exc c]with|.ok d=>.ok d|.ow xs=>.ow xs|_=>.bad) Q λ_ _=>False:=RK.step am st2;cases e:F [.exc c]with
   |ok d=>rw[e]at h;exact h
   |ow xs=>rw[e]at h;exact h
   |ex c'=>rw[e]at h;exact h.elim
   |bad=>rw[e]at h;exact h.elim
  |ok L=>
   cases L with
   |next=>exact ba g
   |brk=>exact ba g
   |cont=>exact ba g
   |ret u=>
    obtain⟨v,j,J,O,q⟩:=Inv.after I' g;exact⟨v,_,j,Ke J,O,q⟩
  cases L with
  |next=>exact wpAny_execs_nil l
  |brk=>exact l
  |cont=>exact l
  |ret u=>exact l
 refine wpAny_mono U (λL s' l=>?_) λe s' l=>l;have M: ∀{m:St} {j:Hp} {v:V} {u:Value},Inv X [] m j s'->bJ v u->Q v j->CE outer P w H s Q u s':=
  λ{m j v u} J O q=>⟨v,j,J.os,J.bare,J.base,J.hok,O,q⟩
 cases L with
 |ret u=>
  obtain⟨v,m,j,J,O,q⟩:=l;exact M J O q
 |next=>
  obtain⟨m,j,J,q⟩:=l;exact M (v:=V.non) (u:=oq) J rfl q
 |brk=>
  obtain⟨_,_,_,q⟩:=l;exact ba q
 |cont=>
  obtain⟨_,_,_,q⟩:=l;exact ba q
end
def TbL(P:Addr)(q:Str)(L:Pl):Prop:= ∃ps cs,L=(P,k8 ps)::cs/\Tb P q ps cs
noncomputable def sE:L7 SK.Slot->L7 SK.Slot
 |some (.sh d)=>pi (.sh d)
 |some (.rk C r)=>pi (.rk C r)
 |_=>qb
def Dg(cs:L1 Nat)(ρ:Rho):L7 (L1 SK.Slot):=eG (λi=>sE ρ[i]?) cs
def SL.cons0{K}{ad}(h:SL K ad G H ρ σ)(h0:SLi K ad G H s ov):SL K ad G H (s::ρ) (ov::σ):=
 ⟨by simp[h.len],λi a e=>by
  cases i with
  |zero=>cases e;exact⟨ov,rfl,h0⟩
  |succ i=>exact h.at_ i a e⟩
theorem v8{K}{ad}{G H}{ρ}{σ}(hS:SL K ad G H ρ σ): ∀{cs} {sl},Dg cs ρ=pi sl->
  ∃vs:L1 V,vs.length=cs.length/\SL K ad G H sl (vs.map pi)/\∀(i j:Nat) v,cs[i]? =pi j->vs[i]? =pi v->σ[j]? =pi (pi v)
 |[],sl,h=>by
  cases h;exact⟨[],rfl,⟨rfl,λi s e=>by cases e⟩,λi j v h=>by cases h⟩
 |c::cs,sl,h=>by
  unfold Dg eG at h;rcases e:ρ[c]? with _|a;rw[e]at h;cases h;rw[e]at h;have f: ∀(v:V),sE (pi a)=pi a->σ[c]? =pi (pi v)->SLi K ad G H a (pi v)->(eG (λi=>sE ρ[i]?) cs).map (a:: ·)=pi sl->∃vs:L1 V,vs.length=(c::cs).length/\SL K ad G H sl (vs.map pi)/\∀(i j:Nat) (v:V),(c::cs)[i]? =pi j->vs[i]? =pi v->σ[j]? =pi (pi v):=λv _ b t h=>by
   obtain⟨r,B,y⟩:=zMd h;subst y;obtain⟨vs,l,x,u⟩:=v8 hS (cs:=cs) (sl:=r) B;refine⟨v::vs,by simp[l],x.cons0 t,λi j w o m=>?_⟩;cases i with
   |zero=>cases o;cases m;exact b
   |succ i=>exact u i j w o m
  cases a with
  |sh d=>
   obtain⟨v,b,g⟩:=hS.sh e;exact f v rfl b ⟨v,rfl,g⟩ h
  |rk C r=>
   refine gzq λRz ez=>?_;obtain⟨p,z,d,q,A,b,g⟩:=hS.rk e;subst ez;exact f (.ref p) rfl b ⟨p,z,d,q,A,rfl,g⟩ h
  |no=>cases h
  |ow n=>cases h
  |dc n=>cases h
  |sd n=>cases h
def mC(P:Program)(w:World)(K:mj)(mg:Str->L7 Value)(base:Heap)(ad:Ad)(k:Nat)(f:Addr)(fd:FuncData)(dn:Str)(F:Fn):Prop:=
 ∀(A:Around) (outer:L1 ph) (s:Shared) (G H:Hp) (a:Addr) (Φ:Mn) (Q:VK) (E:XK) (args:Args),Room (k+1) A->Env0 P w K mg base A outer s H->BindsTo s fd args [(dn,.ref a)]->PySem.W.FnAt a s.heap->H a=qb->a∉frs outer->Hm P w K mg base ad k (frs outer) s G H a Φ->Same G H->
  tlM K ad F Φ G H Q->codeAny (model P w) A (.call (.ref f) args) (CR (CXe P w) outer P w H s Q E) s
section
variable{σ:St}{lp:Pos}{ad:Ad}{F:Fn}{tb:Cx->TE}
def Dh(hfn: ∀x,X.fn x=qc)(hg:L2.Gl X tn)(hm:X.mg tn=pi (.ref ft))(hdb:(tn==("__debug__":Str))=qe)(hk:ku X.K (.ref ft)=qc)(hT:mC X.prog X.w X.K X.mg X.base ad k.succ ft fd dn F)(hr:Room (k+2) X.A)(hb: ∀s u,X.K.In s.heap->BindsTo s fd ⟨[u],[]⟩ [(dn,u)])(hx:P∈X.ex)(hpar:defaultsOf params X.env=([],[]))(hq:X.env.qual++"<lambda>"=q)(hfree: ∀x,(x,l0)∈sc.names->X.env.kindOf x=pi .cell\/X.env.kindOf x=pi .free)(hcode:X.env.code= .ref c)(hC:lf s.heap c P)(hB:s.heap.BuiltinsAt X.mg P)(S:LamSc (bF sc) sc)(hbind: ∀cl pm cd ct,bindArgs (lg "<lambda>" q params body sc cl pm cd ct) ⟨[],[]⟩=pure [])(hcl:cap.length=(bF sc).length)(hcap: ∀(i:Nat) x,(bF sc)[i]? =pi x->∃j,cap[i]? =pi j/\X.N[j]? =pi x/\(X.env.kindOf x=pi .cell\/X.env.kindOf x=pi .free))(hbody: ∀a cd cl A outer s H E,Room k (A.deeper (EL q sc s.z a cd cl))->PE (cxL (CXe X.prog X.w) X.prog X.w X.K X.mg X.base (bF sc) q sc a cd cl A outer s H E) body (tb (cxL (CXe X.prog X.w) X.prog X.w X.K X.mg X.base (bF sc) q sc a cd cl A outer s H E)))(T:TD (TbL P q) L (X.pn++cc))(I:Inv X (L++cc) σ H s)(hG:Same G H)(hS:SL X.K ad G H ρ σ)(hcd:Dg cap ρ=pi ds)(htb: ∀Y (vs:L1 V) G1 H1 Q1 E1,Y.K=X.K->DefX Y E1->Same G1 H1->Step G H G1 H1->SL X.K ad G1 H1 ds (vs.map pi)->(∀(i j:Nat) v,cap[i]? =pi j->vs[i]? =pi v->σ[j]? =pi (pi v))->Φ G1 H1 Q1 (λc H'=>E1 (.ref (ad.cls c)) qb H')->tb Y (vs.map pi) H1 Q1)(hrk:tlM X.K ad F Φ G H Q):
  X.wp (eval (.Call (.Name tn p) [.Lambda params body sc lp] [] cp) X.env) (EPL X (TbL P q) cc σ Q) X.xe s:=by
 obtain⟨ps,cs,rfl,tb⟩:=T.tb;refine wpAny_Call_Name_kw (fT I hg hm ?_ hdb);refine im (h₀:=X.base) I.ok.mod.kin hk ?_ rfl rfl;refine ii (AF I tb hx (λp hp=>(T.dj _ (.head _) p hp).symm) hpar hq hfree hcode hC hB λa ag al cv bl s' n T' bb new g C ap a5 be=>i4 ⟨n.kIn,?_⟩)
 obtain⟨vs,a6,a3,ak⟩:=v8 hS hcd
 have a0:TD (TbL P q) ((P,k8 ag)::al) (X.pn++cc):=⟨⟨ag,al,rfl,T'⟩,λp hp r hr=>by
  rcases av.mp hp with z|hp
  .rw[z];exact T.dj (P,k8 ps) (.head _) r hr
  .rcases new p hp with z|z
   .exact T.dj p (.tail _ z) r hr
   .have a7:r∈X.pn++((P,k8 ps)::cs++cc):=by
     rcases jz.mp hr with y|y
     .exact gc _ y
     .exact bt _ (bt _ y)
    exact ng (bg (ah (I.pin r a7).1) z)⟩
 have f: ∀x d,(lQ X.env.cells sc.names []).lookup x=pi d->(x,l0)∈sc.names/\X.env.cells.lookup x=pi d:=λx d e=>by
  rcases kQ e with ⟨k,U,h2,h3⟩|h
  .subst h2;refine⟨U,?_⟩;obtain⟨c',an⟩:=I.ok.has x (hfree x U);rw[an]at h3;rw[h3];exact an
  .cases h
 have O: ∀x,sc.names.lookup x=pi .free->∃d,(lQ X.env.cells sc.names []).lookup x=pi d:=λx e=>dz.mp (kR (cells:=X.env.cells) (acc:=[]) (gy e))
 have B: ∀b,b≠X.env.locals->b∉X.fs->b∉frs X.stack:=λb n1 n2 z=>by
  rcases I.ok.stk with e|⟨e,e2⟩
  .rw[e]at z;exact n2 z
  .rw[e]at z;unfold frs at z;rw[gj,e2]at z;rcases av.mp z with y|y
   .exact n1 y
   .exact n2 y
 have Z:Hm X.prog X.w X.K X.mg X.base ad k.succ (frs X.stack) s' G H a Φ:=by
  intro A outer s1 G1 H1 Q1 E1 hR st1 e0 t ar
  have ab: ∀x d,X.env.cells.lookup x=pi d->d∉frs X.stack:=λx d M=>by
   refine B d (λz=>?_) (λz=>?_)
   .refine gzq λRz ez=>?_;obtain⟨v,o,J,l⟩:=n.cell x d M;obtain⟨m,⟨o2,es,ep,e3,as,_⟩,_⟩:=n.loc;subst ez;rw[z,e3]at J;cases J;rw[as]at l;cases l
   .exact absurd (I.ok.cab x d (hfn x) M) (Nat.not_le.mpr (let ⟨o,J⟩:=(I.ok.funs.mem z).2;ah J.1))
  have Tx:DefX (cxL (CXe X.prog X.w) X.prog X.w X.K X.mg X.base (bF sc) q sc a cv (lQ X.env.cells sc.names []) A outer s1 H1 E1) E1:=⟨rfl,rfl,rfl,λe s' h=>h⟩
  obtain⟨c',rfl,a4,a1,a2⟩:=a5;refine Hi (vs:=vs) S (t _ _ C (I.hok.fresh g) (B a (ng (bg I.lt g)) (I.nofs g))).1 (ap.at λo e=>(t _ _ e a4 (B c' a1 a2)).1) (hbind _ _ _ _) hR e0 (λx y d U h2=>I.ok.inj x y d (f x d U).2 (f y d h2).2) O (λx d h=>?_) (by rw[a6,hcl]) (λi x v U h2 h3=>?_) ⟨_,hbody a _ _ A outer s1 H1 E1 (hR.deeper _),htb _ vs G1 H1 Q1 E1 rfl Tx st1.gh st1 (a3.step st1) ak ar⟩
  .obtain⟨v,o,J,M⟩:=n.cell x d (f x d h).2;have kk:=t _ _ J (n.freeC x d (f x d h).2) (ab x d (f x d h).2);exact⟨⟨v,o,kk.1,M⟩,kk.2⟩
  .obtain⟨j,e1,e2,e3⟩:=hcap i x U;have e4:=ak i j v e1 h2;obtain⟨m,hn,hl⟩:=n.loc;obtain⟨u,ru,lu⟩:=hl j x v e2 e4 (by rcases e3 with z|z<;>first|exact .inr (.inl z)|exact .inr (.inr z))
   rcases lu with ⟨z,_⟩|⟨_,d,M,o,J,am⟩
   .rcases e3 with y|y<;>(rw[z]at y;cases y)
   .obtain⟨d',l⟩:=O x h3
    have:=(f x d' l).2
    rw[M]at this;cases this;exact⟨u,d,ru,l,o,(t _ _ J (n.freeC x d M) (ab x d M)).1,am⟩
 refine wpAny_call (codeAny_mono (hT X.A X.stack s' G H a _ Q (λ_ _ _=>False) ⟨[.ref a],[]⟩ hr n.env0 (hb s' _ n.kIn) ⟨_,_,_,_,C⟩ (I.hok.fresh g) (B a (ng (bg I.lt g)) (I.nofs g)) Z hG hrk) λr s2 hq=>?_)
 cases r with
 |error e=>refine gzq λRz ez=>?_;obtain⟨_,_,_,_,_,_,_,_,_,_,_,_,_,_,z⟩:=hq;subst ez;exact z.elim
 |ok fl=>
  cases fl with
  |ret u=>exact⟨_,a0,n.after hq⟩
  |next=>exact ba hq
  |brk=>exact ba hq
  |cont=>exact ba hq
end
noncomputable def Hn(a:Arguments):Bool:=a.posonlyargs.isEmpty&&a.args.isEmpty&&a.vararg.isNone&&a.kwonlyargs.isEmpty&&a.kw_defaults.isEmpty&&a.kwarg.isNone&&a.defaults.isEmpty
def Di(h:Hn a=qc):a=⟨[],[],qb,[],[],qb,[]⟩:=by obtain⟨q,p,l,m,n,j,o⟩:=a;unfold Hn at h;simp only[aw,ju,dy]at h;obtain⟨⟨⟨⟨⟨⟨g,e⟩,b⟩,f⟩,d⟩,c⟩,i⟩:=h;subst g e b f d c i;rfl
def Dj(sc:Scope):Bool:=sc.kind== .function&& !sc.isCoroutine&& !sc.isGenerator&&sc.names.all (λp=>p.2 != .cell&&p.2 != .local)&&decide (bF sc).Nodup&&(bF sc).all (λx=> !(x==("__debug__":Str))&& !(x==("__classdict__":Str)))
def sF(h:Dj sc=qc):LamSc (bF sc) sc/\(bF sc).Nodup/\∀x∈bF sc,(x==("__debug__":Str))=qe/\(x==("__classdict__":Str))=qe:=by
 unfold Dj at h;simp only[aw]at h;obtain⟨⟨⟨⟨⟨i,f⟩,b⟩,g⟩,e⟩,c⟩:=h;have all: ∀p∈sc.names,p.2≠ .cell/\p.2≠ .local:=λp d=>by
  have:=zAd g p d;simpa using this
 refine⟨⟨by simpa using i,by simpa using f,by simpa using b,λx a=>(all x a).1,λx z=>(all _ (gy z)).2 rfl⟩,of_decide_eq_true e,λx a=>?_⟩;have:=zAd c x a;simpa using this
section
variable{K:Frag}{ad:Ad}{tab:L1 (Str×SK.Gl)}
def OU(B:ExcK K ad)(TB:eB P w K mg base ad k tab)(FB:gB P w K mg base ad k fns)(hs:Dj sc=qc)(hr:Room k (A.deeper (EL q sc s.z a cd cl))):
  CtxOk (cxL (CXe P w) P w K mg base (bF sc) q sc a cd cl A outer s H E) ad ⟨tab,fns,sc,bF sc,[]⟩:=by
 obtain⟨S,C,nm⟩:=sF hs;refine⟨rfl,C,λx i e=>?_,λx e=>e,λx g e=>?_,λx i e=>(eP e).2,rfl,?_,hr.hd,B.exc,B.kin,B.kve,λj m y e=>?_⟩;obtain⟨v,z⟩:=lV e;have m:=lU v;exact⟨fY v,z,(nm x m).1,(nm x m).2⟩;obtain⟨a,b⟩:=TB x g e;refine⟨a,?_⟩;cases g with
 |fn j m y=>
  refine gzq λRz ez=>?_;obtain⟨u,L,o,l,h,t,G⟩:=b;subst ez;exact⟨u,L,⟨l,h,t⟩,hr.mono o,G⟩
 |exc c=>exact b
 |verr=>exact b
 |val d=>exact b
 |tbl J=>exact b
 |py p=>exact b
 |cls A N=>exact⟨b.1,b.2.1,λm n M I=>let ⟨no,f,r,fd,ps,o,l,h,t⟩:=b.2.2 m n M I;⟨no,f,r,fd,ps,l,h,hr.mono o,t⟩⟩
 exact ir (ib (by decide:62<=64) _) hr.units;obtain⟨u,o,l,h⟩:=FB j m y e;exact⟨u,⟨l,h⟩,hr.mono o⟩
end
noncomputable def Oh:Expr->L7 (Arguments×Expr×Scope)
 |.Lambda ps body sc _=>pi (ps,body,sc)
 |_=>qb
def Ho(h:Oh e=pi (ps,body,sc)): ∃p,e= .Lambda ps body sc p:=by cases e<;>first|(cases h;exact⟨_,rfl⟩)|(cases h;done)
theorem uB{α β}{f:α->L7 β}: ∀{l} {r},eG f l=pi r->∀(i:Nat) a,l[i]? =pi a->∃b,r[i]? =pi b/\f a=pi b
 |[],_,_,i,a,h=>by cases h
 |x::l,r,h,i,a,ha=>by
  unfold eG at h;rcases e:f x with _|y;rw[e]at h;cases h;rw[e]at h;obtain⟨g,c,d⟩:=zMd h;subst d;cases i with
  |zero=>cases ha;exact⟨y,rfl,e⟩
  |succ i=>exact uB c i a ha
noncomputable def cxP(Ps:L1 Addr)(X:Cx):Cx:={X with ex:=Ps}
def Nv(u:Un fs [] H H' h h'):Un fs ex H H' h h':=
 ⟨λb o e n f _=>u.keep b o e n f (by simp),λb o e n f _=>u.slot b o e n f (by simp),λb o e n _=>u.free b o e n (by simp),λb o e _=>u.there b o e (by simp),u.tups,u.frzs,u.tbls⟩
section
variable{Ps:L1 Addr}{σ:St}
def K3(I:Inv X [] σ H s)(hex:X.ex=[])(hP: ∀P∈Ps,P<X.s₀.z/\X.base.get? P=qb/\P∉X.fs)(hcell: ∀x c,X.env.cells.lookup x=pi c->X.s₀.z<=c):Inv (cxP Ps X) [] σ H s:=by refine⟨⟨I.ok.mod,I.ok.kind,I.ok.glob,I.ok.blt,I.ok.above,I.ok.inj,I.ok.has,I.ok.cab,I.ok.hd,I.ok.frames,I.ok.stk,λb a=>?_,I.ok.bs,I.ok.bsz,λb o e a=>?_,λb a=>(hP b a).2.2,I.ok.funs,I.ok.frf⟩,I.os,I.bare,?_,I.loc,I.cell,I.free,I.freeC,I.pin,I.hok,I.len⟩;exact⟨bh (bg (hP b a).1 I.ok.above),λx c h z=>absurd (bg (hP b a).1 (hcell x c h)) (by rw[z];exact lj _)⟩;have d:X.base.get? b=pi o:=e;rw[(hP b a).2.1]at d;cases d;have u:=I.base;rw[hex]at u;exact Nv u
end
def EQ:Tb P0 q #[] []:=⟨trivial,(λb c h=>by cases h),(λp a=>by cases a)⟩
structure Td where
 dn:Str
 en:Str
 x:Str
 cx:Str
def Nw(t:Td)(sc:Scope):Bool:=bW (aC sc) [t.dn] sc&&aC sc==[t.dn,t.en]&&sc.names.lookup t.dn==pi .local&&sc.names.lookup t.en==pi .local&&sc.names.lookup t.x==pi .globalImplicit&&sc.names.lookup t.cx==pi .globalImplicit&&
 !(t.x==("__debug__":Str))&& !(t.cx==("__debug__":Str))
def v9{F}: ∀r c,oZ F r≠ .ex c:=λr c z=>by
 unfold oZ at z;cases r with
 |ok d=>cases z
 |ow b=>cases z
 |bad=>cases z
 |ex a=>
  simp only at z;split at z<;>cases z
noncomputable def defBody:Stmt->L1 Stmt
 |.FunctionDef _ _ b _ _ _ _ _ _ _=>b
 |_=>[]
noncomputable def Nx:Stmt->L7 Scope
 |.FunctionDef _ _ _ _ _ _ sc _ _ _=>pi sc
 |_=>qb
def StOk.P{ad}(O:StOk X ad C):StOk (cxP Ps X) ad C:=by
 refine⟨⟨O.cx.N,O.cx.nd,O.cx.vis,O.cx.gk,λx g e=>⟨(O.cx.gt x g e).1,?_⟩,O.cx.cap,O.cx.calm,O.cx.un,O.cx.hd,O.cx.exc,O.cx.kin,O.cx.kve,λj n F e=>?_⟩,O.fn,O.sc,O.lc,O.exm,O.exi⟩;have h:=(O.cx.gt x g e).2;cases g with
 |fn k n f=>obtain⟨r,s,⟨i,b,a⟩,o⟩:=h;exact⟨r,s,⟨i,b,a⟩,o⟩
 |cls A t=>obtain⟨i,b,a⟩:=h;exact⟨i,b,λm n M l=>let ⟨no,f,r,fd,ps,z1,z2,z3,z4⟩:=a m n M l;⟨no,f,r,fd,ps,z1,z2,z3,z4⟩⟩
 |exc c=>exact h
 |verr=>exact h
 |val d=>exact h
 |tbl q=>exact h
 |py p=>exact h
 obtain⟨r,⟨i,b⟩,a⟩:=O.cx.fnv j n F e;exact⟨r,⟨i,b⟩,a⟩
def sH(L:Pl)(h:Heap)(H:Hp)(fs:L1 Addr):Prop:= ∀p∈L,h.get? p.1=pi p.2/\H p.1=qb/\p.1∉fs/\∀v,p.2.data≠ .cell v
section
variable{K:Frag}{kV:Value}{args:Args}
def Dk(lk:K.lookup fa=pi ⟨oc,od,.func (ni name qual params body scope dV kV doc pm an (.ref c) ct),osl⟩)(hcd:ky K (.ref c) qual=qc)(S:FnScope N prs scope)(hr:Room (k+1) A)(e0:Env0 P w K mg base A outer s H)(hb:BindsTo s (ni name qual params body scope dV kV doc pm an (.ref c) ct) args (prs.zip us))(hl:vs.length=prs.length)(rv:b9 vs us)(pk:sH (L++pl) s.heap H (frs outer))(T0:TD (TbL P0 q) L pl)(hbP:base.get? P0=qb)(hbody:o7 (cxP [P0] (kN (CXe P w) P w K mg base N qual scope fa (.ref c) A outer s H λ_ _ _=>False)) (TbL P0 q) body t)(ht:t ⟨λ_ _=>False,Q,λ_ _=>False,λ_ _=>False⟩ (start N vs) H):
  codeAny (model P w) A (.call (.ref fa) args) (λr s'=>∃u v H' L',r= .ok (.ret u)/\s'.os=s.os/\AllBare s'.gens/\Un (frs outer) [P0] H H' s.heap s'.heap/\HOk P w H' s'.heap/\bJ v u/\Q v H'/\sH (L'++pl) s'.heap H' (frs outer)/\TD (TbL P0 q) L' pl) s:=by
 obtain⟨ps,cs,M,tb⟩:=T0.tb;have C:=pk (P0,k8 ps) (gc _ (by rw[M];exact .head _));have E:K.In s.heap:=e0.mod.kin.keeps λb o e=>(e0.bs b o e).1;have j:s.heap.NoLimit:=e0.mod.nolimit.keeps λb o e=>(e0.bs b o e).1;have ab:us.length=prs.length:=by rw[<-hl];exact rv.length.symm
 have g: ∀y∈prs.zip us,scope.names.lookup y.1=pi .local\/(scope.names.lookup y.1=pi .cell/\((cellsFrom (s.z+1) scope.names []).lookup y.1).isSome=qc):=λy G=>by
  rcases S.par y.1 (kd G).1 with z|z;exact .inl z;exact .inr ⟨z,e7 _ _ _ (.inl z)⟩
 let X:=kN (CXe P w) P w K mg base N qual scope fa (.ref c) A outer s H λ_ _ _=>False;refine codeAny_call_function hr.depth (E _ _ lk) rfl S.co S.gen rfl (ij E hcd) (hb _ _ _ _ ?_);refine wpAny_newFunctionEnv_cells S.kind g λad he i y=>?_;subst he;refine⟨j.keeps y.toInCall.keep,codeAny_func ?_⟩;have hk:=y.toInCall.keep;have I0:Inv X [] (start N vs) H i:=gE S hr.hd e0 hl rv y;have I1:Inv (cxP [P0] X) [] (start N vs) H i:=K3 I0 rfl (λP hP=>by
  rw[ip.mp hP];exact⟨ah C.1,hbP,C.2.2.1⟩) λz d h=>mr (y.above z d (gy h))
 have O:Inv (cxP [P0] X) (L++pl) (start N vs) H i:=I1.pins_of λp n=>by
  obtain⟨x,Z,U,a4⟩:=pk p n;exact⟨hk _ _ x,Z,bh (ah x),U,a4⟩
 refine wpAny_mono (hbody pl L i _ H _ T0 O ht) (λY s' f=>?_) λe s' f=>?_;obtain⟨L',T,f⟩:=f;cases Y with
 |next=>obtain⟨_,_,_,z⟩:=f;exact z.elim
 |brk=>obtain⟨_,_,_,z⟩:=f;exact z.elim
 |cont=>obtain⟨_,_,_,z⟩:=f;exact z.elim
 |ret u=>
  obtain⟨v,I,H',J,l,qv⟩:=f;exact⟨u,v,H',L',rfl,J.os,J.bare,J.base,J.hok,l,qv,λp n=>let t:=J.pin p (bt _ n);⟨t.1,t.2.1,t.2.2.2.1,t.2.2.2.2⟩,T⟩
 have no: ∀(e:Value) (a:Shared),CXe P w outer H s (λ_ _ _=>False) e a->False:=λe a z=>by
  refine gzq λRz ez=>?_;obtain⟨_,_,_,_,_,_,_,_,_,_,_,_,_,_,z⟩:=z;subst ez;exact z
 have m:wpAny (model P w) (A.deeper (envOfC qual scope s.z fa (.ref c))) (leaving (envOfC qual scope s.z fa (.ref c)) e) (λ_ a=>CXe P w outer H s (λ_ _ _=>False) e a) (λB a=>CXe P w outer H s (λ_ _ _=>False) B a) s':=f;exact wpAny_mono m (λ_ a z=>(no _ _ z).elim) λB a z=>(no _ _ z).elim
end
def Hq(X:Cx)(ad:Ad)(A n:Nat)(P0:Addr)(q:Str)(k:Nat)(fa:Addr)(fd:FuncData)(prs:L1 Str)(M:FM):Prop:=
 ∀(A':Around) (outer:L1 ph) (s:Shared) (G H:Hp) (p0 dx d l1 l2:Addr) (r:Rk) (ds:L1 D) (ws:L1 V) (us:L1 Value) (args:Args) (L pl:Pl) (Q:VK),Room k A'->Env0 X.prog X.w X.K X.mg X.base A' outer s H->BindsTo s fd args (prs.zip us)->b9 (V.ref p0::ws) us->Same G H->RackIn X.K ad A G H p0 r dx d l1 l2->aK X.K ad G ds ws->ds.length=n->
  sH (L++pl) s.heap H (frs outer)->TD (TbL P0 q) L pl->RMK X.K ad A G H p0 dx d l1 l2 (M r ds) Q (λ_ _=>False)->
  codeAny (model X.prog X.w) A' (.call (.ref fa) args) (λr s'=>∃u v H' L',r= .ok (.ret u)/\s'.os=s.os/\AllBare s'.gens/\Un (frs outer) [P0] H H' s.heap s'.heap/\HOk X.prog X.w H' s'.heap/\bJ v u/\Q v H'/\sH (L'++pl) s'.heap H' (frs outer)/\TD (TbL P0 q) L' pl) s
section
variable{ad:Ad}
def Hr(hD:Hq X ad A n P0 q k fa fd prs M)(hr:Room k X.A)(hnx: ∀r ds c,M r ds≠ .pure (.ex c))(hg:L2.Gl X tn)(hm:X.mg tn=pi (.ref fa))(hdb:(tn==("__debug__":Str))=qe)(hk:ku X.K (.ref fa)=qc)(hbd: ∀s us,X.K.In s.heap->us.length=n+1->BindsTo s fd ⟨us,[]⟩ (prs.zip us))(hx:P0∈X.ex)(hstk:X.stack=X.env::X.outer/\X.env.frame=pi X.env.locals)(hN:X.N[i]? =pi x)(hv:Vis X.env.scope x)(hd:(x==("__debug__":Str))=qe)(hcd:(x==("__classdict__":Str))=qe)(ha:MA X ad es fs)(hn:fs.length=n)(hst:starEach (.Name x px::es) X.env=(qe,eval (.Name x px) X.env)::starEach es X.env)(hany:(backTo cp (starEach es X.env)).any (·.1)=qe):
  LPE X (TbL P0 q) (.Call (.Name tn p) (.Name x px::es) [] cp) (mV X ad A i M fs):=by
 rintro cc L s σ H Q T I ⟨G,ρ,E,r,t,dx,d,l1,l2,hG,hS,ar,h1,hR,hA⟩;refine wpAny_Call_Name_kw (fT I hg hm ?_ hdb);refine im (h₀:=X.base) I.ok.mod.kin hk (L2.thn (bI (bO hN hv hd hcd) (ha) hst cp _ s σ H (λB Y=>∃ws ds f,B= .ref t::ws/\Step G H f Y/\aK X.K ad f ds ws/\ds.length=n/\RMK X.K ad A f Y t dx d l1 l2 (M r ds) Q E) I ?_) λus o hz=>?_) hst hany
 .refine⟨.ref t,h1,?_⟩;obtain⟨G',J,E',a1,a2,a3,l⟩:=hA;refine⟨G',J,E',a1,a2,a3,?_⟩;cases e:args fs J with
  |ok ap=>
   rw[e]at l;intro B f Y S Z;obtain⟨ds,G2,b1,b2,b3,b4⟩:=l B f Y S Z;exact⟨B,ds,G2,rfl,b1,b2,b3.trans hn,b4⟩
  |ex c=>rw[e]at l;exact l
  |bad=>rw[e]at l;exact l
 .obtain⟨B,U,j,r2,ws,ds,f,e1,S,Z,hl,m⟩:=hz;subst e1;refine⟨j.kIn,?_⟩;have am: ∀b,b≠X.env.locals->b∉X.fs->b∉frs X.stack:=λb n1 n2 z=>by
   rw[hstk.1]at z;unfold frs at z;rw[gj,hstk.2]at z;rcases av.mp z with y|y
   .exact n1 y
   .exact n2 y
  have pk:sH (L++(X.pn++cc)) o.heap U (frs X.stack):=λp a=>by
   have:=j.pin p (by simp only[jz]at a ⊢;rcases a with z|z|z<;>simp[z]);exact⟨this.1,this.2.1,am _ this.2.2.1 this.2.2.2.1,this.2.2.2.2⟩
  obtain⟨ps,cs,hL,tb⟩:=T.tb;have an:RMK X.K ad A f U t dx d l1 l2 (M r ds) Q (λ_ _=>False):=by
   have:=hnx r ds;cases em:M r ds with
   |chg y r'=>rw[em]at m;exact m
   |pure y=>
    rw[em]at m;cases y with
    |ok y=>exact m
    |ow ys=>exact m
    |ex c=>exact absurd em (this c)
    |bad=>exact m
  have lu:us.length=n+1:=by rw[<-r2.length,bq,Z.length,hl]
  refine wpAny_call (codeAny_mono (hD X.A X.stack o f U t dx d l1 l2 r ds ws us ⟨us,[]⟩ L (X.pn++cc) Q hr j.env0 (hbd o us j.kIn lu) r2 S.gh (hR.step S) Z hl pk T an) λas s' w=>?_);obtain⟨u,v,H',L',rfl,os,C,un,ag,rv,qv,ab,T'⟩:=w;obtain⟨hh,g,dr,tk,al⟩:=s';obtain rfl:al=o.os:=os;have I3:Inv X [] σ U o:=j.pins_of λp a=>by cases a
  have I4:Inv X [] σ H' {o with heap:=hh,gens:=g,drawn:=dr,toks:=tk}:=I3.call (ch:=[P0]) un ag C λb h=>by
   rw[ip.mp h];refine⟨.inl hx,(j.ok.exf P0 hx).1,(j.ok.exf P0 hx).2,λp a=>?_⟩;rw[j3]at a;exact(T.dj (P0,k8 ps) (by rw[hL];exact .head _) p (gc _ a)).symm
  have O: ∀b,b∉frs X.stack->b≠X.env.locals/\b∉X.fs:=λb h=>by
   rw[hstk.1]at h;unfold frs at h;rw[gj,hstk.2]at h;exact⟨λz=>h (by rw[z];exact .head _),λz=>h (.tail _ z)⟩
  refine⟨L',T',v,H',I4.pins_of λp a=>?_,rv,qv⟩;obtain⟨b1,b2,b3,b4⟩:=ab p (by simp only[jz]at a ⊢;rcases a with z|z<;>simp[z]);exact⟨b1,b2,(O _ b3).1,(O _ b3).2,b4⟩
end
abbrev FR:=Rho->RM
def Dl(A i:Nat)(M:FM)(fs:L1 F):FR:=λρ=>match(ρ[i]? :L7 Slot)with
 |some (.rk C r)=>if C=A then(match args fs ρ with
  |.ok ds=>M r ds
  |.ex c=>.pure (.ex c)
  |.bad=>.pure .bad)else .pure .bad
 |_=>.pure .bad
noncomputable def ifM(f:F)(g h:FR):FR:=λρ=>match f ρ with
 |.ok (.bl b)=>if b then g ρ else h ρ
 |.ex c=>.pure (.ex c)
 |_=>.pure .bad
def K4(dE:Expr->L7 F)(A:Nat)(ms:L1 (Str×Nat×FM))(C:SK.Ctx)(e:Expr):L7 FR:=match e with
 |.Call f as kws cp=>if kws.isEmpty then(match f with
  |.Attribute o m ap=>if(ap.endLine==cp.line)=qc then(bY o).bind λ(x,_)=>(loc C x).bind λi=>(ms.lookup m).bind λ(n,M)=>if as.length<20 then(eG dE as).bind λfs=>if fs.length=n then pi (Dl A i M fs)else qb else qb else qb
  |_=>qb)else qb
 |_=>qb
noncomputable def vIf:Expr->L7 (Expr×Expr×Expr)
 |.IfExp c a b _=>pi (c,a,b)
 |_=>qb
noncomputable def Ny(dE:Expr->L7 F)(A:Nat)(ms:L1 (Str×Nat×FM))(C:SK.Ctx)(e:Expr):L7 FR:=match vIf e with
 |some (c,a,b)=>(dE c).bind λf=>(K4 dE A ms C a).bind λg=>(K4 dE A ms C b).map λh=>ifM f g h
 |none=>K4 dE A ms C e
theorem RMK.step{K}{ad}(h:RMK K ad A G H p dx d l1 l2 m Q E)(st:Step G H G1 H1):RMK K ad A G1 H1 p dx d l1 l2 m Q E:=by
 cases m with
 |pure x=>exact RK.step h st
 |chg x r=>
  intro v j n a t l f g;refine h v j n a ⟨st.sg.trans t.sg,t.gh,λb o c e=>t.sh b o c (st.sh _ _ e),λb s i=>?_,λb c=>t.th b λz=>c (st.sh.free z)⟩ l (f.imp id λz=>st.sh.free z) g;rcases q:G1 b with _|o;exact st.sh.free (t.nw b q i);exact st.nw b s (by rw[q];exact λz=>nomatch z)
def tFR(X:Cx)(ad:Ad)(A:Nat)(p0 dx d l1 l2:Addr)(g:FR):TE:=λσ H Q=>∃G ρ E r i,Same G H/\SL X.K ad G H ρ σ/\XP X ad σ E/\ρ[i]? =pi (.rk A r)/\σ[i]? =pi (pi (.ref p0))/\RackIn X.K ad A G H p0 r dx d l1 l2/\(∀(j C:Nat) (r':Rk),ρ[j]? =pi (.rk C r')->j=i)/\RMK X.K ad A G H p0 dx d l1 l2 (g ρ) Q E
section
variable{ad:Ad}{A:Nat}
def uC(hE:sT ad n)(O:CtxOk X ad C)(RC:RkC X.K A)(MO: ∀m n M,ms.lookup m=pi (n,M)->MetOk X ad A m n M)(h:K4 (bZ n C) A ms C e=pi g):PE X e (tFR X ad A p0 dx d l1 l2 g):=by
 unfold K4 at h;split at h;rename_i f as S cp;split at h;rename_i hk;cases ju.mp hk;split at h;rename_i o m ap;split at h;rename_i W;have l:=zBd h;clear h;obtain⟨⟨x,p⟩,h0,h⟩:=l;cases aS h0;have l:=zBd h;clear h;obtain⟨i,h1,h⟩:=l;have l:=zBd h;clear h;obtain⟨⟨T,M⟩,h2,h⟩:=l;obtain⟨L,Z,v3,N⟩:=O.vis x i h1;simp only at h;split at h;rename_i q;have l:=zBd h;clear h;obtain⟨fs,z,h⟩:=l;split at h;rename_i hn;cases h;obtain⟨U,u⟩:=oV hE O z;refine PE.imp (EH RC (MO m T M h2) L Z v3 N U hn (λa r e=>by
  subst e;exact⟨aM (u a (.head _)),g9 λe he=>u e (.tail _ he)⟩) (eL z).symm (oX u q) W) λσ H Q hz=>?_
 obtain⟨G,t,E,r,j,J,B,l,Y,e2,hR,hu,b⟩:=hz;unfold Dl at b;split at b;rename_i w r' v;by_cases I:w=A;rw[if_pos I]at b;have ej:i=j:=hu i w r' v;subst ej;rw[Y]at v;cases v;refine⟨G,t,E,r,p0,dx,d,l1,l2,J,B,l,e2,hR,G,t,E,J,B,l,?_⟩;cases s:args fs t with
 |ok ds=>
  rw[s]at b;exact λvs G1 H1 y rq=>⟨ds,G1,y,rq,gZ s,RMK.step b y⟩
 |ex c=>rw[s]at b;exact b
 |bad=>rw[s]at b;exact b
 rw[if_neg I]at b;exact b.elim;exact b.elim;cases h;cases h;cases h;cases h;cases h;cases h
def K5(h:vIf e=pi (c,a,b)): ∃p,e= .IfExp c a b p:=by cases e<;>first|(cases h;exact⟨_,rfl⟩)|(cases h;done)
def Ht(hE:sT ad n)(O:CtxOk X ad C)(RC:RkC X.K A)(MO: ∀m n M,ms.lookup m=pi (n,M)->MetOk X ad A m n M)(h:Ny (bZ n C) A ms C e=pi g):PE X e (tFR X ad A p0 dx d l1 l2 g):=by
 unfold Ny at h;split at h;rename_i c a b U;obtain⟨N,rfl⟩:=K5 U;have p:=zBd h;clear h;obtain⟨f,W,h⟩:=p;have p:=zBd h;clear h;obtain⟨S,T,h⟩:=p;obtain⟨L,Y,rfl⟩:=zMd h;refine PE.imp (uO (hE X C _ f O W).2.1 (uC (p0:=p0) (dx:=dx) (d:=d) (l1:=l1) (l2:=l2) hE O RC MO T) (uC (p0:=p0) (dx:=dx) (d:=d) (l1:=l1) (l2:=l2) hE O RC MO Y)) λσ H Q Z=>?_;obtain⟨G,s,E,r,i,J,t,p,u,x,w,B,j⟩:=Z;unfold ifM at j;cases q:f s with
 |ok y=>
  rw[q]at j;cases y<;>try exact ba j
  rename_i k;refine⟨G,s,E,J,t,p,.inl ⟨k,q⟩,?_⟩;rw[q];intro v I H1 o z;unfold Rep at z;subst z;refine⟨k,rfl,?_⟩;have l:RMK X.K ad A G H p0 dx d l1 l2 (if k=qc then S s else L s) Q E:=j;cases k;rw[if_neg bf]at l;exact yJ ⟨I,s,E,r,i,o.gh,t.step o,p,u,x,w.step o,B,RMK.step l o⟩;rw[if_pos rfl]at l;exact xR ⟨I,s,E,r,i,o.gh,t.step o,p,u,x,w.step o,B,RMK.step l o⟩
 |ow ys=>rw[q]at j;exact j.elim
 |ex c=>
  rw[q]at j;refine⟨G,s,E,J,t,p,.inr ⟨c,q⟩,?_⟩;rw[q];exact j
 |bad=>rw[q]at j;exact j.elim
 exact uC hE O RC MO h
end
def AN{l:L1 Nat}(h:l.Nodup){i j x:Nat}(a:l[i]? =pi x)(b:l[j]? =pi x):i=j:=by obtain⟨d,a⟩:=ay.mp a;obtain⟨c,b⟩:=ay.mp b;exact(List.getElem_inj h).mp (a.trans b.symm)
structure DidX(X:Cx)(ad:Ad)(C:SK.Ctx)(tn:Str)(F:Fn)(A:Nat)(ms:List (Str×Nat×FM))(P c:Addr)(q:Str)(k:Nat):Prop where
 O:StOk X ad C
 B:ExcK X.K ad
 TB:eB X.prog X.w X.K X.mg X.base ad k C.tab
 FB:gB X.prog X.w X.K X.mg X.base ad k C.fns
 RC:RkC X.K A
 MO: ∀m n M,ms.lookup m=pi (n,M)->(m≠"held"/\m≠"done"/\m≠"undone")/\∃f r fd ps,r<=k/\Meth X.K A m f/\FnOk X.prog X.w X.K X.mg X.base (CXe X.prog X.w) r f fd ps (spM X.K ad A n M)/\dO X.K fd ps []
 told: ∃ft fd dn,X.mg tn=pi (.ref ft)/\ku X.K (.ref ft)=qc/\mC X.prog X.w X.K X.mg X.base ad (k+1) ft fd dn F/\∀(s:Shared) (u:Value),X.K.In s.heap->BindsTo s fd ⟨[u],[]⟩ [(dn,u)]
 tdb:(tn==("__debug__":Str))=qe
 room:Room (k+2) X.A
 ex:P∈X.ex
 ql:X.env.qual++"<lambda>"=q
 code:X.env.code= .ref c
 hC:lf X.base c P
 hB:X.base.BuiltinsAt X.mg P
noncomputable def uD(F:Fn)(cap:L1 Nat)(g:FR):FR:=λρ=>match Dg cap ρ with
 |some sl=>cY F (g sl)
 |none=>.pure .bad
noncomputable def Mf(tn:Str)(A:Nat)(ms:L1 (Str×Nat×FM))(C:SK.Ctx):Expr->L7 (L1 Nat×FR)
 |.Call (.Name x _) [l] [] _=>if x=tn/\C.sc.names.lookup x=pi .globalImplicit then(Oh l).bind λ(ps,body,sc)=>if Hn ps&&Dj sc then(eG (λx=>fK C x) (bF sc)).bind λcap=>(Ny (bZ 50 ⟨C.tab,C.fns,sc,bF sc,[]⟩) A ms ⟨C.tab,C.fns,sc,bF sc,[]⟩ body).map λg=>(cap,g)else qb else qb
 |_=>qb
def AO(tn:Str)(F:Fn)(A:Nat)(ms:L1 (Str×Nat×FM))(C:SK.Ctx)(e:Expr):L7 FR:=(Mf tn A ms C e).bind λ(cap,g)=>if cap.contains 0&&decide cap.Nodup then pi (uD F cap g)else qb
def tF0(X:Cx)(ad:Ad)(A:Nat)(p0 dx d l1 l2:Addr)(g:FR):TE:=λσ H Q=>∃G ρ E r,Same G H/\SL X.K ad G H ρ σ/\XP X ad σ E/\ρ[0]? =pi (.rk A r)/\σ[0]? =pi (pi (.ref p0))/\RackIn X.K ad A G H p0 r dx d l1 l2/\(∀(j C:Nat) (r':Rk),ρ[j]? =pi (.rk C r')->j=0)/\RMK X.K ad A G H p0 dx d l1 l2 (g ρ) Q E
def Hu{K}{ad}{F}(h:RMK K ad A G H p dx d l1 l2 (cY F m) Q E):RMK K ad A G H p dx d l1 l2 (cY F m) Q λ_ _=>False:=by
 cases m with
 |chg x r=>exact h
 |pure r=>
  have a:RK K ad G H (oZ F r) Q E:=h;show RK K ad G H (oZ F r) Q _;cases e:oZ F r with
  |ok d=>rw[e]at a;exact a
  |ow b=>rw[e]at a;exact a
  |ex c=>exact absurd e (v9 r c)
  |bad=>rw[e]at a;exact a
def K6: ∀{cs} {sl},Dg cs ρ=pi sl->∀(i:Nat) s,sl[i]? =pi s->∃j,cs[i]? =pi j/\ρ[j]? =pi s:=by
 intro cs sl h i s e;have b:eG (λi=>sE ρ[i]?) cs=pi sl:=h;induction cs generalizing sl i with
 |nil=>cases b;cases e
 |cons c cs l=>
  unfold eG at b;rcases a:sE ρ[c]? with _|y;rw[a]at b;cases b;rw[a]at b;obtain⟨m,f,g⟩:=zMd b;subst g;cases i with
  |zero=>
   cases e;refine⟨c,rfl,?_⟩;rcases d:ρ[c]? with _|z;rw[d]at a;cases a;rw[d]at a;cases z<;>first|(cases a;rfl)|(cases a;done)
  |succ i=>exact l (sl:=m) (i:=i) f e f
def K7: ∀{cs} {sl},Dg cs ρ=pi sl->∀(i j:Nat),cs[i]? =pi j->∃s,sl[i]? =pi s/\ρ[j]? =pi s:=by intro cs sl h i j e;obtain⟨b,g,d⟩:=uB (f:=λi=>sE ρ[i]?) h i j e;refine⟨b,g,?_⟩;have a:sE ρ[j]? =pi b:=d;rcases c:ρ[j]? with _|z;rw[c]at a;cases a;rw[c]at a;cases z<;>first|(cases a;rfl)|(cases a;done)
section
variable{ad:Ad}{C:SK.Ctx}{tn:Str}{F:Fn}{A:Nat}{ms:L1 (Str×Nat×FM)}{e:Expr}{g:FR}
def ER(L:DidX X ad C tn F A ms P c q k)(h:Mf tn A ms C e=pi (cap,fb)){σ:St}{ρ sl:Rho}(T:TD (TbL P q) L0 (X.pn++cc))(I:Inv X (L0++cc) σ H s)(hG:Same G H)(hS:SL X.K ad G H ρ σ)(hcd:Dg cap ρ=pi sl)(ei:cap[i']? =pi i)(z1:sl[i']? =pi (.rk A r))(es:σ[i]? =pi (pi (.ref p0)))(hR:RackIn X.K ad A G H p0 r dx d l1 l2)(hu: ∀(j C:Nat) r',sl[j]? =pi (.rk C r')->j=i')(hr:RMK X.K ad A G H p0 dx d l1 l2 (cY F (fb sl)) Q E):
  X.wp (eval e X.env) (EPL X (TbL P q) cc σ Q) X.xe s:=by
 unfold Mf at h;split at h;rename_i x p l cp;split at h;rename_i t;obtain⟨rfl,ap⟩:=t;have t:=zBd h;clear h;obtain⟨⟨ps,a0,sc⟩,h0,h⟩:=t;obtain⟨lp,rfl⟩:=Ho h0;simp only at h;split at h;rename_i hp;rw[aw]at hp;obtain⟨ab,u⟩:=hp;cases Di ab;have t:=zBd h;clear h;obtain⟨as,b,h⟩:=t;obtain⟨a1,al,h⟩:=zMd h;cases h;obtain⟨ft,fd,dn,t1,t2,t3,t4⟩:=L.told;have hC:lf s.heap c P:=by
  refine gzq λRz ez=>?_;obtain⟨o,S,J,tf,g,tg,an,y,tt,v,r⟩:=L.hC;subst ez;exact⟨o,S,J,tf,g,tg,an,y,tt,(I.bs _ _ v).1,r⟩
 have hB:s.heap.BuiltinsAt X.mg P:=by
  refine gzq λRz ez=>?_;obtain⟨bm,o,b1,b2,b3,b4,b5,r⟩:=L.hB;subst ez;exact⟨bm,o,b1,b2,b3,b4,(I.bs _ _ b5).1,r⟩
 refine Dh (k:=k) (F:=F) (cap:=cap) (dn:=dn) (fd:=fd) (ad:=ad) (ds:=sl) (Φ:=λG H Q E=>RMK X.K ad A G H p0 dx d l1 l2 (fb sl) Q E) (tb:=λY=>tFR Y ad A p0 dx d l1 l2 fb) L.O.fn (L.O.cx.gk _ ap) t1 L.tdb t2 t3 L.room t4 L.ex rfl L.ql (λx t=>?_) L.code hC hB (sF u).1 (λ_ _ _ _=>rfl) (eL b) (λi x hi=>?_) (λa cd cl A' ar s H E hr=>?_) T I hG hS hcd (λY S G1 H1 Q1 E1 yk am Z st1 z ak ag=>?_) (K2 (Hu hr));obtain⟨j,v⟩:=oM b x (oN t);exact L.O.cx.cap x j v;obtain⟨j,v,e2⟩:=uB b i x hi;refine⟨j,v,?_,L.O.cx.cap x j e2⟩;rw[L.O.cx.N];exact fY (eP e2).1;exact Ht (dY (ad:=ad) 50).1 (OU L.B L.TB L.FB u hr) L.RC (λm n M hm=>let ⟨no,f,r,fd,ps,h1,h2,h3,h4⟩:=L.MO m n M hm;⟨no,f,r,fd,ps,h2,h3,hr.mono h1,h4⟩) al;have lv:(S.map pi).length=sl.length:=z.len.symm;obtain⟨v0,ev⟩: ∃v0,S[i']? =pi v0:=by
  have U:i'<sl.length:=(ay.mp z1).1;rw[<-lv,aq]at U;exact⟨S[i'],bd U⟩
 have e0:=ak i' i v0 ei ev;rw[es]at e0;cases e0;exact⟨G1,sl,(λc H'=>E1 (.ref (ad.cls c)) qb H'),r,i',Z,by rw[yk];exact z,zZ am,z1,by rw[i6,ev];rfl,by rw[yk];exact hR.step st1,hu,by rw[yk];exact ag⟩;cases h;cases h;cases h
def wA(L:DidX X ad C tn F A ms P c q k)(h:AO tn F A ms C e=pi g):LPE X (TbL P q) e (tF0 X ad A p0 dx d l1 l2 g):=by have p:=zBd h;clear h;obtain⟨⟨f,Z⟩,h,l⟩:=p;simp only at l;split at l;rename_i b;rw[aw,decide_eq_true_eq]at b;cases l;rintro cc L0 s W H Q T I ⟨G,v,E,r,O,z,p,J,B,y,N,i⟩;unfold uD at i;rcases a:Dg f v with _|Y;rw[a]at i;exact i.elim;rw[a]at i;obtain⟨m,n⟩: ∃m,f[m]? =pi 0:=List.mem_iff_getElem?.mp (by simpa using b.1);obtain⟨K,u,o⟩:=K7 a m 0 n;rw[J]at o;cases o;refine ER L h T I O z a n u B y (λj w S x=>?_) i;obtain⟨M,t,U⟩:=K6 a j _ x;have:=N M w S U;subst this;exact AN b.2 t n;cases l
noncomputable def rdT(tn:Str)(F:Fn)(A:Nat)(ms:L1 (Str×Nat×FM))(C:SK.Ctx)(e:Expr):L7 (Nat×FM):=(Mf tn A ms C e).bind λ(cap,g)=>match cap with
 |[i]=>pi (i,λr _=>cY F (g [.rk A r]))
 |_=>qb
def K8(L:DidX X ad C tn F A ms P c q k)(h:rdT tn F A ms C e=pi (i,M)):LPE X (TbL P q) e (mV X ad A i M []):=by
 have p:=zBd h;clear h;obtain⟨⟨J,Z⟩,h,b⟩:=p;simp only at b;split at b;cases b;rintro cc L0 s Y H Q T I ⟨G,ρ,E,r,u,U,d,N,B,hG,o,p,l,y,t,O,v,f,_,_,W⟩;obtain⟨ds,G3,g,rq,S,w⟩:=(show AK X.K ad t H (.ok []) _ v from W) [] t H (Step.refl f) aK.nil;have a:i<ρ.length:=by rw[o.len];exact(ay.mp l).1
 have m:=o.step g;have n:=y.step g;refine ER L h (ρ:=ρ.set i (.rk A r)) (sl:=[.rk A r]) (i':=0) T I g.gh ⟨by rw[ke];exact m.len,λj sl e=>?_⟩ (by simp[Dg,eG,sE,a]) rfl rfl l n (λj C' r' x=>?_) w;by_cases z:i=j;subst z;rw[bj a]at e;cases e;exact⟨_,l,u,U,d,N,B,rfl,n⟩;rw[bc z]at e;exact m.at_ j sl e;cases j with
 |zero=>rfl
 |succ j=>cases x
 cases b
end
noncomputable def K9:Stmt->L7 Expr
 |.Return v _=>v
 |_=>qb
noncomputable def Mg:Stmt->L7 (Expr×L1 Stmt×L1 Stmt)
 |.If c a b _=>pi (c,a,b)
 |_=>qb
def dSs(tn:Str)(F:Fn)(A:Nat)(ms:L1 (Str×Nat×FM))(C:SK.Ctx):L1 Stmt->L7 FR
 |[]=>qb
 |s::dZ=>match dZ with
  |[]=>(K9 s).bind λe=>AO tn F A ms C e
  |_::_=>(Mg s).bind λ(c,a,b)=>if b.isEmpty then(JF a).bind λs1=>(K9 s1).bind λe=>(bZ 50 C c).bind λf=>(AO tn F A ms C e).bind λg=>(dSs tn F A ms C dZ).map λh=>ifM f g h else qb
def AQ(h:K9 s=pi e): ∃p,s= .Return (pi e) p:=by cases s<;>first|(cases h;exact⟨_,rfl⟩)|(cases h;done)
def AR(h:Mg s=pi (c,a,b)): ∃p,s= .If c a b p:=by cases s<;>first|(cases h;exact⟨_,rfl⟩)|(cases h;done)
section
variable{X:Cx}{ad:Ad}{C:SK.Ctx}{tn q:Str}{F:Fn}{A:Nat}{ms:L1 (Str×Nat×FM)}{P c:Addr}{k:Nat}{e:Expr}{g:FR}{p0 dx d l1 l2:Addr}{t:TE}
theorem ES(L:DidX X ad C tn F A ms P c q k): ∀{sts} {g},dSs tn F A ms C sts=pi g->o7 X (TbL P q) sts λD σ H=>tF0 X ad A p0 dx d l1 l2 g σ H D.rt
 |[],_,h=>by cases h
 |[s],g,h=>by
  have i:=zBd (show(K9 s).bind (λe=>AO tn F A ms C e)=pi g from h);obtain⟨e,w,z⟩:=i;obtain⟨x,rfl⟩:=AQ w;exact fM (u:=BV) (AL (wA L z)) (o8 kZ)
 |s::s2::dZ,g,h=>by
  have i:=zBd (show(Mg s).bind (λ(c,a,b)=>if b.isEmpty then(JF a).bind λM=>(K9 M).bind λe=>(bZ 50 C c).bind λf=>(AO tn F A ms C e).bind λg=>(dSs tn F A ms C (s2::dZ)).map λh=>ifM f g h else qb)=pi g from h);clear h;obtain⟨⟨cd,a,b⟩,w,h⟩:=i;obtain⟨x,rfl⟩:=AR w;simp only at h;split at h;rename_i W;cases ju.mp W;have i:=zBd h;clear h;obtain⟨M,z,h⟩:=i;cases C4 z;have i:=zBd h;clear h;obtain⟨e,h3,h⟩:=i;obtain⟨rp,rfl⟩:=AQ h3;have i:=zBd h;clear h;obtain⟨f,h4,h⟩:=i;have i:=zBd h;clear h;obtain⟨U,Z,h⟩:=i;obtain⟨g2,Y,rfl⟩:=zMd h;have ih:=ES L Y;refine o7.imp (fM (KZ ((dY (ad:=ad) 50).1 X C _ f L.O.cx h4).2.1 (fM (u:=BV) (AL (wA (p0:=p0) (dx:=dx) (d:=d) (l1:=l1) (l2:=l2) L Z)) (o8 kZ)) (o8 kZ)) ih) λD σ H hz=>?_;obtain⟨G,o,E,r,T,t,i,B,J,I,Q,j⟩:=hz;unfold ifM at j;cases n:f o with
  |ok y=>
   rw[n]at j;cases y<;>try exact ba j
   rename_i p;refine⟨G,o,E,T,t,i,.inl ⟨p,n⟩,?_⟩;rw[n];intro v S H1 m N;unfold Rep at N;subst N;refine⟨p,rfl,?_⟩;have l:RMK X.K ad A G H p0 dx d l1 l2 (if p=qc then U o else g2 o) D.rt E:=j;cases p;rw[if_neg bf]at l;exact yJ ⟨S,o,E,r,m.gh,t.step m,i,B,J,I.step m,Q,RMK.step l m⟩;rw[if_pos rfl]at l;exact xR ⟨S,o,E,r,m.gh,t.step m,i,B,J,I.step m,Q,RMK.step l m⟩
  |ow ys=>rw[n]at j;exact j.elim
  |ex c=>
   rw[n]at j;refine⟨G,o,E,T,t,i,.inr ⟨c,n⟩,?_⟩;rw[n];exact j
  |bad=>rw[n]at j;exact j.elim
  cases h
end
noncomputable def Hv(A N:Nat)(g:FR):FM:=λr ds=>g (.rk A r::(ds.map Slot.sh++ao (N-(ds.length+1)) .no))
section
variable{ad:Ad}{tab:L1 (Str×SK.Gl)}{F:Fn}{A:Nat}{ms:L1 (Str×Nat×FM)}{kV:Value}
def La(B:ExcK X.K ad)(TB:eB X.prog X.w X.K X.mg X.base ad k tab)(FB:gB X.prog X.w X.K X.mg X.base ad k fns)(RC:RkC X.K A)(MO: ∀m n M,ms.lookup m=pi (n,M)->(m≠"held"/\m≠"done"/\m≠"undone")/\∃f r fd ps,r<=k/\Meth X.K A m f/\FnOk X.prog X.w X.K X.mg X.base (CXe X.prog X.w) r f fd ps (spM X.K ad A n M)/\dO X.K fd ps [])(told: ∃ft fd dn,X.mg tn=pi (.ref ft)/\ku X.K (.ref ft)=qc/\mC X.prog X.w X.K X.mg X.base ad (k+1) ft fd dn F/\∀s u,X.K.In s.heap->BindsTo s fd ⟨[u],[]⟩ [(dn,u)])(tdb:(tn==("__debug__":Str))=qe)(hC:lf X.base c P0)(hB:X.base.BuiltinsAt X.mg P0)(hbP:X.base.get? P0=qb)(lk:X.K.lookup fa=pi ⟨oc,od,.func (ni name qual params body sc dV kV doc pm an (.ref c) ct),osl⟩)(hcd:ky X.K (.ref c) qual=qc)(hs:bW (aC sc) (self::prs) sc=qc)(hd:dSs tn F A ms ⟨tab,fns,sc,aC sc,[]⟩ body=pi g):
  Hq X ad A prs.length P0 ((envOfC qual sc 0 fa (.ref c)).qual++"<lambda>") (k+3) fa (ni name qual params body sc dV kV doc pm an (.ref c) ct) (self::prs) (Hv A (aC sc).length g):=by
 intro t a s G H p0 dx d l1 l2 r b i us args L0 pl Q x N l O y v q C Y T J;have S:=(cH hs).1;have h:Room (k+2) (t.deeper (envOfC qual sc s.z fa (.ref c))):=x.deeper _;have L:DidX (cxP [P0] (kN (CXe X.prog X.w) X.prog X.w X.K X.mg X.base (aC sc) qual sc fa (.ref c) t a s H λ_ _ _=>False)) ad ⟨tab,fns,sc,aC sc,[]⟩ tn F A ms P0 c ((envOfC qual sc 0 fa (.ref c)).qual++"<lambda>") k:=
  ⟨(oY B TB FB hs (h.mono (by lia))).P,B,TB,FB,RC,MO,told,tdb,h,.head _,rfl,rfl,hC,hB⟩
 have p:i.length=prs.length:=by rw[q.length,C]
 refine Dk (k:=k+2) lk hcd S x N l (by rw[bq,bq,p]) O Y T hbP (ES (p0:=p0) (dx:=dx) (d:=d) (l1:=l1) (l2:=l2) L hd) ?_;have S0:=i0 (X:=cxP [P0] (kN (CXe X.prog X.w) X.prog X.w X.K X.mg X.base (aC sc) qual sc fa (.ref c) t a s H λ_ _ _=>False)) (ad:=ad) (n:=(aC sc).length-(b.length+1)) y q;have o:L2.start (aC sc) (V.ref p0::i)=pi (V.ref p0)::(i.map pi++ao ((aC sc).length-(b.length+1)) qb):=by
  unfold L2.start;rw[bq,q.length];rfl
 rw[o];have Z:SL X.K ad G H (b.map SK.Slot.sh++ao ((aC sc).length-(b.length+1)) SK.Slot.no) (i.map pi++ao ((aC sc).length-(b.length+1)) qb):=S0.sl;refine⟨G,SK.Slot.rk A r::(b.map SK.Slot.sh++ao ((aC sc).length-(b.length+1)) SK.Slot.no),λ_ _=>False,r,y,SL.cons (s:=.rk A r) (ov:=pi (.ref p0)) Z ⟨p0,dx,d,l1,l2,rfl,v⟩,?_,rfl,rfl,v,λj E r' I=>?_,J⟩;exact λcc H s e s' _ hc=>by
  refine gzq λRz ez=>?_;obtain⟨_,_,_,_,_,_,_,_,_,_,_,_,_,_,_,_,z⟩:=hc;subst ez;exact z.elim
 cases j with
 |zero=>rfl
 |succ j=>
  have U:(b.map Slot.sh++ao ((aC sc).length-(b.length+1)) Slot.no)[j]? =pi (.rk E r'):=I;have m:=List.mem_of_getElem? U;rcases jz.mp m with m|m;obtain⟨d',_,z⟩:=au.mp m;cases z;cases (List.mem_replicate.mp m).2
end
section
variable{K:Frag}{ad:Ad}{q1:Str}{st:Stmt}{F:Fn}
def Dm(Fu:Fun K x0 qual st f fd)(hb: ∃cp xp ep ap hp' rq np dp rp tp,defBody st=[kU t.dn t.en t.x t.cx cp xp ep ap hp' rq np dp rp tp])(hs:(Nx st).map (Nw t)=pi qc)(hmx:mg t.x=pi (.ref fa))(hkx:ku K (.ref fa)=qc)(hfx:FnOkQ P w K mg base (CXe P w) kf fa fdx [q1] (w6 K ad 1 F))(hbx:dO K fdx [q1] [])(hkf:kf<=k)(hmc:mg t.cx=pi (.ref (ad.cls 0)))(B:ExcK K ad):mC P w K mg base ad k f fd t.dn F:=by
 obtain⟨oc,od,kV,O,pm,an,M,ct,L,rfl,lk,l⟩:=Fu.ex;cases st with
 |FunctionDef nm as b dl re tp i ts bi q=>
  obtain⟨cp,xp,ep,ap,hp',rq,np,dp,rp,I,hb⟩:=hb;cases (show b=_ from hb);have g:Nw t i=qc:=jw hs;unfold Nw at g;simp only[aw,jg]at g;obtain⟨⟨⟨⟨⟨⟨⟨J,T⟩,r⟩,v⟩,s5⟩,Y⟩,y⟩,u⟩:=g;have c:aC i=[t.dn,t.en]:=by simpa using T
  obtain⟨S,d⟩:=cH J;intro A n s G H a Φ Q E args U C j m _ _ h Z z;have o:t.dn∈aC i:=by rw[c];simp
  have p:t.en∈aC i:=by rw[c];simp
  exact AM (N:=aC i) lk l S (by rw[c];rfl) (by rw[c];rfl) (bU r) (bU v) (d _ o).1 (d _ o).2 (d _ p).1 (d _ p).2 hmx y hkx hfx hbx hkf hmc u B.exm (λX e=>by show X.env.scope.names.lookup _=_;rw[e];exact bU s5) (λX e=>by show X.env.scope.names.lookup _=_;rw[e];exact bU Y) U C j m h Z z
 |_=>cases hs
end
abbrev LMS(X:Cx)(Δ:Pl->Prop)(ad:Ad)(Z:(St->Nat->Hp->Prop)->Prop)(st:Stmt)(g:FS):Prop:=LPS X Δ st (tS X ad Z g)
abbrev BS(X:Cx)(Δ:Pl->Prop)(ad:Ad)(Z:(St->Nat->Hp->Prop)->Prop)(st:L1 Stmt)(g:FS):Prop:=o7 X Δ st (tS X ad Z g)
section
variable{ad:Ad}{tg:Expr}{st:Stmt}
def AS(a:MS X ad Z st g):LMS X Δ ad Z st g:=EN a
def Dn:BS X Δ ad Z [] aU:=o8 tR
def AT(h1:LMS X Δ ad Z st g)(h2:BS X Δ ad Z sts h):BS X Δ ad Z (st::sts) (aR g h):=by
 refine o7.imp (fM h1 h2) ?_;rintro n o H ⟨d,G,i,E,S,f,a⟩;refine⟨d,G,i,E,S,f,?_⟩;unfold aR at a;cases e:g i with
 |nx b=>rw[e]at a;exact λm l p j=>⟨d,l,b,E,j,f,a⟩
 |bk b=>rw[e]at a;exact a
 |ct b=>rw[e]at a;exact a
 |ex c b=>rw[e]at a;exact a
 |rt r=>
  rw[e]at a;cases r<;>exact a
def Hw(hp:PassesOwn (model X.prog X.w) X.A X.env X.xe)(hc:X.calm=qc)(hN:X.N.Nodup)(hi:MIG X ad tg it f)(ht:cF tg=pi (xs,k))(hn:NmsOk X xs is)(hb:BS X Δ ad Z body g)(hs: ∀x,foldedSetIterable it X.env x=pure x):LMS X Δ ad Z (.For tg it body [] pos) (wZ is (k==0) f g):=by
 obtain⟨p,hk⟩:=Gk hc hN ht hn;refine LPS.imp (AJ hp hc hi p hb hs) ?_;rintro o l H ⟨h,G,n,E,S,j,a⟩;refine⟨G,n,E l,S.st.gh,S.sl,j.1 l,?_⟩;unfold wZ fU at a;cases e:f n with
 |ok d=>
  rw[e]at a;have b:OKo X ad h (match m8 d with|some m=>jK (uV is (k==0)) g m n|none=>.rt .bad) o E:=a;rcases i:m8 d with _|m;rw[i]at b;exact b.elim;rw[i]at b;exact⟨m,i,λJ q s st it=>vL hk (S.step st) j it b⟩
 |ow xs=>
  rw[e]at a;exact λJ q s st it=>vL hk (S.step st) j it a
 |ex c=>rw[e]at a;exact λr t st=>a l r t (S.step st)
 |bad=>rw[e]at a;exact a
def Do(hu:X.A.units+62<cLine)(ha:LPE X Δ a (mV X ad A i M fs))(hb:ME X ad b ge)(hm:behindInMarks op b=qe):LPT X Δ (.Compare a [op] [b] pos) (tTx X ad Z (mB A i M fs op ge)):=by
 intro G L s f H Q T I h;have d:=KM h;unfold tOp at d;refine wpAny_isTrue_Compare1 (L2.thn (ha G L s f H _ T I d) λv l ⟨K,p,x,J,n,w,B⟩=>L2.thn (hb _ l f J _ n B) λu q ⟨y,C,r,g,j⟩=>
  L2.thn (He hu _ q f C x y v u _ r w g j) λc N ⟨z,o,t,E,k,e,m⟩=>?_) hm
 subst e;cases E;exact wpAny_truthy_bool ⟨K,p,o,t,m⟩
def Dp(h:LPT X Δ e (tTx X ad Z c)):LPW X Δ (.BoolOp .Or [e] pos) (tTx X ad Z c):=Hk h
def Hx(ha:LPT X Δ a (tTx X ad Z c1))(hb:LPW X Δ (.BoolOp .Or (b::r) pos) (tTx X ad Z c2)):LPW X Δ (.BoolOp .Or (a::b::r) pos) (tTx X ad Z (cOr c1 c2)):=by rintro p n L s j H Q T I ⟨d,G,l,e,E,k,S,f,m,h⟩;refine K1 ha hb p n L s j H Q T I ?_;refine⟨d,G,l,e,E,λb c=>if b then k qc c else c2 c k,S,f,m,λb c i o g ok=>?_⟩;cases b;exact yJ ⟨d,i,c,e,E,k,g,f,ok,h⟩;exact xR (h qc c i o g ok)
def Hy(hc:LPT X Δ e (tTx X ad Z c))(ha:BS X Δ ad Z sa gs)(hb:BS X Δ ad Z sb hs):LMS X Δ ad Z (.If e sa sb pos) (v6 c gs hs):=by refine LPS.imp (Hl hc ha hb) ?_;rintro i m H ⟨d,G,l,E,S,f,j⟩;refine⟨d,G,l,i,E,λb a=>if b then gs a else hs a,S,f,j,λb a g n h ok=>?_⟩;cases b;exact yJ ⟨d,g,a,E,h,f,ok⟩;exact xR ⟨d,g,a,E,h,f,ok⟩
end
section
variable{ad:Ad}
def Dq(he:LPE X Δ e te)(hs:swapsWith e qb pos.line X.env=pure qe):LPS X Δ (.Expr e pos) λD σ H=>te σ H λ_ H1=>D.nx σ H1:=by intro d L s σ H D T I h;refine wpAny_Expr_any (L2.thn (he d L s σ H _ T I h) λu g b=>?_) I.quiet hs;obtain⟨f,c,v,H1,a,_,q⟩:=b;exact⟨f,c,σ,H1,a,q⟩
def Hz(he:LPE X Δ e (mV X ad A i M fs))(hs:swapsWith e qb pos.line X.env=pure qe):LMS X Δ ad Z (.Expr e pos) (pX A i M fs):=by refine LPS.imp (Dq he hs) ?_;rintro l h H ⟨a,G,n,E,S,b,c⟩;exact EI S b c λv y f g d j m k=>k h f g j
end
noncomputable def goR(io ia A:Nat)(g:FS):L1 (Rk×Int)->FS
 |[],ρ=>.nx ρ
 |(r,n)::l,ρ=>match g ((ρ.set io (.rk A r)).set ia (.sh (.int n)))with
  |.nx ρ1=>goR io ia A g l ρ1
  |.rt r=>.rt r
  |.ex c ρ1=>.ex c ρ1
  |_=>.rt .bad
noncomputable def Mh(A i:Nat)(ρ:Rho):L7 Rk:=match ρ[i]? with
 |some (.rk C r)=>if C=A then pi r else qb
 |_=>qb
def AU(h:Mh A i ρ=pi r):ρ[i]? =pi (.rk A r):=by unfold Mh at h;split at h;split at h;rename_i e a;cases h;rw[e,a];cases h;cases h
noncomputable def ET(iP io ia A:Nat)(fc:F)(g:FS)(i1:Nat)(n1:Int)(i2:Nat)(n2:Int):FS:=λρ=>match Mh A i1 (ρ.set iP .no),Mh A i2 ((ρ.set iP .no).set i1 .no)with
 |some r1,pi r2=>(match fc (((ρ.set iP .no).set i1 .no).set i2 .no)with
  |.ok d=>(match d with
   |.bl b=>if ρ.length<=iP then .rt .bad else goR io ia A g (if b then [(r1,n1),(r2,n2)]else [(r2,n2),(r1,n1)]) (((ρ.set iP .no).set i1 .no).set i2 .no)
   |_=>.rt .bad)
  |_=>.rt .bad)
 |_,_=>.rt .bad
structure En where
 t:Addr
 p:Addr
 S:List Addr
 r:Rk
 n:Int
 rc:Addr->Obj
 U:Hp
structure EnOk(X:Cx)(ad:Ad)(A:Nat)(Gb G₀ G:Hp)(e:En):Prop where
 tp:G e.t=pi (.tup [.ref e.p,.int e.n])
 fz: ∀b∈e.S,G b=fzF e.rc b
 h0: ∀b∈e.S,X.H₀ b=qb/\G₀ b=qb
 kp:IO X.prog X.w e.S e.U e.rc
 rk: ∃dx d l1 l2,e.S=gC e.p dx d l1 l2/\∀G' H',v7 Gb G'->(∀b∈e.S,H' b=e.U b/\G' b=qb)->RackIn X.K ad A G' H' e.p e.r dx d l1 l2
section
variable{X:Cx}{Δ:Pl->Prop}{ad:Ad}{Z:(St->Nat->Hp->Prop)->Prop}{A io ia i:Nat}{g:FS}{dZ:L1 Stmt}{st:Stmt}{t:TS}{σ:St}{G₀ G H:Hp}{ρ:Rho}{E:St->Nat->Hp->Prop}{D:Ends}{e e':En}
def EU(hs:LPS X Δ st t):LPS X Δ st λD σ H=>∃A G p dx d l1 l2 r,RackIn X.K ad A G H p r dx d l1 l2/\(∀b∈gC p dx d l1 l2,X.H₀ b=qb)/\∀rc,IO X.prog X.w (gC p dx d l1 l2) (ovr (gC p dx d l1 l2) H noF) rc->t D σ (ovr (gC p dx d l1 l2) (fzF rc) H):=by intro g L s σ H D T I h;obtain⟨A,G,p,dx,d,l1,l2,r,f,a,k⟩:=h;obtain⟨rc,e,c⟩:=KO I f a;exact hs g L s σ _ D T e (k rc c)
def Lb(hb:o7 X Δ body t):o7 X Δ body λD σ H=>∃e:En,(∀b∈e.S,H b=fzF e.rc b/\X.H₀ b=qb)/\IO X.prog X.w e.S e.U e.rc/\t D σ (ovr e.S e.U H):=by intro d L s σ H D T I h;obtain⟨e,a,c,k⟩:=h;exact hb d L s σ _ D T (Hh I (λb hb=>(a b hb).1) c λb hb=>(a b hb).2) k
def EnOk.up(h:EnOk X ad A Gb G₀ G e)(le:Same G G'):EnOk X ad A Gb G₀ G' e:=⟨le _ _ h.tp,λb a=>le _ _ (h.fz b a),h.h0,h.kp,h.rk⟩
def EnOk.drop(h:EnOk X ad A Gb G₀ G e)(h':EnOk X ad A Gb G₀ G e')(dj: ∀b∈e.S,b∉e'.S):EnOk X ad A Gb G₀ (ovr e'.S noF G) e:=
 ⟨by rw[a9 λz=>by have:=h.tp;rw[h'.fz _ z]at this;cases this];exact h.tp,λb a=>by rw[a9 (dj b a)];exact h.fz b a,h.h0,h.kp,h.rk⟩
def wB{a}{xs}{l:L1 En}(T:SS X ad G₀ G H ρ σ)(hx:XA X ad Z E)(hr:OKo X ad G₀ (goR io ia A g (l.map λe=>(e.r,e.n)) ρ) D E)
  (ha:G a=pi (.lst xs)) (hl:xs=l.map λe=>.ref e.t) (ok: ∀e∈l,EnOk X ad A G G₀ G e) (pw:l.Pairwise λe e'=>∀b∈e'.S,b∉e.S):
  ∃W:Nat->Nat->St->Hp->Prop,(∃m,W 0 m σ H)/\∀i m σ H,W i m σ H->((Itl X.K a).stop i H/\D.nx σ H)\/((Itl X.K a).go i H/\∃N:St->Hp->Prop,(∀σ' H',N σ' H'->∃m',m'<m/\W (i+1) m' σ' H')/\
   ∀x H',(Itl X.K a).yld i H x H'->gTs X.K 2 [io,ia] x σ H' λσ2 H2=>∃e:En,(∀b∈e.S,H2 b=fzF e.rc b/\X.H₀ b=qb)/\IO X.prog X.w e.S e.U e.rc/\tS X ad Z g {D with nx:=N,ct:=N,bk:=D.nx} σ2 (ovr e.S e.U H2)):=by
 let W:Nat->Nat->St->Hp->Prop:=λi m σ' H'=>∃(l:L1 En) (C:Hp) (j:Rho),m=l.length/\xs.drop i=l.map (λe=>.ref e.t)/\SS X ad G₀ C H' j σ'/\v7 G C/\C a=pi (.lst xs)/\(∀e∈l,EnOk X ad A G G₀ C e)/\(l.Pairwise λe e'=>∀b∈e'.S,b∉e.S)/\OKo X ad G₀ (goR io ia A g (l.map λe=>(e.r,e.n)) j) D E
 refine⟨W,⟨_,l,G,ρ,rfl,hl,T,λ_ _ e=>.inr e,ha,ok,pw,hr⟩,?_⟩
 rintro i m σ' H' ⟨l,C,j,rfl,hd,J,le,B,O,ak,I⟩;have hs:SqL X.K H' a xs:=.inl (.inl (J.st.gh _ _ B))
 cases l with
 |nil=>exact .inl ⟨⟨_,hs,List.drop_eq_nil_iff.mp hd⟩,I σ' C H' J⟩
 |cons e l=>
  have hi:xs[i]? =pi (.ref e.t):=by
   have:=congrArg (λl:L1 V=>l[0]?) hd
   simpa[List.getElem?_drop]using this
  obtain⟨al,ag⟩:=iq.mp ak;have o:=O e (.head _);refine .inr ⟨⟨_,_,hs,hi⟩,W (i+1) l.length,λσ2 H2 q=>⟨_,jm _,q⟩,λx H2 y=>?_⟩
  obtain⟨rfl,y⟩:=y
  have:=(y _ hs).symm.trans hi
  cases this;obtain⟨dx,d,l1,l2,hS,rk⟩:=o.rk;show IE X.K 2 (gIs [io,ia]) _ _ _ _;refine⟨e.t,[.ref e.p,.int e.n],rfl,.inl (.inl (J.st.gh _ _ o.tp)),rfl,vK rfl ⟨e,λb s=>⟨J.st.gh _ _ (o.fz b s),(o.h0 b s).1⟩,o.kp,?_⟩⟩
  show tS X ad Z g _ ((σ'.set io (pi (.ref e.p))).set ia (pi (.int e.n))) _;have T2:=J.thaw o.fz o.h0
  have s1:Same (ovr e.S noF H2) (ovr e.S e.U H2):=λb u q=>by
   by_cases s:b∈e.S
   .rw[eC s]at q;cases q
   .rw[a9 s]at q ⊢;exact q
  have L:=le.drop o.fz;have Y:=(T2.setR (i:=io) s1 (rk (ovr e.S noF C) _ L λb s=>⟨eC s,eC s⟩) (λb s=>by rw[eC (by rw[hS];exact s)];rfl) (T2.st.gh.trans s1)).set (i:=ia) (d:=.int e.n) (v:=.int e.n) (by unfold Rep;rfl)
  have ab:ovr e.S noF C a=pi (.lst xs):=by rw[a9 λz=>by rw[o.fz _ z]at B;cases B];exact B
  refine⟨_,_,_,E,Y.here,hx,?_⟩
  have f:OKo X ad G₀ (match g ((j.set io (.rk A e.r)).set ia (.sh (.int e.n)))with
   |.nx h=>goR io ia A g (l.map λe=>(e.r,e.n)) h
   |.rt r=>.rt r
   |.ex c h=>.ex c h
   |_=>.rt .bad) D E:=I
  cases M:g ((j.set io (.rk A e.r)).set ia (.sh (.int e.n)))with
  |nx h=>
   rw[M]at f;refine λam G3 H3 Q=>⟨l,G3,h,rfl,?_,Q.up Y.st,λb u q=>(L b u q).imp id (Q.st.sg _ _),Q.st.sg _ _ ab,λe' m=>((O e' (.tail _ m)).drop o (al e' m)).up Q.st.sg,ag,f⟩
   rw[<-List.drop_drop,hd];rfl
  |bk h=>rw[M]at f;exact f.elim
  |ct h=>rw[M]at f;exact f.elim
  |rt r=>rw[M]at f;have h3:=f.rebase Y.st;cases r<;>exact h3
  |ex c h=>rw[M]at f;exact f.rebase Y.st
def AV(h:(ρ.set i .no)[k]? =pi sl)(n:sl≠ .no):k≠i/\ρ[k]? =pi sl:=by
 by_cases z:k=i;subst z;have a:k<ρ.length:=by have:=(ay.mp h).1;rwa [ke]at this
 rw[bj a]at h;cases h;exact absurd rfl n;rw[bc (qa z)]at h;exact⟨z,h⟩
def Dr{P a b one at_}{tg c er}(O:StOk X ad C)(pass:PassesOwn (model X.prog X.w) X.A X.env X.xe)(hf: ∀p,ad.fnA (1000+p)=p)(hP:loc C P=pi iP)(ha:loc C a=pi i1)(hb:loc C b=pi i2)(ht:cF tg=pi ([one,at_],2))(hl:eG (λx=>loc C x) [one,at_]=pi [io,ia])(hc:MT X ad c fc)(he:ME X ad er (JA (aE iP)))(hbody:BS X Δ ad Z body g)(hrest:BS X Δ ad Z dZ h):
  BS X Δ ad Z (.Assign [.Name P p1] (.List [.Tuple [.Name a p2,.Constant (.int n1) j1 p3] k1 p4,.Tuple [.Name b p5,.Constant (.int n2) j2 p6] k2 p7] p8) p9:: .For tg (.IfExp c (.Name P p10) er p11) body [] p12::dZ) (aR (ET iP io ia A fc g i1 n1 i2 n2) h):=by
 have nP:=O.nm hP;obtain⟨a1,a2,a3,a4⟩:=O.cx.vis a i1 ha;obtain⟨b1,b2,b3,b4⟩:=O.cx.vis b i2 hb;obtain⟨c1,c2,c3,c4⟩:=O.cx.vis P iP hP
 refine o7.imp (fM (EN (j8 O.cx.nd nP.1 nP.2.1 (qD (bI (yE (bI (bO a1 a2 a3 a4) (bI x6 cW))) (bI (yE (bI (bO b1 b2 b3 b4) (bI x6 cW))) cW))) rfl nP.2.2))
  (fM (EU (ad:=ad) (EU (ad:=ad) (AJ pass O.cx.calm (Fl (uO hc (bO c1 c2 c3 c4) he)) (Gk O.cx.calm O.cx.nd ht (O.nms hl)).1 (Lb hbody) (Cq λ_ _ _ z=>nomatch z)))) hrest)) ?_
 rintro D' σ H ⟨j,G,ρ,E,S,hx,f⟩
 have L:OKo X ad j (ET iP io ia A fc g i1 n1 i2 n2 ρ) {D' with nx:=λσ H=>tS X ad Z h D' σ H} E:=by
  unfold aR at f
  cases e:ET iP io ia A fc g i1 n1 i2 n2 ρ with
  |nx Y=>rw[e]at f;exact λbr G' H' S'=>⟨j,G',Y,E,S',hx,f⟩
  |bk Y=>rw[e]at f;exact f
  |ct Y=>rw[e]at f;exact f
  |ex c Y=>rw[e]at f;exact f
  |rt r=>rw[e]at f;cases r<;>exact f
 clear f;unfold ET at L;split at L
 case h_2=>exact L.elim
 rename_i r1 r2 q1 q2;split at L
 case h_2=>exact L.elim
 rename_i d ec
 cases d<;>try exact L.elim
 rename_i bb
 have L:OKo X ad j (if ρ.length<=iP then Out.rt .bad else goR io ia A g (if bb then [(r1,n1),(r2,n2)]else [(r2,n2),(r1,n1)]) (((ρ.set iP .no).set i1 .no).set i2 .no)) {D' with nx:=λσ H=>tS X ad Z h D' σ H} E:=L
 by_cases y:ρ.length<=iP
 .rw[if_pos y]at L;exact L.elim
 rw[if_neg y]at L;have q1:=AU q1;have q2:=AU q2;obtain⟨m1,be⟩:=AV q1 λz=>nomatch z
 obtain⟨_,al⟩:=AV q2 λz=>nomatch z
 obtain⟨m2,al⟩:=AV al λz=>nomatch z
 obtain⟨t,_,_,_,_,e1,_⟩:=S.sl.rk be;obtain⟨B,_,_,_,_,e2,_⟩:=S.sl.rk al
 have sz:2<=sizeLine:=by decide
 refine⟨.ref t,e1,sz,λn a5=>⟨.ref B,e2,sz,λs ak=>⟨sz,λl nl=>?_⟩⟩⟩
 have st1:=Step.new (o:=.tup [.ref t,.int n1]) S.st.gh a5;have st2:=st1.trans (Step.new (o:=.tup [.ref B,.int n2]) st1.gh ak);have st:=st2.trans (Step.new (o:=.lst [.ref n,.ref s]) st2.gh nl);have ap:n≠s:=λz=>by rw[<-z,aD]at ak;cases ak
 have bl:n≠l:=λz=>by rw[<-z,aA ap,aD]at nl;cases nl
 have a7:s≠l:=λz=>by rw[<-z,aD]at nl;cases nl
 have S3:=(S.step st).setNo (i:=iP) (ov:=pi (.ref l))
 have g0:upd (upd (upd G n (.tup [.ref t,.int n1])) s (.tup [.ref B,.int n2])) l (.lst [.ref n,.ref s]) l=pi (.lst [.ref n,.ref s]):=aD
 have g1:upd (upd (upd G n (.tup [.ref t,.int n1])) s (.tup [.ref B,.int n2])) l (.lst [.ref n,.ref s]) n=pi (.tup [.ref t,.int n1]):=by rw[aA bl,aA ap,aD]
 have g2:upd (upd (upd G n (.tup [.ref t,.int n1])) s (.tup [.ref B,.int n2])) l (.lst [.ref n,.ref s]) s=pi (.tup [.ref B,.int n2]):=by rw[aA a7,aD]
 generalize upd (upd (upd G n (.tup [.ref t,.int n1])) s (.tup [.ref B,.int n2])) l (.lst [.ref n,.ref s])=G3 at S3 g0 g1 g2
 have sl:(σ.set iP (pi (V.ref l)))[iP]? =pi (pi (.ref l)):=bj (by rw[<-S.sl.len];exact Nat.lt_of_not_le y)
 have f1:(σ.set iP (pi (V.ref l)))[i1]? =pi (pi (.ref t)):=by rw[bc (qa m1)];exact e1
 have f2:(σ.set iP (pi (V.ref l)))[i2]? =pi (pi (.ref B)):=by rw[bc (qa m2)];exact e2
 refine gzq λRz ez=>?_;obtain⟨p',dx,d,l1,l2,z1,R1,ag,bp,T1⟩:=S3.take q1;subst ez;rw[f1]at z1;cases z1;refine⟨A,_,t,dx,d,l1,l2,r1,R1,ag,λab a6=>?_⟩
 refine gzq λRz ez=>?_;obtain⟨T1,T⟩:=T1.putBy (rc:=ab) bp ag R1.gn;obtain⟨p',N,d',M,I,z2,R2,am,bm,T2⟩:=T1.take q2;subst ez;rw[f2]at z2;cases z2;refine⟨A,_,B,N,d',M,I,r2,R2,am,λW as=>?_⟩
 obtain⟨T2,Q⟩:=T2.putBy (rc:=W) bm am R2.gn
 have gn: ∀{b:Addr},G3 b=qb->j b=qb:=λ{b} e=>S3.st.sg.free e
 have dj: ∀b∈gC B N d' M I,b∉gC t dx d l1 l2:=λb hb z=>by have:=R2.gn b hb;rw[eC z]at this;cases this
 have F1: ∀U,Same (ovr (gC B N d' M I) (fzF W) (ovr (gC t dx d l1 l2) (fzF ab) G3)) U->EnOk X ad A U j U ⟨n,t,gC t dx d l1 l2,r1,n1,ab,_⟩:=λU le=>⟨le _ _ (Q _ _ (T _ _ g1)),λb hb=>le _ _ (Q _ _ (eC hb)),λb hb=>⟨ag b hb,gn (R1.gn b hb)⟩,a6,dx,d,l1,l2,rfl,λG' H' ls hh=>R1.re (λb hb=>⟨(hh b hb).1.trans (eC hb),(hh b hb).2⟩) λb u q=>ls b u (le _ _ (Q _ _ (T _ _ q)))⟩
 have F2: ∀U,Same (ovr (gC B N d' M I) (fzF W) (ovr (gC t dx d l1 l2) (fzF ab) G3)) U->EnOk X ad A U j U ⟨s,B,gC B N d' M I,r2,n2,W,_⟩:=λU le=>⟨le _ _ (Q _ _ (T _ _ g2)),λb hb=>le _ _ (eC hb),λb hb=>⟨am b hb,gn (T.free (R2.gn b hb))⟩,as,N,d',M,I,rfl,λG' H' ls hh=>R2.re (λb hb=>⟨(hh b hb).1.trans (eC hb),(hh b hb).2⟩) λb u q=>ls b u (le _ _ (Q _ _ q))⟩
 refine⟨_,_,E _,T2.st.gh,T2.sl,hx.1 _,by rw[ec];exact .inl ⟨bb,rfl⟩,?_⟩
 rw[ec];intro v G4 H4 J rv;unfold Rep at rv;refine⟨bb,rv,?_⟩;have S4:=T2.step J;have g4:=J.sg _ _ (Q _ _ (T _ _ g0));cases bb
 .
  refine yJ ?_
  have rl:Rep X.K ad G4 (.lst [.fn (1000+n),.fn (1000+s)]) (.ref l):=by
   unfold Rep;refine⟨l,_,rfl,.inl (.inl g4),.cons ?_ (.cons ?_ .nil)⟩<;>(unfold Rep;rw[hf])
  have S5:=S4.set (i:=iP) rl;rw[List.set_set]at S5;refine⟨G4,_,E _,S5.st.gh,S5.sl,hx.1 _,?_⟩
  have ev:JA (aE iP) ((((ρ.set iP .no).set i1 .no).set i2 .no).set iP (.sh (.lst [.fn (1000+n),.fn (1000+s)])))= .ow [.fn (1000+s),.fn (1000+n)]:=by
   unfold JA aE;rw[bj (by simp only[ke];exact Nat.lt_of_not_le y)]
   rfl
  rw[ev];intro q vs U H5 a0 nq gq hq rq
  have ar:vs=[.ref s,.ref n]:=by
   unfold aK at rq;obtain⟨v1,r1,rfl,x1,rq⟩:=rq;unfold aK at rq;obtain⟨v2,r2,rfl,x2,rq⟩:=rq;unfold aK at rq;unfold Rep at x1 x2;rw[hf]at x1 x2;rw[x1,x2,rq]
  subst ar;have an:=a0.share nq gq hq
  exact⟨q,rfl,⟨_,.inl (.inl hq)⟩,wB (S4.step an) hx L aD rfl (λe m=>by
   simp only[av,jq,or_false]at m;rcases m with rfl|rfl
   .exact F2 _ (J.sg.trans an.sg)
   .exact F1 _ (J.sg.trans an.sg)) (.cons (λe m=>by rw[ip.mp m];exact λb hb z=>dj b z hb) (.cons (λe m=>by cases m) .nil))⟩
 .refine xR ?_
  exact⟨.ref l,sl,l,rfl,⟨_,.inl (.inl (S4.st.gh _ _ g4))⟩,wB S4 hx L g4 rfl (λe m=>by
   simp only[av,jq,or_false]at m;rcases m with rfl|rfl
   .exact F1 _ J.sg
   .exact F2 _ J.sg) (.cons (λe m=>by rw[ip.mp m];exact dj) (.cons (λe m=>by cases m) .nil))⟩
end
structure MRd where
 A:Nat
 i:Nat
 M:FM
 fs:List F
noncomputable def HA(C:SK.Ctx)(e:Expr):L7 MRd:=(rkc C).bind λ(A,ms)=>(sC e).bind λc=>(bY c.o).bind λ(x,_)=>(loc C x).bind λi=>(ms.lookup c.m).bind λ(n,M)=>if c.as.length<20 then(eG (bZ 50 C) c.as).bind λfs=>if fs.length=n then pi ⟨A,i,M,fs⟩ else qb else qb
def sI(h:rkc C=pi (A,ms)):C.tab.lookup ("Rack":Str)=pi (SK.Gl.cls A ms):=by unfold rkc at h;split at h;rename_i e;cases h;exact e;cases h
def AW(e:Expr):L7 Str:=match e with
 |.Call f as kws _=>if as.isEmpty&&kws.isEmpty then(bY f).map (·.1)else qb
 |_=>qb
def AX(h:AW e=pi z): ∃np cp,e= .Call (.Name z np) [] [] cp:=by unfold AW at h;split at h;split at h;rename_i a;rw[aw]at a;cases dX a.1;cases dX a.2;obtain⟨⟨x,p⟩,b,rfl⟩:=zMd h;cases aS b;exact⟨_,_,rfl⟩;cases h;cases h
def Lc(st:Stmt):L7 (Expr×Expr):=match st with
 |.Assign ts e _=>(one ts).map λt=>(t,e)
 |_=>qb
def uE{st}(h:Lc st=pi (t,e)): ∃p,st= .Assign [t] e p:=by unfold Lc at h;split at h;obtain⟨c,b,a⟩:=zMd h;cases cJ b;cases a;exact⟨_,rfl⟩;cases h
structure GCl where
 g:Str
 gp:Pos
 x:Str
 xp:Pos
 as:List Expr
 cp:Pos
noncomputable def Nz(e:Expr):L7 GCl:=match e with
 |.Call f as kws cp=>if kws.isEmpty then(bY f).bind λ(g,gp)=>(match as with
  |[]=>qb
  |a::r=>(bY a).map λ(x,xp)=>⟨g,gp,x,xp,r,cp⟩)else qb
 |_=>qb
def HB(h:Nz e=pi c):e= .Call (.Name c.g c.gp) (.Name c.x c.xp::c.as) [] c.cp:=by unfold Nz at h;split at h;split at h;rename_i hk;cases ju.mp hk;have a:=zBd h;clear h;obtain⟨⟨g,gp⟩,d,h⟩:=a;cases aS d;simp only at h;split at h;cases h;obtain⟨⟨x,xp⟩,b,rfl⟩:=zMd h;cases aS b;rfl;cases h;cases h
abbrev GMs:=L1 (Str×Nat×FM)
def rdG(gms:GMs)(A:Nat)(C:SK.Ctx)(e:Expr):L7 MRd:=(Nz e).bind λc=>(gms.lookup c.g).bind λ(n,M)=>if C.sc.names.lookup c.g=pi .globalImplicit then(loc C c.x).bind λi=>(eG (bZ 50 C) c.as).bind λfs=>if fs.length=n then pi ⟨A,i,M,fs⟩ else qb else qb
noncomputable def vOr:Expr->L7 (L1 Expr)
 |.BoolOp op es _=>(match op with|.Or=>pi es|_=>qb)
 |_=>qb
def Ld(h:vOr e=pi es): ∃p,e= .BoolOp .Or es p:=by unfold vOr at h;split at h;split at h;cases h;exact⟨_,rfl⟩;cases h;cases h
noncomputable def HC(gms:GMs)(tn:Str)(F:Fn)(A:Nat)(ms:GMs)(C:SK.Ctx)(e:Expr):L7 MRd:=match rdG gms A C e with
 |some r=>pi r
 |none=>(match rdT tn F A ms C e with
  |some (i,M)=>pi ⟨A,i,M,[]⟩
  |none=>HA C e)
noncomputable def HD:Expr->L7 (Expr×CmpOp×Expr)
 |.Compare a ops cs _=>(match ops with
  |[op]=>(one cs).map λb=>(a,op,b)
  |_=>qb)
 |_=>qb
def Ds(h:HD e=pi (a,op,b)): ∃p,e= .Compare a [op] [b] p:=by unfold HD at h;split at h;split at h;obtain⟨f,c,d⟩:=zMd h;cases d;cases cJ c;exact⟨_,rfl⟩;cases h;cases h
def cP(rd:Expr->L7 MRd)(C:SK.Ctx)(e:Expr):L7 FC:=(HD e).bind λ(a,op,b)=>(rd a).bind λr=>(bZ 50 C b).map λg=>mB r.A r.i r.M r.fs op g
noncomputable def cT(rd:Expr->L7 MRd)(C:SK.Ctx)(e:Expr):L7 FC:=match cP rd C e with
 |some c=>pi c
 |none=>(bZ 50 C e).map KJ
noncomputable def orT(rd:Expr->L7 MRd)(C:SK.Ctx):L1 Expr->L7 FC
 |[]=>qb
 |[a]=>cT rd C a
 |a::b::r=>(cT rd C a).bind λc1=>(orT rd C (b::r)).map λc2=>cOr c1 c2
def wC(i j A:Nat)(e:F):FS:=λρ=>fU ρ (e ρ) λd=>.nx ((ρ.set i (.rk A ⟨[],[],[]⟩)).set j (.sh d))
section
variable{ad:Ad}
def Dt{i j kt k2}(O:StOk X ad C)(MK:MkOk X ad A)(ha:ME X ad a fa)(sa:gM a)(hi:loc C x=pi i)(hj:loc C y=pi j)(hg:L2.Gl X z)(hm:X.mg z=pi (.ref A))(hdb:(z==("__debug__":Str))=qe)(ok:w4 C x y px py (.Call (.Name z np) [] [] cp) a=qc):
  MS X ad Z (.Assign [.Tuple [.Name x px,.Name y py] kt pt] (.Tuple [.Call (.Name z np) [] [] cp,a] k2 pt2) pos) (wC i j A fa):=by
 refine gzq λRz ez=>?_;obtain⟨f,k',fd,ps,M,F,N,hb⟩:=MK.ok;subst ez;unfold w4 at ok;simp only[aw,jg]at ok;obtain⟨⟨⟨⟨⟨⟨⟨o1,o2⟩,o3⟩,o4⟩,W⟩,o6⟩,_⟩,_⟩:=ok
 have w:X.env.scope.names.lookup x=pi .local:=by rw[O.sc];exact bU o1
 have u:X.env.scope.names.lookup y=pi .local:=by rw[O.sc];exact bU o2
 have h:x≠y:=by simpa using o3
 have nx:=(O.cx.vis x i hi).1;have J:=(O.cx.vis y j hj).1;have K:i≠j:=λz=>by subst z;rw[nx]at J;exact h (jw J)
 rintro l s t H D' I ⟨T,G,ρ,E,S,hx,N⟩;refine D2 O.cx.calm O.cx.nd nx J K w u (bI (λl s t H Q I hq=>uR (E:=λ_ _ _=>False) M F (by assumption) hg hm hb .nil (λl t H s e s' I n=>by obtain⟨_,_,_,_,_,_,_,_,_,_,_,_,_,_,z⟩:=n;exact z.elim) hdb l s t H Q I hq) (bI ha cW (aM sa)) rfl) (l9 I.ok.kind w u h (by simpa using o4) trivial sa W o6) rfl l s t H D' I ?_
 intro p q np g B;refine⟨p,q,G,rfl,?_,S.st.gh.free np,S.st.gh.free g,B,aD,by rw[aA B,aD],λd0 w u U nd n1 n2 Y hk=>⟨rfl,?_⟩⟩
 .exact S.st.gh.trans ((Same.upd_new g).trans (Same.upd_new (by rw[aA (qa B)];exact np)))
 .have back: ∀{c:Addr},upd (upd H q (.own p)) p (.ins A q []) c=qb->H c=qb:=λ{c} n=>by
   by_cases z:c=p
   .rw[z];exact np
   .by_cases L:c=q
    .rw[L];exact g
    .rw[aA z,aA L]at n;exact n
  have m:Same H U:=λb o e=>hk b o (aJ e np) (by rw[aA (aJ e np),aA (aJ e g)];exact e)
  have st0:Step G H G U:=⟨Same.refl _,S.st.gh.trans m,m,λb h1 h2=>absurd h1 h2⟩
  have S2:=S.setR (i:=i) m Y (λa ha=>by
   simp only[av,jq,or_false]at ha;rcases ha with z|z|z|z|z
   .rw[z];exact np
   .rw[z];exact g
   .rw[z];exact back nd
   .rw[z];exact back n1
   .rw[z];exact back n2) (S.st.gh.trans m)
  refine gI (S.step st0) hx N λv d G1 H1 st1 r kk=>?_
  exact⟨.ref p,v,rfl,kk _ G1 _ ((S2.step st1).set r)⟩
end
structure PRd where
 x:Str
 px:Pos
 y:Str
 py:Pos
 a:Expr
 z:Str
 c:Expr
def HE(st:Stmt):L7 PRd:=(Lc st).bind λ(t,e)=>(Fy t).bind λ(es,_)=>(L4 es e).bind λq=>(AW q.a).map λz=>⟨q.x,q.px,q.y,q.py,q.b,z,q.a⟩
def Du{st}(h:HE st=pi q): ∃kt pt np cp k2 pt2 pos,q.c= .Call (.Name q.z np) [] [] cp/\st= .Assign [.Tuple [.Name q.x q.px,.Name q.y q.py] kt pt] (.Tuple [.Call (.Name q.z np) [] [] cp,q.a] k2 pt2) pos:=by unfold HE at h;obtain⟨⟨t,e⟩,j,h⟩:=zBd h;obtain⟨⟨l,k,m⟩,i,h⟩:=zBd h;obtain⟨r,d,h⟩:=zBd h;obtain⟨z,f,rfl⟩:=zMd h;obtain⟨pos,rfl⟩:=uE j;obtain⟨np,cp,b⟩:=AX f;cases t7 i;obtain⟨k2,g,rfl,rfl⟩:=Az d;exact⟨_,_,np,cp,_,_,_,b,by rw[<-b]⟩
def Oi(C:SK.Ctx)(q:PRd):L7 FS:=if q.z=("Rack":Str)/\C.sc.names.lookup q.z=pi .globalImplicit/\w4 C q.x q.y q.px q.py q.c q.a=qc then(rkc C).bind λ(A,_)=>(loc C q.x).bind λi=>(loc C q.y).bind λj=>(bZ 50 C q.a).map λf=>wC i j A f else qb
noncomputable def EV:Expr->Bool
 |.Call _ _ _ _=>qc
 |_=>qe
def AY(h:EV e=qc): ∃a b c d,e= .Call a b c d:=by
 cases e with
 |Call a b c d=>exact⟨_,_,_,_,rfl⟩
 |_=>cases h
noncomputable def vEx:Stmt->L7 Expr
 |.Expr e _=>pi e
 |_=>qb
def Le{st}(h:vEx st=pi e): ∃p,st= .Expr e p:=by cases st<;>first|(cases h;exact⟨_,rfl⟩)|(cases h;done)
def HF(st:Stmt):L7 (Str×Str):=(Lc st).bind λ(t,e)=>(bY t).bind λ(y,_)=>(sC e).bind λc=>(bY c.o).bind λ(x,_)=>if c.m=("twin":Str)/\c.as.isEmpty=qc then pi (y,x)else qb
def Dv{st}(h:HF st=pi (y,x)): ∃yp np ap cp pos,st= .Assign [.Name y yp] (.Call (.Attribute (.Name x np) "twin" ap) [] [] cp) pos/\(ap.endLine==cp.line)=qc:=by unfold HF at h;obtain⟨⟨t,e⟩,j,h⟩:=zBd h;obtain⟨⟨n,yp⟩,i,h⟩:=zBd h;obtain⟨c,b,h⟩:=zBd h;obtain⟨⟨q,np⟩,d,h⟩:=zBd h;simp only at h;split at h;rename_i g;cases h;obtain⟨pos,rfl⟩:=uE j;obtain⟨rfl,f⟩:=i8 b;cases aS i;obtain⟨o,m,ap,p,cp⟩:=c;have a:bY o=pi (x,np):=d;cases aS a;obtain⟨rfl,l⟩:=g;cases dX l;exact⟨_,_,_,_,_,rfl,f⟩;cases h
structure TwR where
 P:Str
 a:Str
 b:Str
 n1:Int
 n2:Int
 tg:Expr
 c:Expr
 er:Expr
 body:List Stmt
noncomputable def Lf:Expr->L7 (L1 Expr)
 |.List es _=>pi es
 |_=>qb
noncomputable def Lg:Expr->L7 Int
 |.Constant c _ _=>(match c with|.int i=>pi i|_=>qb)
 |_=>qb
def Dw(h:Lf e=pi es): ∃p,e= .List es p:=by cases e<;>first|(cases h;exact⟨_,rfl⟩)|(cases h;done)
def Dx(h:Lg e=pi i): ∃j p,e= .Constant (.int i) j p:=by
 cases e<;>try (cases h;done)
 rename_i c j p;cases c<;>first|(cases h;exact⟨_,_,rfl⟩)|(cases h;done)
def Mi(e:Expr):L7 (Str×Int):=(Fy e).bind λ(es,_)=>(two es).bind λ(u,v)=>(bY u).bind λ(a,_)=>(Lg v).map λn=>(a,n)
def AZ(h:Mi e=pi (a,n)): ∃p j q k r,e= .Tuple [.Name a p,.Constant (.int n) j q] k r:=by unfold Mi at h;obtain⟨⟨i,k,r⟩,g,h⟩:=zBd h;obtain⟨⟨u,v⟩,d,h⟩:=zBd h;obtain⟨⟨m,p⟩,b,h⟩:=zBd h;obtain⟨l,f,c⟩:=zMd h;cases c;obtain⟨j,q,rfl⟩:=Dx f;cases aS b;cases gL d;cases t7 g;exact⟨_,_,_,_,_,rfl⟩
noncomputable def Lh:Stmt->L7 (Expr×Expr×L1 Stmt)
 |.For tg it b e _=>if e.isEmpty then pi (tg,it,b)else qb
 |_=>qb
def Dy{st}{tg it}(h:Lh st=pi (tg,it,b)): ∃p,st= .For tg it b [] p:=by
 cases st<;>try (cases h;done)
 rename_i d f g c i;have a:(if c.isEmpty then pi (d,f,g)else qb)=pi (tg,it,b):=h;split at a;rename_i e;cases a;cases ju.mp e;exact⟨_,rfl⟩;cases a
noncomputable def Oj:Expr->L7 (Expr×Expr×Expr)
 |.IfExp c a b _=>pi (c,a,b)
 |_=>qb
def HG(h:Oj e=pi (c,a,b)): ∃p,e= .IfExp c a b p:=by cases e<;>first|(cases h;exact⟨_,rfl⟩)|(cases h;done)
def NA(st st2:Stmt):L7 TwR:=(Lc st).bind λ(t,e)=>(bY t).bind λ(P,_)=>(Lf e).bind λes=>(two es).bind λ(u,v)=>(Mi u).bind λ(a,n1)=>(Mi v).bind λ(b,n2)=>(Lh st2).bind λ(tg,it,body)=>(Oj it).bind λ(c,y,er)=>(bY y).bind λ(P2,_)=>if P2=P then pi ⟨P,a,b,n1,n2,tg,c,er,body⟩ else qb
def HH{st st2}(h:NA st st2=pi q): ∃k1 k2 j1 j2 p1 p2 p3 p4 p5 p6 p7 p8 p9 p10 p11 p12,st= .Assign [.Name q.P p1] (.List [.Tuple [.Name q.a p2,.Constant (.int q.n1) j1 p3] k1 p4,.Tuple [.Name q.b p5,.Constant (.int q.n2) j2 p6] k2 p7] p8) p9/\st2= .For q.tg (.IfExp q.c (.Name q.P p10) q.er p11) q.body [] p12:=by unfold NA at h;obtain⟨⟨t,e⟩,p,h⟩:=zBd h;obtain⟨⟨P,p1⟩,o,h⟩:=zBd h;obtain⟨r,d,h⟩:=zBd h;obtain⟨⟨u,v⟩,m,h⟩:=zBd h;obtain⟨⟨a,n1⟩,j,h⟩:=zBd h;obtain⟨⟨b,n2⟩,g,h⟩:=zBd h;obtain⟨⟨tg,s,body⟩,n,h⟩:=zBd h;obtain⟨⟨c,y,er⟩,f,h⟩:=zBd h;obtain⟨⟨w,p10⟩,l,h⟩:=zBd h;simp only at h;split at h;rename_i i;cases h;cases aS l;obtain⟨p11,rfl⟩:=HG f;obtain⟨p12,rfl⟩:=Dy n;obtain⟨_,_,_,_,_,rfl⟩:=AZ g;obtain⟨_,_,_,_,_,rfl⟩:=AZ j;cases gL m;obtain⟨_,rfl⟩:=Dw d;cases aS o;obtain⟨_,rfl⟩:=uE p;subst i;exact⟨_,_,_,_,_,_,_,_,_,_,_,_,_,_,_,_,rfl,rfl⟩;cases h
noncomputable def Li:Expr->L7 (Expr×Expr)
 |.Subscript a b _=>pi (a,b)
 |_=>qb
def Dz(h:Li e=pi (a,b)): ∃p,e= .Subscript a b p:=by cases e<;>first|(cases h;exact⟨_,rfl⟩)|(cases h;done)
def DA(C:SK.Ctx)(e:Expr):L7 Nat:=(Li e).bind λ(a,b)=>(bY a).bind λ(x,_)=>if N5 b then loc C x else qb
def DB{ad}(O:CtxOk X ad C)(h:DA C e=pi i):ME X ad e (JA (aE i)):=by unfold DA at h;obtain⟨⟨a,b⟩,n,h⟩:=zBd h;obtain⟨⟨x,p⟩,f,h⟩:=zBd h;simp only at h;split at h;rename_i m;obtain⟨r,rfl⟩:=Dz n;cases aS f;obtain⟨j,s,q,o,rfl⟩:=GI m;obtain⟨c,d,g,l⟩:=O.vis x i h;exact Kj (JI c d g l);cases h
structure TwI where
 iP:Nat
 i1:Nat
 i2:Nat
 io:Nat
 ia:Nat
 A:Nat
 fc:F
noncomputable def twI(C:SK.Ctx)(q:TwR):L7 TwI:=(cF q.tg).bind λ(xs,k)=>(eG (λx=>loc C x) xs).bind λis=>(loc C q.P).bind λiP=>(loc C q.a).bind λi1=>(loc C q.b).bind λi2=>(bZ 50 C q.c).bind λfc=>(rkc C).bind λ(A,_)=>match is with
 |[io,ia]=>if k=2/\DA C q.er=pi iP then pi ⟨iP,i1,i2,io,ia,A,fc⟩ else qb
 |_=>qb
mutual
noncomputable def gS:Nat->(Expr->L7 MRd)->SK.Ctx->Stmt->L7 FS
 |0,_,_,_=>qb
 |n+1,rd,C,st=>match HE st with
  |some q=>Oi C q
  |none=>match HF st with
   |some (y,x)=>(loc C y).bind λj=>(loc C x).bind λi=>(rkc C).map λ(A,_)=>AE j A i
   |none=>match(vEx st).bind λe=>if EV e then rd e else qb with
    |some r=>pi (pX r.A r.i r.M r.fs)
    |none=>match Mg st with
     |some (c,a,b)=>(match vOr c with
      |some es=>orT rd C es
      |none=>cT rd C c).bind λt=>(gSs n rd C a).bind λg=>(gSs n rd C b).map λh=>v6 t g h
     |none=>match st with
      |.For tg it b [] _=>(cF tg).bind λ(xs,k)=>(FH 50 C qe it).bind λf=>(eG (λx=>loc C x) xs).bind λis=>if(bY it).isNone then(gSs n rd C b).map λg=>wZ is (k==0) f g else qb
      |st=>D9 50 qc C st
noncomputable def gSs:Nat->(Expr->L7 MRd)->SK.Ctx->L1 Stmt->L7 FS
 |0,_,_,_=>qb
 |n+1,rd,C,l=>match l with
  |[]=>pi aU
  |st::r=>match r.head?.bind (NA st)with
   |some q=>(twI C q).bind λt=>(gSs n rd C q.body).bind λg=>(gSs n rd C r.tail).map λh=>aR (ET t.iP t.io t.ia t.A t.fc g t.i1 q.n1 t.i2 q.n2) h
   |none=>(gS n rd C st).bind λg=>(gSs n rd C r).map λh=>aR g h
end
structure LawG(X:Cx)(ad:Ad)(C:SK.Ctx)(Δ:Pl->Prop)(rd:Expr->Option MRd):Prop where
 O:StOk X ad C
 pass:PassesOwn (model X.prog X.w) X.A X.env X.xe
 made: ∀A ms,C.tab.lookup ("Rack":Str)=pi (SK.Gl.cls A ms)->MkOk X ad A
 rd: ∀e r,rd e=pi r->LPE X Δ e (mV X ad r.A r.i r.M r.fs)
 tw: ∀A ms,C.tab.lookup ("Rack":Str)=pi (SK.Gl.cls A ms)->TwOk X ad A "twin"
 hf: ∀p,ad.fnA (1000+p)=p
section
variable{X:Cx}{ad:Ad}{C:SK.Ctx}{Δ:Pl->Prop}{rd:Expr->L7 MRd}{e:Expr}{Z:(St->Nat->Hp->Prop)->Prop}
def DC(O:StOk X ad C)(h:HA C e=pi r):PE X e (mV X ad r.A r.i r.M r.fs):=by
 unfold HA at h;have b:=zBd h;clear h;obtain⟨⟨A,L⟩,E,h⟩:=b;have b:=zBd h;clear h;obtain⟨c,j,h⟩:=b;have b:=zBd h;clear h;obtain⟨⟨x,p⟩,w,h⟩:=b;obtain⟨rfl,u⟩:=i8 j;clear j;obtain⟨o,m,K,Q,N⟩:=c;have g:bY o=pi (x,p):=w;cases aS g;have b:=zBd h;clear h;obtain⟨i,z,h⟩:=b;have b:=zBd h;clear h;obtain⟨⟨s,M⟩,H,h⟩:=b;simp only at h;split at h;rename_i d;obtain⟨fs,l,h⟩:=zBd h;split at h;rename_i y;cases h;obtain⟨_,J,I⟩:=(O.cx.gt _ _ (sI E)).2;obtain⟨n,v,B,q⟩:=O.cx.vis x i z;obtain⟨t,f⟩:=oV (dY (ad:=ad) 50).1 O.cx l;exact EH J (I m s M H) n v B q t y (λa r e=>by
  subst e;exact⟨aM (f a (.head _)),g9 λe G=>f e (.tail _ G)⟩) (eL l).symm (oX f d) u
 cases h;cases h
def HI(L:LawG X ad C Δ rd)(h:cT rd C e=pi c):LPT X Δ e (tTx X ad Z c):=by unfold cT at h;split at h;rename_i o j;cases h;have l:=zBd j;clear j;obtain⟨⟨a,n,b⟩,d,h⟩:=l;obtain⟨r,m,h⟩:=zBd h;obtain⟨g,i,rfl⟩:=zMd h;obtain⟨p,rfl⟩:=Ds d;exact Do L.O.cx.un (L.rd _ _ m) ((dY (ad:=ad) 50).1 X C _ _ L.O.cx i).1 (eK (aO i).2.1);obtain⟨f,d,rfl⟩:=zMd h;exact K0 (De ((dY (ad:=ad) 50).1 X C _ _ L.O.cx d).2.1)
theorem EW(L:LawG X ad C Δ rd){pos}: ∀{es} {c},orT rd C es=pi c->LPW X Δ (.BoolOp .Or es pos) (tTx X ad Z c)
 |[],c,h=>by cases h
 |[a],c,h=>Dp (HI L h)
 |a::b::r,c,h=>by
  unfold orT at h;obtain⟨f,d,h⟩:=zBd h;obtain⟨g,e,rfl⟩:=zMd h;exact Hx (HI L d) (EW L e)
def Lj(h:twI C q=pi t): ∃one at_,cF q.tg=pi ([one,at_],2)/\eG (λx=>loc C x) [one,at_]=pi [t.io,t.ia]/\loc C q.P=pi t.iP/\loc C q.a=pi t.i1/\loc C q.b=pi t.i2/\bZ 50 C q.c=pi t.fc/\DA C q.er=pi t.iP:=by
 unfold twI at h;obtain⟨⟨n,k⟩,o,h⟩:=zBd h;obtain⟨p,e,h⟩:=zBd h;obtain⟨iP,f,h⟩:=zBd h;obtain⟨i1,l,h⟩:=zBd h;obtain⟨i2,i,h⟩:=zBd h;obtain⟨fc,g,h⟩:=zBd h;obtain⟨⟨A,r⟩,s,h⟩:=zBd h;simp only at h;split at h;rename_i io ia;split at h;rename_i m;cases h;obtain⟨rfl,j⟩:=m;have d:=eL e;match n,d with
 |[one,at_],_=>exact⟨one,at_,o,e,f,l,i,g,j⟩
 cases h;cases h
theorem Ll{E₀}(L:LawG X ad C Δ rd): ∀n,(∀st g,gS n rd C st=pi g->LMS X Δ ad (Zt ad E₀ qc) st g)/\∀l g,gSs n rd C l=pi g->BS X Δ ad (Zt ad E₀ qc) l g
 |0=>⟨(λ_ _ h=>by cases h),(λ_ _ h=>by cases h)⟩
 |n+1=>by
  obtain⟨hS,u⟩:=Ll (E₀:=E₀) L n;obtain⟨W,kL,kI⟩:=dY (ad:=ad) 50;refine⟨λst g h=>?_,λl g h=>?_⟩;unfold gS at h;split at h;rename_i q' hp;obtain⟨kt,pt,np,cp,k2,ag,B,ec,rfl⟩:=Du hp;unfold Oi at h;split at h;rename_i K;obtain⟨hz,Z,E⟩:=K;have S:=zBd h;clear h;obtain⟨⟨A',J⟩,H,h⟩:=S;obtain⟨i,s,h⟩:=zBd h;obtain⟨j,o,h⟩:=zBd h;obtain⟨f,v,rfl⟩:=zMd h;rw[ec]at E;rw[hz]at Z E ⊢;obtain⟨hd,M,_,_⟩:=L.O.cx.gt _ _ (sI H);exact AS (Dt L.O (L.made A' J (sI H)) (W X C _ _ L.O.cx v).1 (aO v).1 s o (L.O.cx.gk _ Z) M hd E);cases h;split at h;rename_i y x G;obtain⟨yp,np,ap,cp,B,rfl,N⟩:=Dv G;obtain⟨j,s,h⟩:=zBd h;obtain⟨i,o,h⟩:=zBd h;obtain⟨⟨A,J⟩,H,rfl⟩:=zMd h;exact AS (Hg L.O (L.O.cx.gt _ _ (sI H)).2.2.1 (L.tw A J (sI H)) o s N);split at h;rename_i r hr;cases h;obtain⟨e,s,o⟩:=zBd hr;obtain⟨p,rfl⟩:=Le s;split at o;rename_i K;obtain⟨a,b,c,d,rfl⟩:=AY K;exact Hz (L.rd _ _ o) rfl;cases o;split at h;rename_i c a b G;obtain⟨B,rfl⟩:=AR G;obtain⟨t,s,h⟩:=zBd h;obtain⟨Q,o,h⟩:=zBd h;obtain⟨w,v,rfl⟩:=zMd h;refine Hy ?_ (u _ Q o) (u _ w v);split at s;rename_i es he;obtain⟨p,rfl⟩:=Ld he;exact(EW L s).pt;exact HI L s;split at h;rename_i tg T b B _ _ _ _;have S:=zBd h;clear h;obtain⟨⟨xs,m⟩,s,h⟩:=S;obtain⟨f,o,h⟩:=zBd h;obtain⟨is,v,h⟩:=zBd h;have ns: ∀a b c,T≠ .Set a b c:=λa b c z=>by subst z;exact rW o
  split at h;rename_i G;obtain⟨w,h4,rfl⟩:=zMd h;have hn: ∀x p,T≠ .Name x p:=CV (dy.mp G);exact Hw L.pass L.O.cx.calm L.O.cx.nd ((kI X C tg _ qe f L.O.cx (λz=>nomatch z) o).2 rfl hn) s (L.O.nms v) (u _ w h4) (Cq ns);cases h;exact AS ((rZ (ad:=ad) (E₀:=E₀) 50).1 X C qc _ g L.O (λz=>nomatch z) h);unfold gSs at h;split at h;cases h;exact Dn;rename_i st r;split at h;rename_i q I;obtain⟨st2,Y,I⟩:=zBd I;rcases r with _|⟨U,r⟩;cases Y;cases Y;obtain⟨k1,k2,j1,j2,p1,p2,p3,p4,p5,p6,p7,p8,p9,ak,am,ab,rfl,rfl⟩:=HH I;obtain⟨t,s,h⟩:=zBd h;obtain⟨w,o,h⟩:=zBd h;obtain⟨gr,v,rfl⟩:=zMd h;refine gzq λRz ez=>?_;obtain⟨one,al,a1,a2,a3,a4,a5,a6,a7⟩:=Lj s;subst ez;exact Dr L.O L.pass L.hf a3 a4 a5 a1 a2 (W X C _ _ L.O.cx a6).2.1 (DB L.O.cx a7) (u _ w o) (u _ gr v);obtain⟨Q,s,h⟩:=zBd h;obtain⟨w,o,rfl⟩:=zMd h;exact AT (hS _ Q s) (u _ w o)
end
noncomputable def Lm(H:Hp)(Ps:L1 Addr):Hp:=λb=>if b∈Ps then pi (.lst [])else H b
def sJ(h:Lm H Ps b=qb):H b=qb/\b∉Ps:=by unfold Lm at h;by_cases e:b∈Ps;rw[if_pos e]at h;cases h;rw[if_neg e]at h;exact⟨h,e⟩
def HJ(h:H b=qb)(n:b∉Ps):Lm H Ps b=qb:=by unfold Lm;rw[if_neg n];exact h
noncomputable def tbs(Ps:L1 Addr):Pl:=Ps.map λP=>(P,k8 #[])
def A0{ad}(L:LawG (cxP Ps X) ad C Δ rd)(hg:gSs n rd C b=pi g)(I:Inv (cxP Ps X) [] (vs.map pi++ao m qb) H s)(hH:X.H₀=H)(hpn:X.pn=[])(hΔ:Δ (tbs Ps))(ht: ∀P∈Ps,s.heap.get? P=pi (k8 #[])/\H P=qb/\P∉X.fs)(hG:Same G H)(r:aK X.K ad G ds vs)(hm:g (ds.map SK.Slot.sh++ao m .no)= .rt (.ok (.bl qc))):
  X.wp (execs b X.env) (λf s'=>f= .ret (.bool qc)/\∃σ' H' L,Δ L/\Inv (cxP Ps X) [] σ' H' s'/\∀p∈L,s'.heap.get? p.1=pi p.2) X.xe s:=by
 have B:Inv (cxP Ps X) (tbs Ps++[]) (vs.map pi++ao m qb) H s:=I.pins_of λp a=>by
  rw[j3]at a;obtain⟨P,i,rfl⟩:=au.mp a;obtain⟨x,o,y⟩:=ht P i;exact⟨x,o,(I.ok.exf P i).1,y,λv z=>nomatch z⟩
 have T:TD Δ (tbs Ps) ((cxP Ps X).pn++[]):=⟨hΔ,λp _ r M=>by
  have e:r∈X.pn++[]:=M;rw[hpn]at e;cases e⟩
 refine L2.thn ((Ll (E₀:=λ_ _ _=>False) L n).2 b g hg [] _ s _ H ⟨λ_ _=>False,λv _=>v= .bl qc,λ_ _=>False,λ_ _=>False⟩ T B ⟨G,G,ds.map SK.Slot.sh++ao m .no,λ_ _ _=>False,?_,⟨λO U H s e s' _ N=>?_,λz=>nomatch z⟩,?_⟩) λf s' c=>?_;have h:Same G (cxP Ps X).H₀:=by
  show Same G X.H₀;rw[hH];exact hG
 have:=i0 (X:=cxP Ps X) (ad:=ad) (n:=m) h r;have e:(cxP Ps X).H₀=H:=hH;rwa [e]at this;obtain⟨_,_,_,_,_,_,_,_,_,_,_,_,_,_,_,_,z⟩:=N;exact z.elim;rw[hm];intro v Q H' S q;unfold Rep at q;exact q;obtain⟨l,j,c⟩:=c;cases f with
 |next=>obtain⟨_,_,_,z⟩:=c;exact z.elim
 |brk=>obtain⟨_,_,_,z⟩:=c;exact z.elim
 |cont=>obtain⟨_,_,_,z⟩:=c;exact z.elim
 |ret u=>
  obtain⟨v,σ',H',J,E,t⟩:=c;have d:v= .bl qc:=t;subst d;obtain rfl:u=ou qc:=E;exact⟨rfl,σ',H',l,j.tb,J.pins_of (λp a=>by cases a),λp a=>(J.pin p (bt _ (gc _ a))).1⟩
section
variable{K:Frag}{ad:Ad}{kV:Value}{cL:Nat}{CP:L1 (Addr×Addr)}
def sK(KX:K.In s₁.heap)(hns:s₁.heap.Ns mainGlobals mg)(hb:s₁.heap.Ns builtinsNs mb)(hbb: ∀x:Str,x≠"__name__"->mb x=bootBuiltins x)(hlim:s₁.heap.NoLimit)(hg:s₁.gens= #[])(lk:K.lookup fa=pi ⟨oc,od,.func (ni name qual params body scope dV kV doc pm an (.ref cL) ct),osl⟩)(hcd:ky K (.ref cL) qual=qc)(S:FnScope N [x] scope)(hbind: ∀s u,BindsTo s (ni name qual params body scope dV kV doc pm an (.ref cL) ct) ⟨[u],[]⟩ [(x,u)])(hr:Room (k+3) callerA)(hC: ∀z∈CP,lf s₁.heap z.1 z.2/\s₁.heap.BuiltinsAt mg z.2/\s₁.heap.get? z.2=pi (k8 #[])/\K.lookup z.2=qb)(hΔ:Δ (tbs (CP.map (·.2))))(hΔ': ∀L,Δ L->∀P∈CP.map (·.2), ∃ps,(P,k8 ps)∈L)(hO:MJ H)(hok:HOk P w H s₁.heap)(nd: ∀b o es ep,s₁.heap.get? b=pi o->o.data= .dict es ep->H b=qb)(nK: ∀b o,K.lookup b=pi o->H b=qb)(hn: ∀z∈CP,H z.1=qb/\H z.2=qb)(hbn: ∀bm o,s₁.heap.get? bm=pi o->o.data= .plain->H bm=qb)(LX: ∀base,K.In base->base.Ns mainGlobals mg->(∀z∈CP,lf base z.1 z.2/\base.BuiltinsAt mg z.2/\base.get? z.2=qb)->LawG (cxP (CP.map (·.2)) (kN (CXe P w) P w K mg base N qual scope fa (.ref cL) callerA [] s₁ H λ_ _ _=>False)) ad C Δ rd)(hread:gSs n rd C body=pi g)(hG:Same G H)(rp:aK K ad G [d] [.ref a])(hN:N.length=m+1)(hm:g ([d].map SK.Slot.sh++ao m .no)= .rt (.ok (.bl qc))):
  codeAny (model P w) callerA (.call (.ref fa) ⟨[.ref a],[]⟩) (λr s'=>r= .ok (.ret (.bool qc))/\OldK s₁.heap s'.heap/\s'.os=s₁.os/\AllBare s'.gens) s₁:=by
 let base:=IV s₁.heap (Lm H (CP.map (·.2)));have c: ∀{b:Addr} {o:Obj},s₁.heap.get? b=pi o->H b=qb->b∉CP.map (·.2)->base.get? b=pi o:=λe n z=>BU e (HJ n z);have l: ∀{b:Addr} {o:Obj},s₁.heap.get? b=pi o->o≠k8 #[]->b∉CP.map (·.2):=λ{b o} e z y=>by
  obtain⟨p,j,rfl⟩:=au.mp y;rw[(hC p j).2.2.1]at e;exact z (jw e).symm
 have q: ∀{b:Addr} {mm:Str->L7 Value},s₁.heap.Ns b mm->base.Ns b mm:=λ{b mm} ⟨o,es,ep,e,dd,r⟩=>⟨o,es,ep,c e (nd _ _ _ _ e dd) (l e λz=>by rw[z]at dd;cases dd),dd,r⟩;have U:K.In base:=λb o e=>c (KX b o e) (nK b o e) λz=>by
  obtain⟨p,j,rfl⟩:=au.mp z;rw[(hC p j).2.2.2]at e;cases e
 have hM:Mod K mg base:=⟨U,q hns,⟨mb,q hb,hbb⟩,let ⟨mc,h1,h2⟩:=hlim;⟨mc,q h1,h2⟩⟩;have e0:Env0 P w K mg base callerA [] s₁ H:=⟨rfl,hM,λb o e=>⟨(sW e).1,(sJ (sW e).2).1⟩,Nat.le_of_eq (xZ _ _),trivial,λb hb=>absurd (show b∈([]:L1 Addr) from hb) (by simp),hok,.of_eq hg⟩;have M: ∀P∈CP.map (·.2),base.get? P=qb:=λP E=>by
  rcases e:base.get? P with _|o;rfl;exact absurd E (sJ (sW e).2).2
 have L:=LX base U (q hns) λz I=>by
  obtain⟨h1,h2,h3,h4⟩:=hC z I;refine⟨?_,?_,M _ (List.mem_map_of_mem I)⟩;refine gzq λRz ez=>?_;obtain⟨o,vs,Y,tf,A,tg,al,T,tt,t,O,Q,r⟩:=h1;subst ez;exact⟨o,vs,Y,tf,A,tg,al,T,tt,c t (hn z I).1 (l t λy=>by rw[y]at Q;cases Q;exact absurd r.1 (by simp)),O,Q,r⟩;refine gzq λRz ez=>?_;obtain⟨bm,o,b1,b2,b3,b4,b5,b6,b7,Z⟩:=h2;subst ez;exact⟨bm,o,b1,b2,b3,b4,c b5 (hbn bm o b5 Z) (l b5 λy=>by rw[y]at Z;cases Z),b6,b7,Z⟩
 let X:=kN (CXe P w) P w K mg base N qual scope fa (.ref cL) callerA [] s₁ H λ_ _ _=>False;have B: ∀y∈[(x,pf a)],scope.names.lookup y.1=pi .local\/(scope.names.lookup y.1=pi .cell/\((cellsFrom (s₁.z+1) scope.names []).lookup y.1).isSome=qc):=λy hy=>by
  rw[ip.mp hy];rcases S.par x (.head _)with z|z;exact .inl z;exact .inr ⟨z,e7 _ _ _ (.inl z)⟩
 refine codeAny_call_function hr.depth (KX _ _ lk) rfl S.co S.gen rfl (ij KX hcd) (hbind _ _ _ _ _ _ ?_);refine wpAny_newFunctionEnv_cells S.kind B λap he s1 y=>?_;subst he;refine⟨hlim.keeps y.toInCall.keep,codeAny_func ?_⟩;have I0:Inv X [] (start N [.ref a]) H s1:=gE (vs:=[.ref a]) (us:=[.ref a]) (ps:=[x]) S hr.hd e0 rfl (.cons rfl .nil) y;have v: ∀b,b∉X.fs:=λb z=>absurd (show b∈([]:L1 Addr) from z) (by simp);have I1:Inv (cxP (CP.map (·.2)) X) [] (start N [.ref a]) H s1:=K3 I0 rfl (λP E=>by
  obtain⟨p,j,rfl⟩:=au.mp E;exact⟨ah (hC p j).2.2.1,M _ E,v _⟩) λz d h=>mr (y.above z d (gy h))
 have ag:start N [V.ref a]=[V.ref a].map pi++ao m qb:=by
  unfold L2.start;have e:N.length - [V.ref a].length=m:=by rw[hN];simp
  rw[e]
 rw[ag]at I1;refine wpAny_mono (A0 (X:=X) L hread I1 rfl rfl hΔ (λP E=>by
  obtain⟨p,j,rfl⟩:=au.mp E;exact⟨y.toInCall.keep _ _ (hC p j).2.2.1,(hn p j).2,v _⟩) hG rp hm) (λfl s' hs=>?_) λe s' hs=>?_
 obtain⟨rfl,am,H',L',dl,J,hL⟩:=hs;refine⟨rfl,⟨λb o e=>?_,λb o e=>?_⟩,J.os,J.bare⟩;by_cases i:b∈CP.map (·.2);obtain⟨ps,j⟩:=hΔ' L' dl b i;have ak:=hL _ j;obtain⟨z,I,rfl⟩:=au.mp i;rw[(hC z I).2.2.1]at e;cases e;obtain⟨co,vs,_,_,_,_,_,_,_,t,O,Q,e4,_⟩:=(hC z I).1;exact .inr (.inl ⟨⟨z.1,co,vs,t,O,Q,e4⟩,rfl, #[],ps,rfl,by rw[ak];simp[k8]⟩);refine .inl ?_;have nx:b∉(cxP (CP.map (·.2)) X).ex:=i;rcases hh:H b with _|u;exact J.base.keep b o e hh (v b) nx;rcases hO b with z|⟨ob,xs,z⟩;rw[hh]at z;cases z;have z2:=J.base.frzs b ob _ z;obtain⟨t,_⟩:=hok b _ z;obtain⟨O,_⟩:=J.hok b _ z2;rw[e]at t;cases t;exact O;by_cases i:b∈CP.map (·.2);obtain⟨ps,j⟩:=hΔ' L' dl b i;exact⟨_,hL _ j⟩;exact J.base.there b o e i;have no: ∀(e:Value) (f:Shared),CXe P w [] H s₁ (λ_ _ _=>False) e f->False:=λe f z=>by
  refine gzq λRz ez=>?_;obtain⟨_,_,_,_,_,_,_,_,_,_,_,_,_,_,z⟩:=z;subst ez;exact z
 have ab:wpAny (model P w) (callerA.deeper (envOfC qual scope s₁.z fa (.ref cL))) (leaving (envOfC qual scope s₁.z fa (.ref cL)) e) (λ_ f=>CXe P w [] H s₁ (λ_ _ _=>False) e f) (λe' f=>CXe P w [] H s₁ (λ_ _ _=>False) e' f) s':=hs;exact wpAny_mono ab (λ_ f z=>(no _ _ z).elim) λe' f z=>(no _ _ z).elim
end
def HK{ad}(hF:FnOk X.prog X.w X.K X.mg X.base (CXe X.prog X.w) k fa fd prs (spM X.K ad A n M))(hr:Room k X.A)(hb:dO X.K fd prs [])(hg:L2.Gl X tn)(hm:X.mg tn=pi (.ref fa))(hdb:(tn==("__debug__":Str))=qe)(hk:ku X.K (.ref fa)=qc)(hN:X.N[i]? =pi x)(hv:Vis X.env.scope x)(hd:(x==("__debug__":Str))=qe)(hcd:(x==("__classdict__":Str))=qe)(ha:MA X ad es fs)(hn:fs.length=n)(hst:starEach (.Name x px::es) X.env=(qe,eval (.Name x px) X.env)::starEach es X.env)(hany:(backTo cp (starEach es X.env)).any (·.1)=qe):
  PE X (.Call (.Name tn p) (.Name x px::es) [] cp) (mV X ad A i M fs):=by
 rintro cc s B H Q I ⟨G,ρ,E,r,g,y,d,v,u,hG,hS,q,h1,hR,hA⟩;refine wpAny_Call_Name_kw (fT I hg hm ?_ hdb);refine im (h₀:=X.base) I.ok.mod.kin hk (L2.thn (bI (bO hN hv hd hcd) (ha) hst cp _ s B H (λvs m=>∃h a b,vs= .ref g::h/\Step G H b m/\aK X.K ad b a h/\a.length=n/\RMK X.K ad A b m g y d v u (M r a) Q E) I ?_) λus s2 hz=>?_) hst hany;refine⟨.ref g,h1,?_⟩;obtain⟨C,j,E',a1,Z,T,f⟩:=hA;refine⟨C,j,E',a1,Z,T,?_⟩;cases e:args fs j with
 |ok J=>
  rw[e]at f;intro vs b m l t;obtain⟨a,G2,z,b2,O,L⟩:=f vs b m l t;exact⟨vs,a,G2,rfl,z,b2,O.trans hn,L⟩
 |ex c=>rw[e]at f;exact f
 |bad=>rw[e]at f;exact f
 refine gzq λRz ez=>?_;obtain⟨vs,Y,o,r2,h,a,b,S,l,t,U,hq⟩:=hz;subst ez;subst S;exact⟨o.kIn,oK (vs:=V.ref g::h) (E:=xk ad E) hF hr hb o r2 ⟨b,g,r,y,d,v,u,a,h,rfl,l.gh,hR.step l,t,U,hq.impE λc H' e=>⟨c,rfl,e⟩⟩ λe s' hc=>q cc Y s2 e s' o hc⟩
def EX(T:Top p loose mean mg mb h)(hT:h.get? P0=pi (k8 #[])):h.BuiltinsAt mg P0:=by obtain⟨i,l,d,m,a,f,j,b⟩:=T.bmain;refine⟨i,l,d,m,λz=>?_,λz=>?_,a,f,j,b⟩;obtain⟨o,n,q,e,c,_⟩:=T.g;rw[<-z,a]at e;cases e;rw[b]at c;cases c;rw[z,hT]at a;cases a;cases b
section
variable{K:Frag}{ad:Ad}{kV:Value}{cL:Nat}{CP:L1 (Addr×Addr)}
def A5(KX:K.In s₁.heap)(hns:s₁.heap.Ns mainGlobals mg)(hb:s₁.heap.Ns builtinsNs mb)(hbb: ∀x:Str,x≠"__name__"->mb x=bootBuiltins x)(hlim:s₁.heap.NoLimit)(hg:s₁.gens= #[])(ha:s₁.heap.get? a=pi {cls:=.type "list",data:=.seq vs.toArray})(hi:IntsAre vs ns)(hl:ns.length<=sizeLine)(lk:K.lookup fa=pi ⟨oc,od,.func (ni name qual params body scope dV kV doc pm an (.ref cL) ct),osl⟩)(hcd:ky K (.ref cL) qual=qc)(S:FnScope N [x] scope)(hbind: ∀s u,BindsTo s (ni name qual params body scope dV kV doc pm an (.ref cL) ct) ⟨[u],[]⟩ [(x,u)])(hr:Room (k+3) callerA)(hC: ∀z∈CP,lf s₁.heap z.1 z.2/\s₁.heap.BuiltinsAt mg z.2/\s₁.heap.get? z.2=pi (k8 #[])/\K.lookup z.2=qb)(hΔ:Δ (tbs (CP.map (·.2))))(hΔ': ∀L,Δ L->∀P∈CP.map (·.2), ∃ps,(P,k8 ps)∈L)(LX: ∀base H,K.In base->base.Ns mainGlobals mg->(∀z∈CP,lf base z.1 z.2/\base.BuiltinsAt mg z.2/\base.get? z.2=qb)->LawG (cxP (CP.map (·.2)) (kN (CXe P w) P w K mg base N qual scope fa (.ref cL) callerA [] s₁ H λ_ _ _=>False)) ad C Δ rd)(hread:gSs n rd C body=pi g)(hrep: ∀H,MJ H->SqL K H a (ns.map V.int)->∃G,Same G H/\aK K ad G [d] [.ref a])(hN:N.length=m+1)(hm:g ([d].map SK.Slot.sh++ao m .no)= .rt (.ok (.bl qc))):
  codeAny (model P w) callerA (.call (.ref fa) ⟨[.ref a],[]⟩) (λr s'=>r= .ok (.ret (.bool qc))/\OldK s₁.heap s'.heap/\s'.os=s₁.os/\AllBare s'.gens) s₁:=by
 have q:=qO hi;have h:=hi.length;rcases hk:K.lookup a with _|o;have i: ∀{b:Addr} {o:Obj},s₁.heap.get? b=pi o->o.data≠ .seq vs.toArray->b≠a:=λ{b o} e z y=>by
  rw[y,ha]at e;cases e;exact z rfl
 let H:Hp:=λb=>if b=a then pi (.frz {cls:=.type "list",data:=.seq vs.toArray} (.lst (ns.map V.int)))else qb
 have c: ∀{b:Addr},b≠a->H b=qb:=λz=>if_neg z;have v:MJ H:=λb=>by
  by_cases hb:b=a;exact .inr ⟨_,_,if_pos hb⟩;exact .inl (if_neg hb)
 have j:HOk P w H s₁.heap:=λb u z=>by
  by_cases hb:b=a;have f:=(if_pos hb).symm.trans z;cases f;subst hb;exact⟨ha,by rw[aq];exact hl,vs,_,q,ha⟩;have f:=(if_neg hb).symm.trans z;cases f
 obtain⟨G,p,l⟩:=hrep H v (.inl (.inr ⟨{cls:=.type "list",data:=.seq vs.toArray},if_pos rfl⟩));refine sK (H:=H) KX hns hb hbb hlim hg lk hcd S hbind hr hC hΔ hΔ' v j (λb o E M e z=>c (i e (by rw[z];exact λy=>nomatch y))) (λb o e=>c λy=>by rw[y,hk]at e;cases e) (λz t=>⟨?_,c (i (hC z t).2.2.1 λy=>nomatch y)⟩) (λI o e z=>c (i e (by rw[z];exact λy=>nomatch y))) (λbase=>LX base _) hread p l hN hm;refine gzq λRz ez=>?_;obtain⟨o,J,_,_,_,_,_,_,_,B,_,A,_⟩:=(hC z t).1;subst ez;exact c (i B (by rw[A];exact λy=>nomatch y));have e:=KX a o hk;rw[ha]at e;cases e;obtain⟨G,p,l⟩:=hrep (λ_=>qb) (λ_=>.inl rfl) (.inr ⟨_,vs.toArray,_,hk,rfl,rfl,rfl,by rw[ax,h];exact hl,by simpa using q⟩);exact sK (H:=λ_=>qb) KX hns hb hbb hlim hg lk hcd S hbind hr hC hΔ hΔ' (λ_=>.inl rfl) (λb u z=>by have f:(qb:L7 HO)=pi u:=z;cases f) (λ_ _ _ _ _ _=>rfl) (λ_ _ _=>rfl) (λ_ _=>⟨rfl,rfl⟩) (λ_ _ _ _=>rfl) (λbase=>LX base _) hread p l hN hm
end
def HL cs C0 fs: ∀p,(BR cs C0 fs).fnA (1000+p)=p:=λp=>by
 show(if 1000+p<1000 then fs.getD (1000+p) 0 else 1000+p-1000)=p;rw[if_neg (by lia)];lia
structure LawGT(P:Program)(w:World)(K:Frag)(mg:Str->Option Value)(fa:Addr)(name did:Str)(ad:Ad)(C:SK.Ctx)(Δ:Pl->Prop)(rd:Expr->Option MRd)(g:FS)(k n m:Nat)(cL P1 c P0:Addr)(params:Arguments)(body:List Stmt)(scope:Scope):Prop where
 lk: ∃oc od dV kV doc pm an ct osl,K.lookup fa=pi ⟨oc,od,.func (ni name name params body scope dV kV doc pm an (.ref cL) ct),osl⟩/\∀(s:Shared) (u:Value),BindsTo s (ni name name params body scope dV kV doc pm an (.ref cL) ct) ⟨[u],[]⟩ [("_law_script",u)]
 cd:ky K (.ref cL) name=qc
 sc:bW (aC scope) ["_law_script"] scope=qc
 room:Room (k+3) callerA
 tab1:tabIn K name=pi (cL,P1)
 tab:tabIn K did=pi (c,P0)
 out:K.lookup P0=qb/\K.lookup P1=qb
 tb0:Δ (tbs [P1,P0])
 tb1: ∀L,Δ L->∀P∈[P1,P0], ∃ps,(P,k8 ps)∈L
 lx: ∀(s₁:Shared) (base:Heap) (H:Hp),K.In base->base.Ns mainGlobals mg->(∀z∈[(cL,P1),(c,P0)],lf base z.1 z.2/\base.BuiltinsAt mg z.2/\base.get? z.2=qb)->LawG (cxP [P1,P0] (kN (CXe P w) P w K mg base (aC scope) name scope fa (.ref cL) callerA [] s₁ H λ_ _ _=>False)) ad C Δ rd
 read:gSs n rd C body=pi g
 len:(aC scope).length=m+1
 tru: ∀ns:List Int,g ([D.lst (ns.map D.int)].map SK.Slot.sh++ao m .no)= .rt (.ok (.bl qc))
def walkG{l:PySem.W.OpenLaw}{XP}{K:Params->mj}(hn:l.most=pi 63)(hdf:d.params.defaults=[])(hY: ∀w h,YP w h->(K w.params).In h)(hrec: ∃e,(recsOf q).find? (λe=>e.name==did)=pi e)(hrec1: ∃e,(recsOf q).find? (λe=>e.name==d.name)=pi e)(F: ∀w mg fa h,(K w.params).In h->h.Ns mainGlobals mg->mg d.name=pi (.ref fa)->∃ad C Δ rd g k n m cL P1 c P0 params body scope,LawGT l.prog w (K w.params) mg fa d.name did ad C Δ rd g k n m cL P1 c P0 params body scope):
  PySem.W.WalkO q loose XP YP l.row.toRowW d [] (λf vs=>PySem.call f vs):=by
 refine Att.attach_call hn hdf λw I t mg mb fa o pm cd Z a vs E G Y ho hd Q A p i j hg=>?_;have u:=hY w _ Y;obtain⟨ad,C,Δ,rd,g,k,n,m,cL,P1,c,P0,params,body,scope,L⟩:=F w mg fa _ u G.T.g A;obtain⟨e,X⟩:=hrec;obtain⟨M,B⟩:=tab_of G.T u X L.tab;obtain⟨e1,x⟩:=hrec1;obtain⟨v,r⟩:=tab_of G.T u x L.tab1;obtain⟨oc,od,dV,kV,J,N,an,ct,S,lk,O⟩:=L.lk;refine A5 (d:=.lst (E.map D.int)) u G.T.g G.T.b G.T.builtins G.T.nolimit hg p i (mq j (by decide)) lk L.cd (cH L.sc).1 O L.room (CP:=[(cL,P1),(c,P0)]) (λz y=>by
  rcases av.mp y with rfl|y;exact⟨v,EX G.T r,r,L.out.2⟩;rw[ip.mp y];exact⟨M,EX G.T B,B,L.out.1⟩) L.tb0 L.tb1 (λs H=>L.lx t s H) L.read (λH _ U=>⟨H,Same.refl _,aK.cons (by unfold Rep;exact⟨a,_,rfl,U,aK.map_int⟩) aK.nil⟩) L.len (L.tru E)
def Ln{q1 q0}(h:P1≠P0):Two (TbL P1 q1) (TbL P0 q0) (tbs [P1,P0]):=
 ⟨[(P1,k8 #[])],[(P0,k8 #[])],rfl,⟨#[],[],rfl,EQ⟩,⟨#[],[],rfl,EQ⟩,λp a r b=>by rw[ip.mp a,ip.mp b];exact h.symm⟩
def Lo{q1 q0}L(h:Two (TbL P1 q1) (TbL P0 q0) L)P(hP:P∈[P1,P0]): ∃ps,(P,k8 ps)∈L:=by obtain⟨d,M2,rfl,⟨ps,c,rfl,_⟩,⟨a,b,rfl,_⟩,_⟩:=h;rcases av.mp hP with rfl|hP;exact⟨ps,.head _⟩;rw[ip.mp hP];exact⟨a,bt _ (.head _)⟩
section
variable{K:Frag}{ad:Ad}{tab:L1 (Str×SK.Gl)}{F:Fn}{ms:GMs}
def HM(B:ExcK K ad)(TB:eB P w K mg base ad k tab)(FB:gB P w K mg base ad k fns)(hs:bW (aC sc) [x] sc=qc)(hr:Room (k+4) callerA)(hms:tab.lookup ("Rack":Str)=pi (SK.Gl.cls A ms))(mk: ∀A ms,tab.lookup ("Rack":Str)=pi (SK.Gl.cls A ms)->∃f r fd ps,r<=k/\Mk K A f/\FnOk P w K mg base (CXe P w) r f fd ps (spI K ad A)/\dO K fd ps [])(hD:Hq (cxP [P1,P0] (kN (CXe P w) P w K mg base (aC sc) qual sc fa (.ref cL) callerA [] s₁ H λ_ _ _=>False)) ad A nd P0 q (k+3) fa1 fd1 prs1 Md)(nx: ∀r ds c,Md r ds≠ .pure (.ex c))(hm1:mg dn=pi (.ref fa1))(hdb1:(dn==("__debug__":Str))=qe)(hk1:ku K (.ref fa1)=qc)(hb1: ∀s us,K.In s.heap->us.length=nd+1->BindsTo s fd1 ⟨us,[]⟩ (prs1.zip us))(hA:FnOk P w K mg base (CXe P w) r2 fa2 fd2 prs2 (spM K ad A na Ma))(h2:r2<=k+3)(hb2:dO K fd2 prs2 [])(hm2:mg an=pi (.ref fa2))(hdb2:(an==("__debug__":Str))=qe)(hk2:ku K (.ref fa2)=qc)(told: ∃ft fd dn,mg tn=pi (.ref ft)/\ku K (.ref ft)=qc/\mC P w K mg base ad (k+1) ft fd dn F/\∀s u,K.In s.heap->BindsTo s fd ⟨[u],[]⟩ [(dn,u)])(tdb:(tn==("__debug__":Str))=qe)(hC:lf base cL P1)(hB:base.BuiltinsAt mg P1)(hT: ∃f r fd ps,r<=k+3/\Meth K A "twin" f/\FnOk P w K mg base (CXe P w) r f fd ps (Me K ad A)/\dO K fd ps [])(hf: ∀p,ad.fnA (1000+p)=p):
  LawG (cxP [P1,P0] (kN (CXe P w) P w K mg base (aC sc) qual sc fa (.ref cL) callerA [] s₁ H λ_ _ _=>False)) ad ⟨tab,fns,sc,aC sc,bs⟩ (Two (TbL P1 ((envOfC qual sc s₁.z fa (.ref cL)).qual++"<lambda>")) (TbL P0 q)) (HC [(dn,nd,Md),(an,na,Ma)] tn F A ms ⟨tab,fns,sc,aC sc,bs⟩):=by
 have a:Room (k+3) (callerA.deeper (envOfC qual sc s₁.z fa (.ref cL))):=hr.deeper _;have O:StOk (cxP [P1,P0] (kN (CXe P w) P w K mg base (aC sc) qual sc fa (.ref cL) callerA [] s₁ H λ_ _ _=>False)) ad ⟨tab,fns,sc,aC sc,bs⟩:=(oY B TB FB hs (a.mono (by lia))).P;have I:=(TB _ _ hms).2;refine⟨O,PassesOwn.leaving (Q₁:=λe l=>CXe P w [] H s₁ (λ_ _ _=>False) e l),λA ms e=>let ⟨f,r,fd,ps,L,h2,m,t⟩:=mk A ms e;⟨f,r,fd,ps,h2,m,a.mono (by lia),t⟩,λe r j=>?_,λY X e=>by
  cases hms.symm.trans e;obtain⟨f,r,fd,ps,q1,S,T,U⟩:=hT;exact⟨⟨by decide,by decide,by decide⟩,f,r,fd,ps,S,T,a.mono q1,U⟩,hf⟩
 unfold HC at j;split at j;rename_i Z y;cases j;unfold rdG at y;have d:=zBd y;clear y;obtain⟨c,L,h⟩:=d;rw[HB L];have d:=zBd h;clear h;obtain⟨⟨n,M⟩,b,h⟩:=d;simp only at h;split at h;rename_i v;have d:=zBd h;clear h;obtain⟨i,m,h⟩:=d;have d:=zBd h;clear h;obtain⟨fs,t,h⟩:=d;split at h;rename_i N;cases h;obtain⟨E,J⟩:=oV (dY (ad:=ad) 50).1 O.cx t;obtain⟨z,G,Q,C⟩:=O.cx.vis _ i m;have gl:=O.cx.gk _ v;rw[jo]at b;rcases e:c.g==dn with _|_;rw[e,jo]at b;rcases o:c.g==an with _|_;rw[o]at b;cases b;rw[o]at b;cases b;rw[eq_of_beq o]at gl ⊢;exact EO (HK hA (a.mono h2) hb2 gl hm2 hdb2 hk2 z G Q C E N rfl (g9 J));rw[e]at b;cases b;rw[eq_of_beq e]at gl ⊢;exact(Hr hD a nx gl hm1 hdb1 hk1 hb1 (.tail _ (.head _)) ⟨rfl,rfl⟩ z G Q C E N rfl (g9 J)).snd;cases h;cases h;split at j;rename_i i M hT;cases j;exact(K8 ⟨O,B,TB,FB,I.2.1,I.2.2,told,tdb,a.mono (by lia),.head _,rfl,rfl,hC,hB⟩ hT).fst;exact EO (DC O j)
end
def aF(h:a ρ= .nx ρ'):aR a b ρ=b ρ':=by simp[aR,h]
def cU(h:a ρ= .rt r):aR a b ρ= .rt r:=by simp[aR,h]
def dP(h:e ρ= .ok d):fS i e ρ= .nx (ρ.set i (.sh d)):=by simp[fS,h,fU]
def o9(h:e ρ= .ow d):fS i e ρ= .nx (ρ.set i (.sh (.lst d))):=by simp[fS,h,fU]
def pA(h:e ρ= .ow d):wY i e ρ= .nx (ρ.set i (.ow d)):=by simp[wY,h]
def gN(h:e ρ= .ok (.tup ds))(l:ds.length=is.length):eT is e ρ= .nx (setN is ds ρ):=by simp[eT,h,fU,l]
def fD(h:e ρ= .ok d):kJ e ρ= .nx ρ:=by simp[kJ,h,fU]
def pB(h:e ρ= .ex c):kJ e ρ= .ex c ρ:=by simp[kJ,h,fU]
def aW(h:e ρ= .ok d):dW e ρ= .rt (.ok d):=by simp[dW,h]
def eN(h:c ρ= .ok (.bl qc)):sIf c a b ρ=a ρ:=by simp[sIf,h]
def dH(h:c ρ= .ok (.bl qe)):sIf c a b ρ=b ρ:=by simp[sIf,h]
def aY(h:b (ds.map Slot.sh++ao (n-ds.length) .no)= .rt (.ok d)):fnOf n b ds= .ok d:=by simp[fnOf,h]
def iN(h:b (ds.map Slot.sh++ao (n-ds.length) .no)= .ex c ρ):fnOf n b ds= .ex c:=by simp[fnOf,h]
def A6(h:b (ds.map Slot.sh++ao (n-ds.length) .no)= .nx ρ):fnOf n b ds= .ok .non:=by simp[fnOf,h]
def sL:jJ (xs.map D.int)=pi xs:=by
 induction xs with
 |nil=>rfl
 |cons x r a=>simp[jJ,a]
def xJ:fI (xs.map D.bl)=pi xs:=by
 induction xs with
 |nil=>rfl
 |cons x r a=>simp[fI,a]
def aZ(h:a ρ= .ok x)(k:b ρ= .ok y):aV op a b ρ=iQ op x y:=by simp[aV,h,k,R.bind]
def bA(h:a ρ= .ok x)(k:b ρ= .ok y):bH op a b ρ=dR op x y:=by simp[bH,h,k,R.bind]
def cZ(h:a ρ= .ok x)(k:b ρ= .ok y):rIx a b ρ=dIx x y:=by simp[rIx,h,k,R.bind]
def wD(h:a ρ= .ow x)(k:b ρ= .ok y):rIx a b ρ=dIx (.lst x) y:=by simp[rIx,h,k,R.bind]
def A7(h:a ρ= .ok (.bl b)):qP a ρ= .ok (.bl (!b)):=by simp[qP,h,R.bind]
def sM(h:a ρ= .ok (.bl qc)):kO a b ρ=b ρ:=by simp[kO,h,R.bind]
def A8(h:a ρ= .ok (.bl qe)):kO a b ρ= .ok (.bl qe):=by simp[kO,h,R.bind]
def HN(h:a ρ= .ok (.bl qc)):rOr a b ρ= .ok (.bl qc):=by simp[rOr,h,R.bind]
def xK(h:a ρ= .ok (.bl qe)):rOr a b ρ=b ρ:=by simp[rOr,h,R.bind]
def cO(h:a ρ= .ok x):aH f [a] ρ=f [x]:=by simp[aH,mO,args,h,RA.cons,RA.then]
def eE(h:a ρ= .ow x):aH f [a] ρ=f [.lst x]:=by simp[aH,mO,args,h,RA.cons,RA.then]
def dA(h:a ρ= .ok x)(k:b ρ= .ok y):aH f [a,b] ρ=f [x,y]:=by simp[aH,mO,args,h,k,RA.cons,RA.then]
def dQ(h:a ρ= .ok x)(k:b ρ= .ok y)(l:c ρ= .ok z):aH f [a,b,c] ρ=f [x,y,z]:=by simp[aH,mO,args,h,k,l,RA.cons,RA.then]
def eO(h:a ρ= .ok x)(k:b ρ= .ok y):dD [a,b] ρ= .ok (.tup [x,y]):=by simp[dD,mO,args,h,k,RA.cons,RA.then]
def A9(h:a ρ= .ok (.int i))(h':b ρ= .ok (.int j))(h'':c ρ= .ok (.int k)):kA .LtE .Lt a b c ρ= .ok (.bl (decide (i<=j)&&decide (j<k))):=by by_cases e:i<=j<;>simp[kA,h,h',h'',R.bind,dR,e]
def Lp{ds:L1 D}:IG [.lst (ds.map λd=>.bl (p d))]= .ok (.bl (ds.all p)):=by
 have e:(ds.map λd=>D.bl (p d))=(ds.map p).map D.bl:=by simp
 have k:(items (D.lst (ds.map λd=>D.bl (p d)))).bind fI=pi (ds.map p):=by
  show fI _=_;rw[e];exact xJ
 simp only[IG,k];simp
theorem nQ{f}{g}: ∀{ds},(∀d∈ds,f d=pi (pi (g d)))->bM f ds=pi (ds.map g)
 |[],_=>rfl
 |d::r,h=>by simp[bM,h d (.head _),nQ (ds:=r) λx m=>h x (.tail _ m)]
theorem nR{f}{P:D->Prop}: ∀{ds},(∀d∈ds, ∃x,f d=pi (pi x)/\P x)->∃xs,bM f ds=pi xs/\xs.length=ds.length/\∀x∈xs,P x
 |[],_=>⟨[],rfl,rfl,nofun⟩
 |d::r,h=>by
  obtain⟨x,e,p⟩:=h d (.head _);obtain⟨xs,a,l,q⟩:=nR (ds:=r) λx m=>h x (.tail _ m);refine⟨x::xs,by simp[bM,e,a],by simp[l],?_⟩;intro y m;cases m with
  |head=>exact p
  |tail _ m=>exact q y m
def i9(hi:it ρ= .ok (.lst ds)\/it ρ= .ok (.tup ds)\/it ρ= .ow ds)(h: ∀d∈ds,e (.sh d::mP cs ρ)= .ok (g d)):bS 0 cs it qb e ρ= .ow (ds.map g):=by
 have k:bM (dN 0 (mP cs ρ) qb e) ds=pi (ds.map g):=nQ λd m=>by simp[dN,tgt,h d m]
 rcases hi with hi|hi|hi<;>simp[bS,hi,R.bind,items,j9,k]
def fN{P:D->Prop}(hi:it ρ= .ok (.lst ds)\/it ρ= .ok (.tup ds)\/it ρ= .ow ds)(h: ∀d∈ds, ∃ts x,tgt n d=pi ts/\e (ts++mP cs ρ)= .ok x/\P x):
  ∃xs,bS n cs it qb e ρ= .ow xs/\xs.length=ds.length/\∀x∈xs,P x:=by
 obtain⟨xs,k,l,q⟩:=nR (f:=dN n (mP cs ρ) qb e) (P:=P) (ds:=ds) λd m=>by
  obtain⟨ts,x,a,b,c⟩:=h d m;exact⟨x,by simp[dN,a,b],c⟩
 refine⟨xs,?_,l,q⟩;rcases hi with hi|hi|hi<;>simp[bS,hi,R.bind,items,j9,k]
def eF(h:a ρ= .ok (.int n))(l:n<=100000):bX a ρ= .ok (.lst (qQ n)):=by
 have:(-100000:Int)<=(n:Int)/\(n:Int)<=100000:=by lia
 simp[bX,h,R.bind,N0,this]
def jA(h:d∈qQ n): ∃k,k<n/\d= .int k:=by simp only[qQ,au,List.mem_range]at h;obtain⟨k,a,b⟩:=h;exact⟨k,a,b.symm⟩
def eW:(qQ n).length=n:=by simp[qQ]
def gO{n:Nat}(h:xs[n]? =pi x):dIx (.lst xs) (.int n)= .ok x:=by obtain⟨l,e⟩:=ay.1 h;simp[dIx,items,ixD,l,e]
def uF{n:Nat}(h:xs[n]? =pi x):dIx (.tup xs) (.int n)= .ok x:=by obtain⟨l,e⟩:=ay.1 h;simp[dIx,items,ixD,l,e]
def EY(h:sml j=qc):iQ .Mult (.int i) (.int j)= .ok (.int (i*j)):=by simp[iQ,d8,h]
def EZ(h:sml i=qc):iQ .Mult (.int i) (.int j)= .ok (.int (i*j)):=by simp[iQ,d8,h]
def pC(h:0<j):iQ .Mod (.int i) (.int j)= .ok (.int (i % j)):=by simp[iQ,d8,h]
def Ba(h:0<j)(l:j<1073741824):iQ .FloorDiv (.int i) (.int j)= .ok (.int (i/j)):=by simp[iQ,d8,h,l]
def Lq(a: -18446744073709551616<i)(b:i<18446744073709551616):sml i=qc:=by simp[sml,a,b]
def pE(hi:it ρ= .ok (.lst ds)\/it ρ= .ok (.tup ds)\/it ρ= .ow ds):wZ is o it b ρ=jK (uV is o) b ds ρ:=by rcases hi with hi|hi|hi<;>simp[wZ,hi,fU,m8,items]
def fO:cE xs=qc↔ ∀x∈xs,plain x=qc:=by
 induction xs with
 |nil=>simp[cE]
 |cons x r a=>simp[cE,a]
def jV(a:plain x=qc)(b:plain y=qc)(c:dep y<=60):iO x y=qc:=by have:min (dep x) (dep y)<=60:=mq (Nat.min_le_right ..) c;simp[iO,a,b,this]
def mD(h:iO x y=qc):dR .Eq x y= .ok (.bl (deq x y)):=by simp[dR,h]
def uG(h:iO x y=qc):dR .NotEq x y= .ok (.bl (!deq x y)):=by simp[dR,h]
mutual
theorem pF: ∀d:D,plain d=qc->deq d d=qc
 |.non,_=>rfl
 |.bl b,_=>by simp[deq]
 |.int i,_=>by simp[deq]
 |.str x,_=>by simp[deq]
 |.tup xs,h=>by simp only[deq];exact mE xs h
 |.lst xs,h=>by simp only[deq];exact mE xs h
 |.exc _,h=>by simp[plain]at h
 |.fn _,h=>by simp[plain]at h
theorem mE: ∀xs:L1 D,cE xs=qc->xS xs xs=qc
 |[],_=>rfl
 |x::r,h=>by
  simp only[cE,aw]at h;simp[xS,pF x h.1,mE r h.2]
end
def Bb(h: ∀x∈xs,dep x=0):xT xs=0:=by
 induction xs with
 |nil=>rfl
 |cons x r a=>simp[xT,h x (.head _),a λy m=>h y (.tail _ m)]
end SK
namespace SK.k73
open SK
def aL:Fn:=λds=>KY (fnOf 3 (aR (fS 1 (gG [rIs (mT 9) (aB 0),rIs (mT 8) (aB 0),rIs (mT 3) (aB 0),rIs (mT 2) (aB 0)]))
 (aR (fS 1 (aV .Add (aB 1) (gG [rIs (mT 5) (aB 0),rIs (mT 1) (aB 0),rIs (mT 7) (aB 0)])))
 (aR (fS 1 (aV .Add (aB 1) (gG [rIs (mT 6) (aB 0),rIs (mT 4) (aB 0)])))
 (aR (sIf (rOr (bH .NotEq (tD yL (aE 1) (rK (.bl qc))) (rK (.int 1))) (qP (rIs (mT 100) (aB 0))))
 (aR (dW (rK (.str "wrong")))
  (aU))
 (aU))
 (aR (fS 2 (gG [rK (.str "no back"),rK (.str "no label"),rK (.str "no move"),rK (.str "no name"),rK (.str "no sums"),rK (.str "no switch"),rK (.str "no term"),rK (.str "no text"),rK (.str "unlike")]))
 (aR (dW (rIx (aE 2) (tD yM (aE 1) (rK (.bl qc)))))
 (aU))))))) ds)
def hJ:Fn:=fnOf 1 (dW (kO (rIs (JG) (aB 0)) (qP (rIs (FJ) (aB 0)))))
def bL:Fn:=fnOf 2 (dW (kO (aH hJ [aB 0]) (kA .LtE .Lt (rK (.int 0)) (aB 0) (aB 1))))
def cG:Fn:=fnOf 2 (dW (aH IG [bS 0 [1] (aE 0) qb (aH bL [aB 0,aB 1])]))
def fP:Fn:=fnOf 1 (dW (aH bL [aB 0,aV .Add (rK (.int 4)) (rK (.int 1))]))
def jB:Fn:=fnOf 3 (dW (kO (rIs (oB) (aB 0)) (kO (bH .Eq (aH qU [aE 0]) (aB 1)) (aH cG [aB 0,aB 2]))))
def bQ:Fn:=fnOf 1 (dW (aV .LShift (rK (.int 1)) (aB 0)))
def eX:Fn:=fnOf 1 (aR (sIf (rOr (qP (rIs (oB) (aB 0))) (rOr (bH .NotEq (aH qU [aE 0]) (rK (.int 2))) (qP (aH fP [rIx (aE 0) (rK (.int 0))]))))
 (dW (rK (.bl qe)))
 (aU))
 (dW (aH jB [rIx (aE 0) (rK (.int 1)),aH bQ [rIx (aE 0) (rK (.int 0))],rK (.int 2)])))
def bK:Fn:=fnOf 1 (sIf (qP (aH eX [aB 0]))
 (mZ 1)
 (aU))
def bN:Fn:=fnOf 2 (aR (kJ (aH bK [aB 0]))
 (aR (kJ (aH bK [aB 1]))
 (sIf (bH .NotEq (rIx (aE 0) (rK (.int 0))) (rIx (aE 1) (rK (.int 0))))
 (mZ 4)
 (aU))))
def jC:Fn:=fnOf 1 (aR (kJ (aH bK [aB 0]))
 (dW (dD [rIx (aE 0) (rK (.int 0)),aH iD [bS 0 [] (rIx (aE 0) (rK (.int 1))) qb (aV .Sub (rK (.int 1)) (aB 0))]])))
def nT:Fn:=fnOf 2 (aR (kJ (aH bN [aB 0,aB 1]))
 (dW (dD [rIx (aE 0) (rK (.int 0)),aH iD [bS 2 [] (qR (rIx (aE 0) (rK (.int 1))) (rIx (aE 1) (rK (.int 1)))) qb (aV .BitAnd (aB 0) (aB 1))]])))
def hU:Fn:=fnOf 2 (aR (kJ (aH bN [aB 0,aB 1]))
 (dW (dD [rIx (aE 0) (rK (.int 0)),aH iD [bS 2 [] (qR (rIx (aE 0) (rK (.int 1))) (rIx (aE 1) (rK (.int 1)))) qb (aV .BitOr (aB 0) (aB 1))]])))
def hV:Fn:=fnOf 2 (aR (kJ (aH bN [aB 0,aB 1]))
 (dW (dD [rIx (aE 0) (rK (.int 0)),aH iD [bS 2 [] (qR (rIx (aE 0) (rK (.int 1))) (rIx (aE 1) (rK (.int 1)))) qb (aV .BitXor (aB 0) (aB 1))]])))
def hW:Fn:=fnOf 1 (aR (sIf (rOr (qP (rIs (JH) (aB 0))) (qP (kA .LtE .LtE (rK (.int 1)) (aH qU [aE 0]) (rK (.int 4)))))
 (dW (rK (.bl qe)))
 (aU))
 (dW (aH IG [bS 0 [] (aE 0) qb (kA .LtE .LtE (rK (.str "a")) (aB 0) (rK (.str "z")))])))
def cI:Fn:=fnOf 1 (sIf (qP (aH hW [aB 0]))
 (mZ 8)
 (aU))
def d7:Fn:=fnOf 3 (aR (sIf (bH .Eq (aB 0) (rK (.str "both")))
 (dW (aH nT [aB 1,aB 2]))
 (aU))
 (aR (sIf (bH .Eq (aB 0) (rK (.str "either")))
 (dW (aH hU [aB 1,aB 2]))
 (aU))
 (aR (sIf (bH .Eq (aB 0) (rK (.str "unlike")))
 (dW (aH hV [aB 1,aB 2]))
 (aU))
 (mZ 8))))
def eS:Fn:=fnOf 2 (aR (sIf (bH .Lt (aB 1) (aH qU [aE 0]))
 (dW (rIx (aE 0) (aB 1)))
 (aU))
 (aR (sIf (bH .Eq (aB 0) (gG []))
 (dW (rK (.int 0)))
 (aU))
 (dW (aV .Add (aV .Mult (rIx (aE 0) (aV .Mod (aB 1) (aH qU [aE 0]))) (rK (.int 31))) (aB 1)))))
def aI:Fn:=fnOf 4 (aR (fS 3 (aV .Mod (aV .Mult (aV .Add (aH eS [aB 0,aB 1]) (aV .Mult (rK (.int 6151)) (aV .Add (aB 1) (rK (.int 1))))) (rK (.int 40692))) (rK (.int 2147483399))))
 (dW (aV .Mod (aV .Mod (aV .Add (aV .Mult (aB 3) (aB 3)) (aV .FloorDiv (aB 3) (rK (.int 31)))) (rK (.int 2147483629))) (aB 2))))
def aT:Fn:=fnOf 2 (dW (aH iD [bS 0 [1] (bX (aB 0)) qb (aV .Mod (aV .FloorDiv (aB 1) (rIx (gG [rK (.int 1),rK (.int 2),rK (.int 4),rK (.int 8)]) (aB 0))) (rK (.int 2)))]))
def eY:Fn:=fnOf 2 (dW (aV .Mod (aH BO [bS 2 [] (qR (aH aT [rK (.int 4),aB 0]) (aH aT [rK (.int 4),aB 1])) qb (aV .Mult (aB 0) (aB 1))]) (rK (.int 2))))
def cV:Fn:=fnOf 9 (aR (fS 3 (rIx (gG [rK (.int 1),rK (.int 2),rK (.int 4),rK (.int 8),rK (.int 16)]) (aB 2)))
 (aR (fS 4 (aH aI [aB 0,aB 1,rK (.int 6)]))
 (aR (wY 5 (bS 0 [1,0] (bX (aB 3)) qb (aH aI [aB 2,aV .Add (aV .Add (aB 1) (rK (.int 1))) (aB 0),rK (.int 2)])))
 (aR (sIf (kO (bH .Eq (aB 4) (rK (.int 0))) (bH .Gt (aB 2) (rK (.int 0))))
 (aR (fS 6 (aH aI [aB 0,aV .Add (aB 1) (rK (.int 20)),aB 3]))
  (wY 5 (bS 0 [6] (bX (aB 3)) qb (aH eY [aB 1,aB 0]))))
 (sIf (bH .Eq (aB 4) (rK (.int 1)))
  (wY 5 (bS 0 [1,2,0] (bX (aB 3)) qb (aH sS [bH .GtE (aH BO [aH aT [aB 2,aB 0]]) (aV .Add (rK (.int 1)) (aH aI [aB 3,aV .Add (aB 1) (rK (.int 21)),rK (.int 3)]))])))
  (sIf (kO (bH .Eq (aB 4) (rK (.int 2))) (bH .Gt (aB 2) (rK (.int 0))))
   (aR (fS 7 (aH aI [aB 0,aV .Add (aB 1) (rK (.int 22)),aB 2]))
    (wY 5 (bS 0 [7,5] (bX (aB 3)) qb (rIx (aE 2) (aV .Sub (aB 0) (aV .Mult (aV .Mod (aV .FloorDiv (aB 0) (rIx (gG [rK (.int 1),rK (.int 2),rK (.int 4),rK (.int 8)]) (aB 1))) (rK (.int 2))) (rIx (gG [rK (.int 1),rK (.int 2),rK (.int 4),rK (.int 8)]) (aB 1))))))))
   (aU))))
 (aR (sIf (kO (bH .Lt (aB 4) (rK (.int 3))) (bH .Eq (aH aI [aB 0,aV .Add (aB 1) (rK (.int 23)),rK (.int 3)]) (rK (.int 0))))
 (aR (fS 8 (aH aI [aB 0,aV .Add (aB 1) (rK (.int 24)),aB 3]))
  (xU 5 (aB 8) (aV .Sub (rK (.int 1)) (rIx (aE 5) (aB 8)))))
 (aU))
 (dW (dD [aB 2,aH iD [aE 5]])))))))
def cN:Fn:=fnOf 8 (aR (fS 3 (gG [rK (.str "a"),rK (.str "b"),rK (.str "gm"),rK (.str "xjqp")]))
 (aR (eT [4,5] (dD [rIx (aE 3) (aH aI [aB 0,aB 1,rK (.int 4)]),aH aI [aB 0,aV .Add (aB 1) (rK (.int 1)),rK (.int 8)]]))
 (aR (sIf (rOr (bH .Lt (aB 5) (rK (.int 3))) (bH .Eq (aB 2) (iT)))
 (aR (fS 6 (rIx (gG [rK (.int 2),rK (.int 2),rK (.int 2),rK (.int 1),rK (.int 3),rK (.int 4),rK (.int 0)]) (aH aI [aB 0,aV .Add (aB 1) (rK (.int 2)),rK (.int 7)])))
  (dW (dD [rK (.str "put"),aB 4,aH cV [aB 0,aV .Add (aB 1) (rK (.int 10)),aB 6]])))
 (aU))
 (aR (sIf (bH .Eq (aB 5) (rK (.int 3)))
 (dW (dD [rK (.str "take"),aB 4]))
 (aU))
 (aR (sIf (bH .Eq (aB 5) (rK (.int 4)))
 (dW (dD [rK (.str "turn"),aB 4]))
 (aU))
 (aR (fS 7 (rIx (gG [rK (.str "both"),rK (.str "either"),rK (.str "unlike")]) (aH aI [aB 0,aV .Add (aB 1) (rK (.int 3)),rK (.int 3)])))
 (dW (dD [rK (.str "join"),aB 4,aB 7,rIx (aE 3) (aH aI [aB 0,aV .Add (aB 1) (rK (.int 4)),rK (.int 4)]),rIx (aE 3) (aH aI [aB 0,aV .Add (aB 1) (rK (.int 5)),rK (.int 4)])]))))))))
def aN:Fn:=fnOf 7 (aR (m7 2 (aB 0))
 (aR (sIf (bH .Eq (rIx (aE 1) (rK (.int 0))) (rK (.str "put")))
 (aR (xU 2 (rIx (aE 1) (rK (.int 1))) (rIx (aE 1) (rK (.int 2))))
  (LW [2] (dW (dD [aB 2,bH .In (rIx (aE 1) (rK (.int 1))) (aB 0)]))))
 (aU))
 (aR (sIf (bH .Eq (rIx (aE 1) (rK (.int 0))) (rK (.str "join")))
 (aR (sIf (rOr (bH .NotIn (rIx (aE 1) (rK (.int 3))) (aB 0)) (bH .NotIn (rIx (aE 1) (rK (.int 4))) (aB 0)))
  (dW (dD [aB 0,rK (.str "no label")]))
  (aU))
  (aR (eT [3,4] (dD [rIx (aE 0) (rIx (aE 1) (rK (.int 3))),rIx (aE 0) (rIx (aE 1) (rK (.int 4)))]))
  (aR (sIf (bH .NotEq (rIx (aE 3) (rK (.int 0))) (rIx (aE 4) (rK (.int 0))))
  (dW (dD [aB 0,rK (.str "unlike")]))
  (aU))
  (aR (fS 5 (aH wX [qR (rIx (aE 3) (rK (.int 1))) (rIx (aE 4) (rK (.int 1)))]))
  (aR (fS 6 (uX "both" "either" (bS 2 [] (aE 5) qb (aV .Mult (aB 0) (aB 1))) (bS 2 [] (aE 5) qb (aH sS [bH .Gt (aV .Add (aB 0) (aB 1)) (rK (.int 0))]))))
  (aR (xU 2 (rIx (aE 1) (rK (.int 1))) (dD [rIx (aE 3) (rK (.int 0)),aH iD [qW (aB 6) (rIx (aE 1) (rK (.int 2))) (bS 2 [] (aE 5) qb (aH sS [bH .Eq (aV .Add (aB 0) (aB 1)) (rK (.int 1))]))]]))
  (LW [2] (dW (dD [aB 2,rIx (aE 2) (rIx (aE 1) (rK (.int 1)))])))))))))
 (aU))
 (aR (sIf (bH .NotIn (rIx (aE 1) (rK (.int 1))) (aB 0))
 (dW (dD [aB 0,rK (.str "no label")]))
 (aU))
 (aR (sIf (bH .Eq (rIx (aE 1) (rK (.int 0))) (rK (.str "turn")))
 (aR (xU 2 (rIx (aE 1) (rK (.int 1))) (dD [rIx (rIx (aE 0) (rIx (aE 1) (rK (.int 1)))) (rK (.int 0)),aH iD [bS 0 [] (rIx (rIx (aE 0) (rIx (aE 1) (rK (.int 1)))) (rK (.int 1))) qb (aV .Sub (rK (.int 1)) (aB 0))]]))
  (LW [2] (dW (dD [aB 2,rIx (aE 2) (rIx (aE 1) (rK (.int 1)))]))))
 (aU))
 (dW (dD [nA (bS 0 [1,0] (aE 0) (pi (bH .NotEq (aB 0) (rIx (aE 1) (rK (.int 1))))) (dD [aB 0,rIx (aE 2) (aB 0)])),rIx (aE 0) (rIx (aE 1) (rK (.int 1)))])))))))
def aP:FM:=iI 350 3 (dC (mIf (bH .Is (aB 2) (rK .non))
 (dC (GU 350 (aB 1))
  (eM))
 (dC (GT 350 (aB 1) (aB 2))
  (eM)))
 (eM))
def jW:FM:=iI 350 4 (dC (GS 350 qc (dD [aB 1,aB 2,B9 350 0 (aB 2),aB 3]))
 (dC (v5 350)
 (dC (jT 350 aP [aB 2,aB 3])
 (eM))))
def eZ:FM:=iI 350 4 (dC (r8 (aH bK [aB 2]))
 (dC (r8 (aH cI [aB 1]))
 (dC (C5 2 (IH qe 350 0 (aB 1)))
 (dC (jT 350 jW [rK (.str "put"),aB 1,aB 2])
 (dC (sA (aB 3))
 (eM))))))
def aG:FM:=iI 350 2 (dC (r8 (aH cI [aB 1]))
 (dC (mIf (IH qc 350 0 (aB 1))
 (dC (sB 8)
  (eM))
 (eM))
 (dC (sA (B8 350 0 (aB 1)))
 (eM))))
def dJ:FM:=iI 350 3 (dC (C5 1 (eU 350 0 aG [aB 1]))
 (dC (jT 350 jW [rK (.str "take"),aB 1,rK .non])
 (dC (sA (aB 2))
 (eM))))
def dM:FM:=iI 350 6 (dC (r8 (aH cI [aB 1]))
 (dC (C5 4 (aH d7 [aB 2,eU 350 0 aG [aB 3],eU 350 0 aG [aB 4]]))
 (dC (jT 350 jW [rK (.str "join"),aB 1,aB 5])
 (dC (sA (aB 5))
 (eM)))))
def dU:FM:=iI 350 3 (dC (C5 1 (aH jC [eU 350 0 aG [aB 1]]))
 (dC (jT 350 jW [rK (.str "turn"),aB 1,aB 2])
 (dC (sA (aB 2))
 (eM))))
def bR:FM:=iI 350 1 (dC (sA (FF 350 0))
 (eM))
def dF:FM:=iI 350 2 (dC (mIf (bH .Eq (D7 350 0 qc) (gG []))
 (dC (sB 9)
  (eM))
 (eM))
 (dC (xG 350 0 qc)
 (dC (GS 350 qe (aB 1))
 (dC (jT 350 aP [rIx (aE 1) (rK (.int 1)),rIx (aE 1) (rK (.int 2))])
 (dC (sA (rIx (aE 1) (rK (.int 0))))
 (eM))))))
def dB:FM:=iI 350 2 (dC (mIf (bH .Eq (D7 350 0 qe) (gG []))
 (dC (sB 9)
  (eM))
 (eM))
 (dC (xG 350 0 qe)
 (dC (GS 350 qc (aB 1))
 (dC (jT 350 aP [rIx (aE 1) (rK (.int 1)),rIx (aE 1) (rK (.int 3))])
 (dC (sA (rIx (aE 1) (rK (.int 0))))
 (eM))))))
def cQ:FM:=iI 350 1 (dC (sA (dD [aH qU [D7 350 0 qc],aH qU [D7 350 0 qe]]))
 (eM))
def mF:FR:=(ifM (bH .Eq (rIx (aE 1) (rK (.int 0))) (rK (.str "put"))) (uD aL [1,0] (Dl 350 1 eZ [rIx (aE 0) (rK (.int 1)),rIx (aE 0) (rK (.int 2))])) (ifM (bH .Eq (rIx (aE 1) (rK (.int 0))) (rK (.str "join"))) (uD aL [1,0] (Dl 350 1 dM [rIx (aE 0) (rK (.int 1)),rIx (aE 0) (rK (.int 2)),rIx (aE 0) (rK (.int 3)),rIx (aE 0) (rK (.int 4))])) (uD aL [1,0] (ifM (bH .Eq (rIx (aE 0) (rK (.int 0))) (rK (.str "turn"))) (Dl 350 1 dU [rIx (aE 0) (rK (.int 1))]) (Dl 350 1 dJ [rIx (aE 0) (rK (.int 1))])))))
def aQ:FM:=Hv 350 2 mF
def aX:FM:=iI 350 1 (dC (sA (nA (bS 0 [0] (eU 350 0 bR []) qb (dD [aB 0,eU 350 1 aG [aB 0]]))))
 (eM))
def HP:FS:=aR (wC 1 2 350 (gG [iT,uY "a" (dD [rK (.int 0),dD [rK (.int 1)]])]))
 (aR (pX 350 1 eZ [rK (.str "a"),dD [rK (.int 0),dD [rK (.int 1)]]])
 (aR (wZ [3] qc (bX (rK (.int 8)))
 (aR (fS 4 (aH cN [aB 0,aV .Add (rK (.int 100)) (aV .Mult (rK (.int 60)) (aB 3)),rIx (aE 2) (BN (rK (.int 1)))]))
  (aR (eT [5,6] (aH aN [rIx (aE 2) (BN (rK (.int 1))),aB 4]))
  (aR (pX 350 1 aQ [aB 4])
  (aR (fS 2 (aV .Add (aB 2) (aV .Mult (gG [aB 5]) (aH sS [bH .NotIn (aB 6) (dD [rK (.str "no label"),rK (.str "unlike")])]))))
  (aU))))))
 (aR (fS 7 (aV .Sub (aH qU [aE 2]) (rK (.int 1))))
 (aR (pX 350 1 dF [])
 (aR (AE 8 350 1)
 (aR (v6 (cOr (mB 350 8 cQ [] .NotEq (dD [aV .Sub (aB 7) (rK (.int 1)),rK (.int 1)])) (mB 350 8 aX [] .NotEq (rIx (aE 2) (BN (rK (.int 2))))))
 (aR (dW (rK (.bl qe)))
  (aU))
 (aU))
 (aR (ET 9 13 10 350 (bH .Eq (aH aI [aB 0,rK (.int 5),rK (.int 2)]) (rK (.int 0)))
 (aR (pX 350 13 dB [])
  (aR (eT [11,12] (dD [rIx (aE 2) (BN (rK (.int 1))),aB 7]))
  (aR (v6 (mB 350 13 aX [] .NotEq (aB 11))
  (aR (dW (rK (.bl qe)))
   (aU))
  (aU))
  (aR (wZ [3] qc (bX (rK (.int 3)))
  (aR (fS 4 (aH cN [aB 0,aV .Add (aB 10) (aV .Mult (rK (.int 60)) (aB 3)),aB 11]))
   (aR (eT [11,6] (aH aN [aB 11,aB 4]))
   (aR (v6 (mB 350 13 aQ [aB 4] .NotEq (aB 6))
   (aR (dW (rK (.bl qe)))
    (aU))
   (aU))
   (aR (fS 12 (aV .Add (aB 12) (aH sS [bH .NotIn (aB 6) (dD [rK (.str "no label"),rK (.str "unlike")])])))
   (aU))))))
  (aR (wZ [3] qc (bX (aB 12))
  (aR (pX 350 13 dF [])
   (aU)))
  (aR (v6 (cOr (mB 350 13 aX [] .NotEq (iT)) (mB 350 13 (λr _=>cY aL (Dl 350 0 dF [] [.rk 350 r])) [] .NotEq (rK (.str "no back"))))
  (aR (dW (rK (.bl qe)))
   (aU))
  (aU))
  (aR (wZ [3] qc (bX (aB 12))
  (aR (pX 350 13 dB [])
   (aU)))
  (aR (v6 (cOr (mB 350 13 aX [] .NotEq (aB 11)) (mB 350 13 cQ [] .NotEq (dD [aB 12,rK (.int 0)])))
  (aR (dW (rK (.bl qe)))
   (aU))
  (aU))
  (aU)))))))))
 1 2000 8 3000)
 (aR (dW (rK (.bl qc)))
 (aU)))))))))
open PySem
noncomputable abbrev Sc(ns:L1 Int):D:=.lst (ns.map D.int)
def DD ns:plain (Sc ns)=qc:=by show cE (ns.map D.int)=qc;rw[fO];intro x m;obtain⟨i,_,rfl⟩:=au.1 m;rfl
noncomputable def xL(ns:L1 Int)(k:Nat):Int:=if k<ns.length then ns.getD k 0 else if ns=[]then 0 else ns.getD (k % ns.length) 0*31+k
def HQ ns(k:Nat):eS [Sc ns,.int k]= .ok (.int (xL ns k)):=by
 have b:qU [Sc ns]= .ok (.int ns.length):=by simp[qU,items]
 by_cases h:k<ns.length;have e:(ns.map D.int)[k]? =pi (D.int (xL ns k)):=by simp[xL,h]
 refine aY (cU ((eN ?_).trans (aW ((cZ rfl rfl).trans (gO e)))));refine(bA rfl ((cO rfl).trans b)).trans ?_;simp[dR,h];refine aY ((aF ((dH ((bA rfl ((cO rfl).trans b)).trans ?_)).trans rfl)).trans ?_);simp[dR];lia;have c:bH .Eq (aB 0) (gG []) [.sh (Sc ns),.sh (.int k)]= .ok (.bl (decide (ns=[]))):=by
  show dR .Eq (Sc ns) (.lst [])=_;rw[mD (jV (DD ns) rfl (by decide))];cases ns<;>simp[deq,xS]
 by_cases a:ns=[];subst a;exact cU ((eN (c.trans rfl)).trans rfl);refine(aF ((dH (c.trans (by simp[a]))).trans rfl)).trans (aW ?_);have l:0<ns.length:=List.length_pos_iff.2 a;have e:(ns.map D.int)[k % ns.length]? =pi (D.int (ns.getD (k % ns.length) 0)):=by simp[Nat.mod_lt _ l]
 have d:iQ .Mod (.int k) (.int ns.length)= .ok (.int ((k % ns.length:Nat):Int)):=by
  have:(0:Int)<ns.length:=by lia
  simp[iQ,d8,this];lia
 refine(aZ ((aZ ((cZ rfl ((aZ rfl ((cO rfl).trans b)).trans d)).trans (gO e)) rfl).trans (EY rfl)) rfl).trans ?_;simp[iQ,d8,xL,h,a]
noncomputable def iJ(ns:L1 Int)(k:Nat):Int:=(xL ns k+6151*(k+1))*40692 % 2147483399
noncomputable def Bc(ns:L1 Int)(k:Nat)(m:Int):Int:=(iJ ns k*iJ ns k+iJ ns k/31) % 2147483629 % m
def HS ns(k:Nat)(hm:0<m):aI [Sc ns,.int k,.int m]= .ok (.int (Bc ns k m)):=by
 have c:aV .Mod (aV .Mult (aV .Add (aH eS [aB 0,aB 1]) (aV .Mult (rK (.int 6151)) (aV .Add (aB 1) (rK (.int 1))))) (rK (.int 40692))) (rK (.int 2147483399)) [.sh (Sc ns),.sh (.int k),.sh (.int m),.no]= .ok (.int (iJ ns k)):=by
  refine(aZ ((aZ ((aZ ((dA rfl rfl).trans (HQ ns k)) (y:=.int (6151*(k+1))) ?_).trans rfl) rfl).trans (?_:_=R.ok (.int ((xL ns k+6151*(k+1))*40692)))) rfl).trans ?_;refine(aZ rfl rfl).trans ?_;simp[iQ,d8,sml];simp[iQ,d8,sml];simp[iQ,d8,iJ]
 refine aY ((aF (dP c)).trans (aW ?_));unfold Bc;have b:sml (iJ ns k)=qc:=by
  have:0<=iJ ns k/\iJ ns k<2147483399:=by unfold iJ;lia
  simp[sml];lia
 generalize iJ ns k=x at *;have d:aV .FloorDiv (aB 3) (rK (.int 31)) [.sh (Sc ns),.sh (.int k),.sh (.int m),.sh (.int (x))]= .ok (.int (x/31)):=by
  refine(aZ rfl rfl).trans ?_;simp[iQ,d8]
 have a:aV .Mult (aB 3) (aB 3) [.sh (Sc ns),.sh (.int k),.sh (.int m),.sh (.int x)]= .ok (.int (x*x)):=by
  refine(aZ rfl rfl).trans ?_;simp[iQ,d8,b]
 refine(aZ ((aZ ((aZ a d).trans rfl) rfl).trans (?_:_=R.ok (.int ((x*x+x/31) % 2147483629)))) rfl).trans ?_;simp[iQ,d8];exact pC hm
def uH ns k(hm:0<m):0<=Bc ns k m/\Bc ns k m<m:=⟨Int.emod_nonneg _ (by lia),Int.emod_lt_of_pos _ hm⟩
def bit(d:D):Prop:=d= .int 0\/d= .int 1
def Bd i:bit (.int (i % 2)):=by unfold bit;rcases(show i % 2=0\/i % 2=1 by lia)with h|h<;>simp[h]
def ix4{j:Nat}(h:a ρ= .ok (.int j))(l:j<4):rIx (gG [rK (.int 1),rK (.int 2),rK (.int 4),rK (.int 8)]) a ρ= .ok (.int ((2^j:Nat):Int)):=by refine(wD rfl h).trans (gO ?_);rcases(show j=0\/j=1\/j=2\/j=3 by lia)with rfl|rfl|rfl|rfl<;>rfl
def ix5{j:Nat}(h:a ρ= .ok (.int j))(l:j<=4):rIx (gG [rK (.int 1),rK (.int 2),rK (.int 4),rK (.int 8),rK (.int 16)]) a ρ= .ok (.int ((2^j:Nat):Int)):=by refine(wD rfl h).trans (gO ?_);rcases(show j=0\/j=1\/j=2\/j=3\/j=4 by lia)with rfl|rfl|rfl|rfl|rfl<;>rfl
def Be(h:m<=4):1<=2^m/\2^m<=16:=by rcases(show m=0\/m=1\/m=2\/m=3\/m=4 by lia)with rfl|rfl|rfl|rfl|rfl<;>decide
def jX{m:Nat}(hm:m<=4)k: ∃xs,aT [.int m,.int k]= .ok (.tup xs)/\xs.length=m/\∀x∈xs,bit x:=by
 obtain⟨xs,e,l,b⟩:=fN (n:=0) (cs:=[1]) (it:=bX (aB 0)) (e:=aV .Mod (aV .FloorDiv (aB 1) (rIx (gG [rK (.int 1),rK (.int 2),rK (.int 4),rK (.int 8)]) (aB 0))) (rK (.int 2))) (ρ:=[.sh (.int m),.sh (.int k)]) (ds:=qQ m) (P:=bit)
  (.inl (eF rfl (by lia))) λd h=>by
   obtain⟨j,f,rfl⟩:=jA h;have c:=Be (m:=j) (by lia);refine⟨[.sh (.int j)],_,rfl,(aZ ((aZ rfl (ix4 (a:=aB 0) (j:=j) rfl (by lia))).trans (Ba ?_ ?_)) rfl).trans (pC (by decide)),Bd _⟩<;>lia
 exact⟨xs,aY (aW ((eE e).trans rfl)),l.trans eW,b⟩
theorem Bf: ∀{xs},(∀x∈xs, ∃i,x=D.int i)->∃is:L1 Int,xs=is.map D.int
 |[],_=>⟨[],rfl⟩
 |x::r,h=>by
  obtain⟨i,rfl⟩:=h x (.head _);obtain⟨is,rfl⟩:=Bf (xs:=r) λy m=>h y (.tail _ m);exact⟨i::is,rfl⟩
def HU(h:bit d): ∃i,d= .int i:=by rcases h with rfl|rfl<;>exact⟨_,rfl⟩
def DE(is:L1 Int):BO [.lst (is.map D.int)]= .ok (.int is.sum):=by simp[BO,items,sL]
def HV(is:L1 Int):BO [.tup (is.map D.int)]= .ok (.int is.sum):=by simp[BO,items,sL]
def Lr a b: ∃r,eY [.int a,.int b]= .ok r/\bit r:=by
 obtain⟨c,w,G,g⟩:=jX (m:=4) (by decide) a;obtain⟨f,o,I,E⟩:=jX (m:=4) (by decide) b;have v:qR (aH aT [rK (.int 4),aB 0]) (aH aT [rK (.int 4),aB 1]) [.sh (.int a),.sh (.int b)]= .ok (.lst ((c.zip f).map λp=>D.tup [p.1,p.2])):=by
  have C:aH aT [rK (.int 4),aB 0] [.sh (.int a),.sh (.int b)]= .ok (.tup c):=(dA rfl rfl).trans w;have z:aH aT [rK (.int 4),aB 1] [.sh (.int a),.sh (.int b)]= .ok (.tup f):=(dA rfl rfl).trans o;simp[qR,C,z,R.bind]
 obtain⟨H,e,l,q⟩:=fN (n:=2) (cs:=[]) (e:=aV .Mult (aB 0) (aB 1)) (P:=λx=>∃i,x=D.int i) (.inl v) λd h=>by
  obtain⟨⟨x,y⟩,t,rfl⟩:=au.1 h;obtain⟨B,A⟩:=kd t;have s:=g x B;have j:=E y A;refine⟨[.sh x,.sh y],?_⟩;rcases s with rfl|rfl<;>rcases j with rfl|rfl<;>exact⟨_,rfl,rfl,_,rfl⟩
 obtain⟨u,rfl⟩:=Bf q;exact⟨_,aY (aW ((aZ ((eE e).trans (DE u)) rfl).trans (pC (by decide)))),Bd _⟩
def cR ns(k:Nat){m:Nat}(hm:0<m): ∃p:Nat,aI [Sc ns,.int k,.int m]= .ok (.int p)/\p<m:=by
 have h:(0:Int)<m:=by lia
 have r:=uH ns k h;refine⟨(Bc ns k m).toNat,(HS ns k h).trans ?_,by lia⟩;rw[Int.toNat_of_nonneg r.1]
def Ls{p:Nat}(h:p<2):bit (.int p):=by rcases(show p=0\/p=1 by lia)with rfl|rfl;exact .inl rfl;exact .inr rfl
def E0{ws}(h: ∀w∈ws,bit w){p:Nat}(hp:p<ws.length): ∃w,dIx (.lst ws) (.int p)= .ok w/\bit w:=
 ⟨ws[p],gO (bd hp),h _ (jv hp)⟩
def Bg ns(at':Nat){m:Nat}(hm:m<=4): ∃ws,cV [Sc ns,.int at',.int m]= .ok (.tup [.int m,.tup ws])/\ws.length=2^m/\∀w∈ws,bit w:=by
 have U:=Be hm;obtain⟨f,B,lw⟩:=cR ns at' (m:=6) (by decide)
 obtain⟨s,e0,O,Q⟩:=fN (n:=0) (cs:=[1,0]) (it:=bX (aB 3)) (e:=aH aI [aB 2,aV .Add (aV .Add (aB 1) (rK (.int 1))) (aB 0),rK (.int 2)]) (P:=bit) (ds:=qQ (2^m))
  (ρ:=[.sh (Sc ns),.sh (.int at'),.sh (.int m),.sh (.int (2^m:Nat)),.sh (.int f),.no,.no,.no,.no]) (.inl (eF rfl (by lia))) λd h=>by
   obtain⟨j,G,rfl⟩:=jA h;obtain⟨p,U,lp⟩:=cR ns (at'+1+j) (m:=2) (by decide)
   exact⟨[.sh (.int j)],_,rfl,(dQ (x:=Sc ns) (y:=.int ((at'+1+j:Nat):Int)) (z:=.int 2) rfl rfl rfl).trans U,Ls lp⟩
 rw[eW]at O
 have h4: ∃ws a b,(sIf (kO (bH .Eq (aB 4) (rK (.int 0))) (bH .Gt (aB 2) (rK (.int 0))))
   (aR (fS 6 (aH aI [aB 0,aV .Add (aB 1) (rK (.int 20)),aB 3]))
    (wY 5 (bS 0 [6] (bX (aB 3)) qb (aH eY [aB 1,aB 0]))))
   (sIf (bH .Eq (aB 4) (rK (.int 1)))
    (wY 5 (bS 0 [1,2,0] (bX (aB 3)) qb (aH sS [bH .GtE (aH BO [aH aT [aB 2,aB 0]]) (aV .Add (rK (.int 1)) (aH aI [aB 3,aV .Add (aB 1) (rK (.int 21)),rK (.int 3)]))])))
    (sIf (kO (bH .Eq (aB 4) (rK (.int 2))) (bH .Gt (aB 2) (rK (.int 0))))
     (aR (fS 7 (aH aI [aB 0,aV .Add (aB 1) (rK (.int 22)),aB 2]))
      (wY 5 (bS 0 [7,5] (bX (aB 3)) qb (rIx (aE 2) (aV .Sub (aB 0) (aV .Mult (aV .Mod (aV .FloorDiv (aB 0) (rIx (gG [rK (.int 1),rK (.int 2),rK (.int 4),rK (.int 8)]) (aB 1))) (rK (.int 2))) (rIx (gG [rK (.int 1),rK (.int 2),rK (.int 4),rK (.int 8)]) (aB 1))))))))
     (aU)))) [.sh (Sc ns),.sh (.int at'),.sh (.int m),.sh (.int (2^m:Nat)),.sh (.int f),.ow s,.no,.no,.no]
   = .nx [.sh (Sc ns),.sh (.int at'),.sh (.int m),.sh (.int (2^m:Nat)),.sh (.int f),.ow ws,a,b,.no]/\ws.length=2^m/\∀w∈ws,bit w:=by
  have H: ∀ρ:Rho,ρ[2]? =pi (.sh (.int m))->bH .Gt (aB 2) (rK (.int 0)) ρ= .ok (.bl (decide (0<m))):=λρ h=>by
   refine(bA (x:=.int m) (by simp[aB,h]) rfl).trans ?_
   simp[dR]
  have o: ∀(c:Nat) (ρ:Rho),ρ[4]? =pi (.sh (.int f))->bH .Eq (aB 4) (rK (.int c)) ρ= .ok (.bl (decide (f=c))):=λc ρ h=>by
   refine(bA (x:=.int f) (by simp[aB,h]) rfl).trans ?_
   rw[mD rfl];show R.ok (.bl ((f:Int)==(c:Int)))=_
   congr 2;rw[Bool.eq_iff_iff];simp;lia
  have g: ∀c:Nat,kO (bH .Eq (aB 4) (rK (.int c))) (bH .Gt (aB 2) (rK (.int 0))) [.sh (Sc ns),.sh (.int at'),.sh (.int m),.sh (.int (2^m:Nat)),.sh (.int f),.ow s,.no,.no,.no]= .ok (.bl (decide (f=c/\0<m))):=λc=>by
   by_cases h:f=c
   .refine(sM ((o c _ rfl).trans (by simp[h]))).trans ((H _ rfl).trans (by simp[h]))
   .refine(A8 ((o c _ rfl).trans (by simp[h]))).trans (by simp[h])
  by_cases C:f=0/\0<m
  .obtain⟨u,hk,lk⟩:=cR ns (at'+20) (m:=2^m) (by lia)
   obtain⟨ws,e,l,b⟩:=fN (n:=0) (cs:=[6]) (it:=bX (aB 3)) (e:=aH eY [aB 1,aB 0]) (P:=bit) (ds:=qQ (2^m))
    (ρ:=[.sh (Sc ns),.sh (.int at'),.sh (.int m),.sh (.int (2^m:Nat)),.sh (.int f),.ow s,.sh (.int u),.no,.no]) (.inl (eF rfl (by lia))) λd h=>by
     obtain⟨j,G,rfl⟩:=jA h;obtain⟨r,hr,Z⟩:=Lr u j;exact⟨[.sh (.int j)],_,rfl,(dA rfl rfl).trans hr,Z⟩
   refine⟨ws,.sh (.int u),.no,(eN ((g 0).trans (by simp[C]))).trans ((aF (dP ((dQ rfl rfl rfl).trans hk))).trans (pA e)),l.trans eW,b⟩
  by_cases L:f=1
  .obtain⟨q,J,lq⟩:=cR ns (at'+21) (m:=3) (by lia)
   obtain⟨ws,e,l,b⟩:=fN (n:=0) (cs:=[1,2,0]) (it:=bX (aB 3)) (e:=aH sS [bH .GtE (aH BO [aH aT [aB 2,aB 0]]) (aV .Add (rK (.int 1)) (aH aI [aB 3,aV .Add (aB 1) (rK (.int 21)),rK (.int 3)]))]) (P:=bit) (ds:=qQ (2^m))
    (ρ:=[.sh (Sc ns),.sh (.int at'),.sh (.int m),.sh (.int (2^m:Nat)),.sh (.int f),.ow s,.no,.no,.no]) (.inl (eF rfl (by lia))) λd h=>by
     obtain⟨j,G,rfl⟩:=jA h;obtain⟨xs,hs,ls,bs⟩:=jX hm j;obtain⟨is,rfl⟩:=Bf λx m=>HU (bs x m)
     refine⟨[.sh (.int j)],_,rfl,(cO ((bA ((cO ((dA rfl rfl).trans hs)).trans (HV is)) ((aZ rfl ((dQ rfl rfl rfl).trans J)).trans rfl)).trans rfl)).trans rfl,?_⟩;unfold b2i;split
     .exact .inr rfl
     .exact .inl rfl
   refine⟨ws,.no,.no,(dH ((g 0).trans (by simp[C]))).trans ((eN ((o 1 _ rfl).trans (by simp[L]))).trans (pA e)),l.trans eW,b⟩
  by_cases N:f=2/\0<m
  .obtain⟨nm,hk,lk⟩:=cR ns (at'+22) (m:=m) (by lia)
   obtain⟨ws,e,l,b⟩:=fN (n:=0) (cs:=[7,5]) (it:=bX (aB 3)) (e:=rIx (aE 2) (aV .Sub (aB 0) (aV .Mult (aV .Mod (aV .FloorDiv (aB 0) (rIx (gG [rK (.int 1),rK (.int 2),rK (.int 4),rK (.int 8)]) (aB 1))) (rK (.int 2))) (rIx (gG [rK (.int 1),rK (.int 2),rK (.int 4),rK (.int 8)]) (aB 1))))) (P:=bit) (ds:=qQ (2^m))
    (ρ:=[.sh (Sc ns),.sh (.int at'),.sh (.int m),.sh (.int (2^m:Nat)),.sh (.int f),.ow s,.no,.sh (.int nm),.no]) (.inl (eF rfl (by lia))) λd h=>by
     obtain⟨j,G,rfl⟩:=jA h;have Y:=Be (m:=nm) (by lia)
     have I:j/2^nm % 2*2^nm<=j:=mq (Nat.mul_le_mul_right _ (Nat.mod_le _ _)) (Nat.div_mul_le_self ..)
     obtain⟨w,B,M⟩:=E0 Q (p:=j-j/2^nm % 2*2^nm) (by lia)
     refine⟨[.sh (.int j)],w,rfl,(cZ (x:=.lst s) (y:=.int (j-j/2^nm % 2*2^nm:Nat)) rfl ?_).trans B,M⟩;refine(aZ rfl ((aZ ((aZ ((aZ rfl (ix4 (a:=aB 1) (j:=nm) rfl (by lia))).trans (Ba (by lia) (by lia))) rfl).trans (pC (by decide))) (ix4 (a:=aB 1) (j:=nm) rfl (by lia))).trans (EY (Lq (by lia) (by lia))))).trans ?_
     show R.ok (D.int ((j:Int)-(j:Int)/((2^nm:Nat):Int) % 2*((2^nm:Nat):Int)))=_;rw[Int.ofNat_sub I,Int.natCast_mul,Int.natCast_emod,Int.natCast_ediv];rfl
   refine⟨ws,.no,.sh (.int nm),(dH ((g 0).trans (by simp[C]))).trans ((dH ((o 1 _ rfl).trans (by simp[L]))).trans ((eN ((g 2).trans (by simp[N]))).trans ((aF (dP ((dQ rfl rfl rfl).trans hk))).trans (pA e)))),l.trans eW,b⟩
  .exact⟨s,.no,.no,(dH ((g 0).trans (by simp[C]))).trans ((dH ((o 1 _ rfl).trans (by simp[L]))).trans ((dH ((g 2).trans (by simp[N]))).trans rfl)),O,Q⟩
 obtain⟨i,a,b,e1,T,E⟩:=h4
 have h5: ∃ws c,(sIf (kO (bH .Lt (aB 4) (rK (.int 3))) (bH .Eq (aH aI [aB 0,aV .Add (aB 1) (rK (.int 23)),rK (.int 3)]) (rK (.int 0))))
   (aR (fS 8 (aH aI [aB 0,aV .Add (aB 1) (rK (.int 24)),aB 3]))
    (xU 5 (aB 8) (aV .Sub (rK (.int 1)) (rIx (aE 5) (aB 8)))))
   (aU)) [.sh (Sc ns),.sh (.int at'),.sh (.int m),.sh (.int (2^m:Nat)),.sh (.int f),.ow i,a,b,.no]
   = .nx [.sh (Sc ns),.sh (.int at'),.sh (.int m),.sh (.int (2^m:Nat)),.sh (.int f),.ow ws,a,b,c]/\ws.length=2^m/\∀w∈ws,bit w:=by
  obtain⟨q,J,lq⟩:=cR ns (at'+23) (m:=3) (by lia)
  have hc: ∃t,kO (bH .Lt (aB 4) (rK (.int 3))) (bH .Eq (aH aI [aB 0,aV .Add (aB 1) (rK (.int 23)),rK (.int 3)]) (rK (.int 0))) [.sh (Sc ns),.sh (.int at'),.sh (.int m),.sh (.int (2^m:Nat)),.sh (.int f),.ow i,a,b,.no]= .ok (.bl t):=by
   have S:bH .Lt (aB 4) (rK (.int 3)) [.sh (Sc ns),.sh (.int at'),.sh (.int m),.sh (.int (2^m:Nat)),.sh (.int f),.ow i,a,b,.no]= .ok (.bl (decide ((f:Int)<3))):=rfl
   by_cases X:(f:Int)<3
   .exact⟨_,(sM (S.trans (by simp[X]))).trans ((bA ((dQ rfl rfl rfl).trans J) rfl).trans (mD rfl))⟩
   .exact⟨_,A8 (S.trans (by simp[X]))⟩
  obtain⟨t,W⟩:=hc
  cases t with
  |false=>exact⟨i,.no,(dH W).trans rfl,T,E⟩
  |true=>
   obtain⟨A,hl,ll⟩:=cR ns (at'+24) (m:=2^m) (by lia)
   obtain⟨w,B,M⟩:=E0 E (p:=A) (by lia)
   have hb: ∃v,iQ .Sub (.int 1) w= .ok v/\bit v:=by
    rcases M with rfl|rfl
    .exact⟨_,rfl,.inr rfl⟩
    .exact⟨_,rfl,.inl rfl⟩
   obtain⟨v,hv,bv⟩:=hb;refine⟨i.set A v,.sh (.int A),(eN W).trans ((aF (dP ((dQ rfl rfl rfl).trans hl))).trans ?_),by simp[T],λx mx=>?_⟩
   .have hx:(aV .Sub (rK (.int 1)) (rIx (aE 5) (aB 8))) [.sh (Sc ns),.sh (.int at'),.sh (.int m),.sh (.int (2^m:Nat)),.sh (.int f),.ow i,a,b,.sh (.int A)]= .ok v:=(aZ rfl ((cZ rfl rfl).trans B)).trans hv
    have hi:ixD i.length (A:Int)=pi A:=by simp[ixD];lia
    show xU 5 (aB 8) (aV .Sub (rK (.int 1)) (rIx (aE 5) (aB 8))) [.sh (Sc ns),.sh (.int at'),.sh (.int m),.sh (.int (2^m:Nat)),.sh (.int f),.ow i,a,b,.sh (.int A)]=_;unfold xU;rw[hx];simp[fU,aB,hi]
   .rcases List.mem_or_eq_of_mem_set mx with h|rfl
    .exact E x h
    .exact bv
 obtain⟨K,c,e2,l2,b2⟩:=h5;refine⟨K,aY ((aF (dP (ix5 (a:=aB 2) (j:=m) rfl hm))).trans ((aF (dP ((dQ rfl rfl rfl).trans B))).trans ((aF (pA e0)).trans ((aF e1).trans ((aF e2).trans (aW (eO rfl ((cO rfl).trans rfl)))))))),l2,b2⟩
noncomputable def wb(b:Int):D->Bool
 |.int i=>decide (0<=i)&&decide (i<b)
 |_=>qe
def mG b(h:plain x=qc):bL [x,.int b]= .ok (.bl (wb b x)):=by
 cases x with
 |int i=>
  exact aY (aW ((sM rfl).trans (A9 (i:=0) (j:=i) (k:=b) rfl rfl rfl)))
 |exc c=>exact absurd h (by simp[plain])
 |fn c=>exact absurd h (by simp[plain])
 |dct a d=>exact absurd h (by simp[plain])
 |_=>rfl
def Bh b(hx:x= .tup ds\/x= .lst ds)(h:cE ds=qc):cG [x,.int b]= .ok (.bl (ds.all (wb b))):=by
 have e:bS 0 [1] (aE 0) qb (aH bL [aB 0,aB 1]) [.sh x,.sh (.int b)]= .ow (ds.map λd=>.bl (wb b d)):=
  i9 (by rcases hx with rfl|rfl;exact .inr (.inl rfl);exact .inl rfl) λd m=>(dA rfl rfl).trans (mG b (fO.1 h d m))
 exact aY (aW ((eE e).trans Lp))
noncomputable def Mj(n b:Int):D->Bool
 |.tup ws=>decide ((ws.length:Int)=n)&&ws.all (wb b)
 |_=>qe
def HW i j:dR .Eq (.int i) (.int j)= .ok (.bl (decide (i=j))):=by rw[mD (x:=.int i) (y:=.int j) rfl];show R.ok (.bl (i==j))=_;congr 2
def Bi i j:dR .NotEq (.int i) (.int j)= .ok (.bl (!decide (i=j))):=by rw[uG (x:=.int i) (y:=.int j) rfl];show R.ok (.bl (!(i==j)))=_;congr 2
def nU n b(h:plain x=qc):jB [x,.int n,.int b]= .ok (.bl (Mj n b x)):=by
 cases x with
 |tup d=>
  refine aY (aW ((sM rfl).trans ?_));have e:bH .Eq (aH qU [aE 0]) (aB 1) [.sh (.tup d),.sh (.int n),.sh (.int b)]= .ok (.bl (decide ((d.length:Int)=n))):=(bA rfl rfl).trans (HW _ _);by_cases a:(d.length:Int)=n;exact(sM (e.trans (by simp[a]))).trans ((dA rfl rfl).trans ((Bh b (.inl rfl) h).trans (by simp[Mj,a])));exact(A8 (e.trans (by simp[a]))).trans (by simp[Mj,a])
 |exc c=>exact absurd h (by simp[plain])
 |fn c=>exact absurd h (by simp[plain])
 |dct f g=>exact absurd h (by simp[plain])
 |_=>rfl
def DF{m:Nat}(h:m<=4):bQ [.int m]= .ok (.int (2^m:Nat)):=by rcases(show m=0\/m=1\/m=2\/m=3\/m=4 by lia)with rfl|rfl|rfl|rfl|rfl<;>rfl
noncomputable def HX:D->Bool
 |.tup [a,b]=>wb 5 a&&(match a with|.int m=>Mj (2^m.toNat:Nat) 2 b|_=>qe)
 |_=>qe
def Lu(h:wb b x=qc): ∃m:Nat,x= .int m/\(m:Int)<b:=by
 cases x with
 |int i=>
  simp[wb]at h;exact⟨i.toNat,by rw[Int.toNat_of_nonneg h.1],by lia⟩
 |_=>simp[wb]at h
def fQ(h:plain d=qc):eX [d]= .ok (.bl (HX d)):=by
 cases d with
 |tup e=>
  have i:bH .NotEq (aH qU [aE 0]) (rK (.int 2)) [.sh (.tup e)]= .ok (.bl (!decide ((e.length:Int)=2))):=(bA rfl rfl).trans (Bi _ _);by_cases l:e.length=2;obtain⟨a,b,rfl⟩: ∃a b,e=[a,b]:=by
   match e,l with
   |[a,b],_=>exact⟨a,b,rfl⟩
  have g:plain a=qc/\plain b=qc:=by simpa[plain,cE]using h
  have n:aH fP [rIx (aE 0) (rK (.int 0))] [.sh (.tup [a,b])]= .ok (.bl (wb 5 a)):=(cO rfl).trans (aY (aW ((dA rfl rfl).trans (mG 5 g.1))));have j:rOr (qP (rIs (oB) (aB 0))) (rOr (bH .NotEq (aH qU [aE 0]) (rK (.int 2))) (qP (aH fP [rIx (aE 0) (rK (.int 0))]))) [.sh (.tup [a,b])]= .ok (.bl (!wb 5 a)):=
   (xK rfl).trans ((xK (i.trans rfl)).trans (A7 n))
  cases f:wb 5 a with
  |false=>exact aY (cU ((eN (j.trans (by rw[f];rfl))).trans (aW (by simp[HX,f,rK])))) 
  |true=>
   obtain⟨m,rfl,p⟩:=Lu f;refine aY ((aF ((dH (j.trans (by rw[f];rfl))).trans rfl)).trans (aW ((dQ rfl ((cO rfl).trans (DF (by lia))) rfl).trans ((nU _ _ g.2).trans ?_))));simp[HX,f]
  refine aY (cU ((eN ((xK rfl).trans (HN (i.trans ?_)))).trans (aW ?_)));have: ¬(e.length:Int)=2:=by lia
  simp[this];match e,l with
  |[],_=>rfl
  |[_],_=>rfl
  |_::_::_::_,_=>rfl
  |[_,_],h=>exact absurd rfl h
 |exc c=>exact absurd h (by simp[plain])
 |fn c=>exact absurd h (by simp[plain])
 |dct o q=>exact absurd h (by simp[plain])
 |_=>rfl
def jY(h:plain d=qc)(s:HX d=qc):bK [d]= .ok .non:=
 A6 (ρ:=[.sh d]) ((dH ((A7 ((cO rfl).trans (fQ h))).trans (by rw[s];rfl))).trans rfl)
noncomputable def tn:D->D
 |.int i=>.int (1-i)
 |d=>d
def nV(h:bit d):plain d=qc/\dep d=0:=by rcases h with rfl|rfl<;>exact⟨rfl,rfl⟩
def xM(h: ∀w∈ws,bit w):cE ws=qc:=fO.2 λx m=>(nV (h x m)).1
def HY{m:Nat}(hm:m<=4)(l:ws.length=2^m)(h: ∀w∈ws,bit w):HX (.tup [.int m,.tup ws])=qc:=by
 have d:wb 5 (.int m)=qc:=by simp[wb];lia
 have b:ws.all (wb 2)=qc:=by
  rw[jk];intro w c;rcases h w c with rfl|rfl<;>rfl
 have a:HX (.tup [.int m,.tup ws])=(wb 5 (.int m)&&(decide ((ws.length:Int)=(2^m:Nat))&&ws.all (wb 2))):=rfl;rw[a,d,b,decide_eq_true (by rw[l])];rfl
def DG{m:Nat}(h: ∀w∈ws,bit w):plain (.tup [.int m,.tup ws])=qc:=by simp[plain,cE,xM h]
end SK.k73
namespace SK
open PySem
def wE(hi:it ρ= .ok (.lst ds)\/it ρ= .ok (.tup ds)\/it ρ= .ow ds)(h:bM (dN n (mP cs ρ) c e) ds=pi xs):bS n cs it c e ρ= .ow xs:=by rcases hi with hi|hi|hi<;>simp[bS,hi,R.bind,j9,items,h]
def Bj(h:a ρ= .ok (.tup xs))(k:b ρ= .ok (.tup ys)):qR a b ρ= .ok (.lst ((xs.zip ys).map λp=>D.tup [p.1,p.2])):=by simp[qR,h,k,R.bind]
noncomputable def bD(b:Bool):D:=.int (b2i b)
end SK
namespace SK.k73
open SK PySem
noncomputable def sw(m:Nat)(bs:L1 Bool):D:=.tup [.int m,.tup (bs.map bD)]
def jZ(m:Nat)(bs:L1 Bool):Prop:=m<=4/\bs.length=2^m
def Lv b:bit (bD b):=by cases b;exact .inl rfl;exact .inr rfl
theorem Bk: ∀{ws},(∀w∈ws,bit w)->∃bs:L1 Bool,ws=bs.map bD
 |[],_=>⟨[],rfl⟩
 |w::r,h=>by
  obtain⟨bs,rfl⟩:=Bk (ws:=r) λx m=>h x (.tail _ m);rcases h w (.head _)with rfl|rfl;exact⟨qe::bs,rfl⟩;exact⟨qc::bs,rfl⟩
def Bl(bs:L1 Bool): ∀w∈bs.map bD,bit w:=λw m=>by obtain⟨b,_,rfl⟩:=au.1 m;exact Lv b
def j0(g:jZ m bs):HX (sw m bs)=qc:=HY g.1 (by simpa using g.2) (Bl bs)
def kM m bs:plain (sw m bs)=qc:=DG (Bl bs)
def Bm m bs:dep (sw m bs)<=60:=by have:=Bb λx a=>(nV (Bl bs x a)).2;simp[sw,dep,xT,this]
def DH ns(at':Nat)(hm:m<=4): ∃bs,jZ m bs/\cV [Sc ns,.int at',.int m]= .ok (sw m bs):=by obtain⟨a,e,l,b⟩:=Bg ns at' hm;obtain⟨bs,rfl⟩:=Bk b;exact⟨bs,⟨hm,by simpa using l⟩,e⟩
def jZ.zip f(g:jZ m a)(h:jZ m b):jZ m (nz f a b):=⟨g.1,by simp[g.2,h.2]⟩
def jZ.not(g:jZ m a):jZ m (a.map (! ·)):=⟨g.1,by simp[g.2]⟩
def pG(g:jZ m a)(h:jZ m b):bN [sw m a,sw m b]= .ok .non:=by
 refine A6 (ρ:=[.sh (sw m a),.sh (sw m b)]) ((aF (fD ((cO rfl).trans (jY (kM m a) (j0 g))))).trans ((aF (fD ((cO rfl).trans (jY (kM m b) (j0 h))))).trans ((dH ((bA (x:=.int m) (y:=.int m) rfl rfl).trans ?_)).trans rfl)));rw[Bi];simp
def pH(hop: ∀x y,iQ op (bD x) (bD y)= .ok (bD (f x y))):
  bS 2 [] (qR (rIx (aE 0) (rK (.int 1))) (rIx (aE 1) (rK (.int 1)))) qb (aV op (aB 0) (aB 1)) [.sh (sw m a),.sh (sw m b)]= .ow ((nz f a b).map bD):=by
 refine wE (.inl (Bj rfl rfl)) ?_;have: ∀(a b:L1 Bool),bM (dN 2 (mP [] [.sh (sw m a),.sh (sw m b)]) qb (aV op (aB 0) (aB 1))) (((a.map bD).zip (b.map bD)).map λp=>D.tup [p.1,p.2])=pi ((nz f a b).map bD):=by
  intro a;induction a with
  |nil=>intro b;rfl
  |cons x a c=>
   intro b;rcases b with _|⟨y,b⟩;rfl;have:=c b;simp only[mP,nj]at this ⊢;simp only[lm,List.zip_cons_cons,List.zipWith_cons_cons,bM];rw[show dN 2 [] qb (aV op (aB 0) (aB 1)) (D.tup [bD x,bD y])=pi (pi (bD (f x y))) from by
    have d:aV op (aB 0) (aB 1) [.sh (bD x),.sh (bD y)]= .ok (bD (f x y)):=(aZ rfl rfl).trans (hop x y);simp[dN,tgt,d]]
   simp[this]
 exact this a b
def HZ(g:jZ m a)(h:jZ m b):nT [sw m a,sw m b]= .ok (sw m (nz (· && ·) a b)):=
 aY ((aF (fD ((dA rfl rfl).trans (pG g h)))).trans (aW (eO rfl ((eE (pH λx y=>by cases x<;>cases y<;>rfl)).trans rfl))))
def Bn(g:jZ m a)(h:jZ m b):hU [sw m a,sw m b]= .ok (sw m (nz (· || ·) a b)):=
 aY ((aF (fD ((dA rfl rfl).trans (pG g h)))).trans (aW (eO rfl ((eE (pH λx y=>by cases x<;>cases y<;>rfl)).trans rfl))))
def Bo(g:jZ m a)(h:jZ m b):hV [sw m a,sw m b]= .ok (sw m (nz (· ^^ ·) a b)):=
 aY ((aF (fD ((dA rfl rfl).trans (pG g h)))).trans (aW (eO rfl ((eE (pH λx y=>by cases x<;>cases y<;>rfl)).trans rfl))))
def Bp(g:jZ m a):jC [sw m a]= .ok (sw m (a.map (! ·))):=by
 have e:bS 0 [] (rIx (aE 0) (rK (.int 1))) qb (aV .Sub (rK (.int 1)) (aB 0)) [.sh (sw m a)]= .ow ((a.map (! ·)).map bD):=by
  have:=i9 (cs:=[]) (it:=rIx (aE 0) (rK (.int 1))) (e:=aV .Sub (rK (.int 1)) (aB 0)) (ρ:=[.sh (sw m a)]) (ds:=a.map bD) (g:=tn) (.inr (.inl rfl)) λd c=>by
   obtain⟨b,_,rfl⟩:=au.1 c;cases b<;>rfl
  rw[this,n5,n5];congr 1;refine ic λb _=>?_;cases b<;>rfl
 exact aY ((aF (fD ((cO rfl).trans (jY (kM m a) (j0 g))))).trans (aW ((eO (x:=.int (m:Nat)) rfl ((eE e).trans rfl)).trans rfl)))
def j4(h:a ρ= .ex c ρ'):aR a b ρ= .ex c ρ':=by simp[aR,h]
def DI(g:jZ m a)(h:jZ m2 b)(n:m≠m2):bN [sw m a,sw m2 b]= .ex 4:=by
 refine iN (ρ:=[.sh (sw m a),.sh (sw m2 b)]) ((aF (fD ((cO rfl).trans (jY (kM m a) (j0 g))))).trans ((aF (fD ((cO rfl).trans (jY (kM m2 b) (j0 h))))).trans ((eN ((bA (x:=.int m) (y:=.int m2) rfl rfl).trans ?_)).trans rfl)));rw[Bi,decide_eq_false (by lia)];rfl
noncomputable def Cd x y(h:bN [x,y]= .ex c):nT [x,y]= .ex c/\hU [x,y]= .ex c/\hV [x,y]= .ex c:=
 ⟨iN (ρ:=[.sh x,.sh y]) (j4 (pB ((dA rfl rfl).trans h))),iN (ρ:=[.sh x,.sh y]) (j4 (pB ((dA rfl rfl).trans h))),iN (ρ:=[.sh x,.sh y]) (j4 (pB ((dA rfl rfl).trans h)))⟩
section
variable{h:L1 (Str×D)}
def bG:bC (p::h) y=if p.1=y then pi p.2 else bC h y:=by by_cases e:p.1=y<;>simp[bC,e]
def Bq(n:y∉h.map (·.1)):bC h y=qb:=by
 induction h with
 |nil=>rfl
 |cons p r a=>
  rw[bG,if_neg (λe=>n (by simp[e])),a λm=>n (by simp[m])]
def pI(nd:(h.map (·.1)).Nodup)(m:p∈h):bC h p.1=pi p.2:=by
 induction h with
 |nil=>cases m
 |cons q r a=>
  rw[lm,kc]at nd;rw[bG];rcases av.1 m with rfl|m;simp;have b: ¬q.1=p.1:=λe=>nd.1 (by rw[e];exact au.2 ⟨p,m,rfl⟩);rw[if_neg b,a nd.2 m]
def pJ(e:bC h y=pi v):(y,v)∈h:=by
 induction h with
 |nil=>cases e
 |cons q r a=>
  rw[bG]at e;split at e;rename_i z;cases e;subst z;exact .head _;exact .tail _ (a e)
def gP:(bC h y).isSome=(h.map (·.1)).contains y:=by
 induction h with
 |nil=>rfl
 |cons q r a=>
  rw[bG,lm,List.contains_cons];by_cases e:q.1=y;simp[e];rw[if_neg e,a,show(y==q.1)=qe from by simpa using λz=>e z.symm];simp
def Br:(h.any λp=>decide (p.1=x))=(bC h x).isSome:=by
 induction h with
 |nil=>rfl
 |cons q r a=>
  rw[lr,bG,a];by_cases e:q.1=x<;>simp[e]
def mH(n:(bC h x).isSome=qe):fJ h x d=h++[(x,d)]:=by unfold fJ;rw[Br,n];rfl
def pK(n:(bC h x).isSome=qc):fJ h x d=h.map λp=>if p.1=x then(p.1,d)else p:=by unfold fJ;rw[Br,n];rfl
def DJ:(h.map λp=>if p.1=x then(p.1,d)else p).map (·.1)=h.map (·.1):=by rw[n5];refine ic λp _=>?_;by_cases e:p.1=x<;>simp[e]
def wF(hn:(h.map (·.1)).Nodup):((fJ h x d).map (·.1)).Nodup:=by rcases n:(bC h x).isSome with _|_;rw[mH n,List.map_append];refine List.nodup_append.2 ⟨hn,by simp,λa f b c=>?_⟩;rw[gP]at n;simp at c;subst c;intro e;subst e;simp at n f;obtain⟨v,g⟩:=f;exact n v g;rw[pK n,DJ];exact hn
def Id(m:p∈fJ h x d):p=(x,d)\/p∈h:=by rcases n:(bC h x).isSome with _|_;rw[mH n]at m;rcases jz.1 m with m|m;exact .inr m;left;simpa using m;rw[pK n]at m;obtain⟨q,a,rfl⟩:=au.1 m;by_cases e:q.1=x;left;simp[e];right;simpa[e]using a
def uI(hn:(h.map (·.1)).Nodup):bC (fJ h x d) x=pi d:=by refine pI (wF hn) (p:=(x,d)) ?_;rcases n:(bC h x).isSome with _|_;rw[mH n];simp;rw[pK n];obtain⟨v,e⟩:=dz.1 n;exact au.2 ⟨(x,v),pJ e,by simp⟩
def sN(hn:(h.map (·.1)).Nodup):((fL h x).map (·.1)).Nodup:=hn.sublist (List.Sublist.map _ List.filter_sublist)
def DK:(h.map (·.1)).zip (h.map (·.2))=h:=by
 induction h with
 |nil=>rfl
 |cons q r a=>simp[a]
theorem Lw: ∀(ps acc:L1 (Str×D)),((acc++ps).map (·.1)).Nodup->ps.foldl (λacc p=>fJ acc p.1 p.2) acc=acc++ps
 |[],acc,_=>by simp
 |p::r,acc,hn=>by
  have n:(bC acc p.1).isSome=qe:=by
   rw[Bq];rfl;rw[List.map_append,List.nodup_append]at hn;intro m;exact hn.2.2 p.1 m p.1 (by simp) rfl
  rw[List.foldl_cons,mH n,Lw r _ (by simpa using hn)];simp
def Ie(hn:(h.map (·.1)).Nodup):tF h=h:=by have:=Lw h [] (by simpa using hn);exact this
def xN:kB (h.map λp=>D.tup [.str p.1,p.2])=pi h:=by
 induction h with
 |nil=>rfl
 |cons q r a=>simp[kB,a]
def Bs(hn:(h.map (·.1)).Nodup)(hl:h.length<=1000):m9 (.lst (h.map λp=>D.tup [.str p.1,p.2]))= .ok (.dct (h.map (·.1)) (h.map (·.2))):=by simp[m9,xN,hl,Ie hn]
end
theorem wG x: ∀l,(Ca x l).Perm (x::l)
 |[]=>.refl _
 |y::l=>by
  unfold Ca;split;exact((wG x l).cons y).trans (pj.swap _ _ _);exact .refl _
theorem gQ: ∀l,(iA l).Perm l
 |[]=>.refl _
 |x::l=>(wG x _).trans ((gQ l).cons x)
def bB(e:g ρ b= .nx ρ' b'):dC g h ρ b=h ρ' b':=by simp[dC,e]
def j5(e:g ρ b= .rt x ρ' b'):dC g h ρ b= .rt x ρ' b':=by simp[dC,e]
def mI(e:g ρ b= .ex c b'):dC g h ρ b= .ex c b':=by simp[dC,e]
def jE(e:f ρ= .ok d):r8 f ρ b= .nx ρ b:=by simp[r8,e,vZ]
def pL(e:f ρ= .ok d):C5 i f ρ b= .nx (ρ.set (i+1) (.sh d)) b:=by simp[C5,e,vZ]
def uJ(e:f ρ= .ex c):C5 i f ρ b= .ex c b:=by simp[C5,e,vZ]
def Ig(e:f ρ= .ok (.bl qc)):mIf f g h ρ b=g ρ b:=by simp[mIf,e]
def DL(e:f ρ= .ok (.bl qe)):mIf f g h ρ b=h ρ b:=by simp[mIf,e]
def mJ(e:f ρ= .ok d):sA f ρ b= .rt (.ok d) ρ b:=by simp[sA,e]
def Ih(e:f ρ= .ow xs):sA f ρ b= .rt (.ow xs) ρ b:=by simp[sA,e]
def uK(h:e ρ= .ex c):dW e ρ= .ex c ρ:=by simp[dW,h]
noncomputable def NM:L1 Str:=["a","b","gm","xjqp"]
noncomputable def WD:L1 Str:=["both","either","unlike"]
def Sw(d:D):Prop:= ∃m a,jZ m a/\d=sw m a
def kW(hx:x∈NM):cI [.str x]= .ok .non:=by
 simp only[NM,av,jq,or_false]at hx;rcases hx with rfl|rfl|rfl|rfl<;>kernel_rfl
def Lx(h:Sw d):bK [d]= .ok .non:=by obtain⟨m,a,g,rfl⟩:=h;exact jY (kM m a) (j0 g)
def xV(r:Rk)(x:Str):R:=match bC r.held x with|some d=>.ok d|none=>.ex 8
def uL r(hx:x∈NM):aG r [.str x]= .pure (xV r x):=by unfold aG iI xV;show f8 350 (dC _ _ [.rk 350 r,.sh (.str x)] qe)=_;rw[bB (jE ((cO (x:=.str x) rfl).trans (kW hx)))];rcases e:bC r.held x with _|d;rw[mI (c:=8) (b':=qe)];rfl;rw[Ig];rfl;show R.ok (.bl (qc != (bC r.held x).isSome))=_;rw[e];rfl;rw[bB (ρ':=[.rk 350 r,.sh (.str x)]) (b':=qe)];rw[j5 (mJ (d:=d) ?_)];rfl;show(match bC r.held x with|some d=>R.ok d|none=>R.bad)=_;rw[e];rw[DL];rfl;show R.ok (.bl (qc != (bC r.held x).isSome))=_;rw[e];rfl
def Bt r(hv:n6 v=qe)(hl:r.held.length<LIM):aP r [.str x,v]= .chg .non {r with held:=fJ r.held x v}:=by unfold aP iI;show f8 350 (dC _ _ [.rk 350 r,.sh (.str x),.sh v] qe)=_;rw[bB (ρ':=[.rk 350 {r with held:=fJ r.held x v},.sh (.str x),.sh v]) (b':=qc)];rfl;rw[DL];rw[bB (ρ':=[.rk 350 {r with held:=fJ r.held x v},.sh (.str x),.sh v]) (b':=qc)];rfl;show(if r.held.length<LIM then setR 350 [.rk 350 r,.sh (.str x),.sh v] {r with held:=fJ r.held x v} else OutM.bad)=_;rw[if_pos hl];rfl;show R.ok (.bl (n6 v))=_;rw[hv]
def wH r(hh:(bC r.held x).isSome=qc):aP r [.str x,.non]= .chg .non {r with held:=fL r.held x}:=by unfold aP iI;show f8 350 (dC _ _ [.rk 350 r,.sh (.str x),.sh .non] qe)=_;rw[bB (ρ':=[.rk 350 {r with held:=fL r.held x},.sh (.str x),.sh .non]) (b':=qc)];rfl;rw[Ig];rw[bB (ρ':=[.rk 350 {r with held:=fL r.held x},.sh (.str x),.sh .non]) (b':=qc)];rfl;show(if(bC r.held x).isSome then setR 350 [.rk 350 r,.sh (.str x),.sh .non] {r with held:=fL r.held x} else OutM.bad)=_;rw[if_pos hh];rfl;rfl
def fR(r:Rk)(w x:Str)(v:D):D:=.tup [.str w,.str x,(bC r.held x).getD .non,v]
def Ly r(hl:r.done.length<LIM)(hs:aP ⟨r.held,r.done++[fR r w x v],[]⟩ [.str x,v]= .chg .non ⟨k,r.done++[fR r w x v],[]⟩):
  jW r [.str w,.str x,v]= .chg .non ⟨k,r.done++[fR r w x v],[]⟩:=by
 unfold jW iI;show f8 350 (dC _ _ [.rk 350 r,.sh (.str w),.sh (.str x),.sh v] qe)=_;rw[bB (ρ':=[.rk 350 {r with done:=r.done++[fR r w x v]},.sh (.str w),.sh (.str x),.sh v]) (b':=qc)];rw[bB (g:=v5 350) (ρ':=[.rk 350 ⟨r.held,r.done++[fR r w x v],[]⟩,.sh (.str w),.sh (.str x),.sh v]) (b':=qc) (by rfl)];rw[bB (ρ':=[.rk 350 ⟨k,r.done++[fR r w x v],[]⟩,.sh (.str w),.sh (.str x),.sh v]) (b':=qc)];rfl;show(match aP ⟨r.held,r.done++[fR r w x v],[]⟩ [.str x,v]with
  |.pure b=>vZ qc b λ_=>.nx [.rk 350 ⟨r.held,r.done++[fR r w x v],[]⟩,.sh (.str w),.sh (.str x),.sh v] qc
  |.chg _ a=>OutM.nx [.rk 350 a,.sh (.str w),.sh (.str x),.sh v] qc)=_
 rw[hs];show(if r.done.length<LIM then setR 350 [.rk 350 r,.sh (.str w),.sh (.str x),.sh v] {r with done:=r.done++[fR r w x v]} else OutM.bad)=_;rw[if_pos hl];rfl
def Bu r(hv:n6 v=qe)(hl:r.done.length<LIM)(hk:r.held.length<LIM):jW r [.str w,.str x,v]= .chg .non ⟨fJ r.held x v,r.done++[fR r w x v],[]⟩:=Ly r hl (Bt ⟨r.held,_,[]⟩ hv hk)
def Ii r(hl:r.done.length<LIM)(hh:(bC r.held x).isSome=qc):jW r [.str w,.str x,.non]= .chg .non ⟨fL r.held x,r.done++[fR r w x .non],[]⟩:=Ly r hl (wH ⟨r.held,_,[]⟩ hh)
def Sw.nn(h:Sw d):n6 d=qe:=by obtain⟨m,a,_,rfl⟩:=h;rfl
def pM{ρ ρ':Rho}(e0:ρ[0]? =pi (.rk 350 r))(ea:args fs ρ= .ok ds)(ed:jW r ds= .chg .non r')(eρ:ρ.set 0 (.rk 350 r')=ρ'):jT 350 jW fs ρ b= .nx ρ' qc:=by simp[jT,mUp,e0,Mc,ea,ed,eρ]
section
variable (r:Rk) {x y z w:Str} {v v':D}
def E3(hx:x∈NM)(hv:Sw v)(hl:r.done.length<LIM)(hk:r.held.length<LIM):eZ r [.str x,v]= .chg (.bl (bC r.held x).isSome) ⟨fJ r.held x v,r.done++[fR r "put" x v],[]⟩:=by unfold eZ iI;show f8 350 (dC _ _ [.rk 350 r,.sh (.str x),.sh v,.no] qe)=_;rw[bB (jE ((cO (x:=v) rfl).trans (Lx hv))),bB (jE ((cO (x:=.str x) rfl).trans (kW hx)))];rw[bB (ρ':=[.rk 350 r,.sh (.str x),.sh v,.sh (.bl (bC r.held x).isSome)]) (b':=qe)];rw[bB (pM rfl (ds:=[.str "put",.str x,v]) rfl (Bu r hv.nn hl hk) rfl)];rfl;refine(pL (d:=.bl (bC r.held x).isSome) ?_).trans rfl;show R.ok (.bl (qe != (bC r.held x).isSome))=_;simp
def Ij(hx:x∈NM)(hl:r.done.length<LIM)(e:bC r.held x=pi v):dJ r [.str x]= .chg v ⟨fL r.held x,r.done++[fR r "take" x .non],[]⟩:=by unfold dJ iI;show f8 350 (dC _ _ [.rk 350 r,.sh (.str x),.no] qe)=_;rw[bB (ρ':=[.rk 350 r,.sh (.str x),.sh v]) (b':=qe)];rw[bB (pM rfl (ds:=[.str "take",.str x,.non]) rfl (Ii r hl (by rw[e];rfl)) rfl)];rfl;refine(pL (d:=v) ?_).trans rfl;show(aG r [.str x]).told=_;rw[uL r hx];unfold xV;rw[e];rfl
def Ik(hx:x∈NM)(e:bC r.held x=qb):dJ r [.str x]= .pure (.ex 8):=by unfold dJ iI;show f8 350 (dC _ _ [.rk 350 r,.sh (.str x),.no] qe)=_;rw[mI (uJ (c:=8) ?_)];rfl;show(aG r [.str x]).told=_;rw[uL r hx];unfold xV;rw[e];rfl
def Il{m}{a}(g:jZ m a)(hx:x∈NM)(hl:r.done.length<LIM)(hk:r.held.length<LIM)(e:bC r.held x=pi (sw m a)):dU r [.str x]= .chg (sw m (a.map (! ·))) ⟨fJ r.held x (sw m (a.map (! ·))),r.done++[fR r "turn" x (sw m (a.map (! ·)))],[]⟩:=by unfold dU iI;show f8 350 (dC _ _ [.rk 350 r,.sh (.str x),.no] qe)=_;rw[bB (ρ':=[.rk 350 r,.sh (.str x),.sh (sw m (a.map (! ·)))]) (b':=qe)];rw[bB (pM rfl (ds:=[.str "turn",.str x,sw m (a.map (! ·))]) rfl (Bu r rfl hl hk) rfl)];rfl;refine(pL (d:=sw m (a.map (! ·))) ((cO (x:=sw m a) ?_).trans (Bp g))).trans rfl;show(aG r [.str x]).told=_;rw[uL r hx];unfold xV;rw[e];rfl
def Im(hx:x∈NM)(e:bC r.held x=qb):dU r [.str x]= .pure (.ex 8):=by
 unfold dU iI;show f8 350 (dC _ _ [.rk 350 r,.sh (.str x),.no] qe)=_;have h:eU 350 0 aG [aB 1] [.rk 350 r,.sh (.str x),.no]= .ex 8:=by
  show(aG r [.str x]).told=_;rw[uL r hx];unfold xV;rw[e];rfl
 rw[mI (uJ (c:=8) ?_)];rfl;simp[aH,mO,args,h,RA.then]
def Io(hx:x∈NM)(hl:r.done.length<LIM)(hk:r.held.length<LIM)(hv:n6 v=qe)(e:aH d7 [aB 2,eU 350 0 aG [aB 3],eU 350 0 aG [aB 4]] [.rk 350 r,.sh (.str x),.sh (.str w),.sh (.str y),.sh (.str z),.no]= .ok v):
  dM r [.str x,.str w,.str y,.str z]= .chg v ⟨fJ r.held x v,r.done++[fR r "join" x v],[]⟩:=by
 unfold dM iI;show f8 350 (dC _ _ [.rk 350 r,.sh (.str x),.sh (.str w),.sh (.str y),.sh (.str z),.no] qe)=_;rw[bB (jE ((cO (x:=.str x) rfl).trans (kW hx)))];rw[bB (ρ':=[.rk 350 r,.sh (.str x),.sh (.str w),.sh (.str y),.sh (.str z),.sh v]) (b':=qe) ((pL e).trans rfl)];rw[bB (pM rfl (ds:=[.str "join",.str x,v]) rfl (Bu r hv hl hk) rfl)];rfl
def Bv{c}(hx:x∈NM)(e:aH d7 [aB 2,eU 350 0 aG [aB 3],eU 350 0 aG [aB 4]] [.rk 350 r,.sh (.str x),.sh (.str w),.sh (.str y),.sh (.str z),.no]= .ex c):
  dM r [.str x,.str w,.str y,.str z]= .pure (.ex c):=by
 unfold dM iI;show f8 350 (dC _ _ [.rk 350 r,.sh (.str x),.sh (.str w),.sh (.str y),.sh (.str z),.no] qe)=_;rw[bB (jE ((cO (x:=.str x) rfl).trans (kW hx))),mI (uJ e)];rfl
def E4{s}{x' w'}(hy:y∈NM)(hz:z∈NM):(eU 350 0 aG [aB 3] [.rk 350 r,x',w',.sh (.str y),.sh (.str z),s]=xV r y)/\(eU 350 0 aG [aB 4] [.rk 350 r,x',w',.sh (.str y),.sh (.str z),s]=xV r z):=by constructor;show(aG r [.str y]).told=_;rw[uL r hy];rfl;show(aG r [.str z]).told=_;rw[uL r hz];rfl
def Bw(hx:x∈NM)(hy:y∈NM)(hz:z∈NM)(e:bC r.held y=qb\/bC r.held z=qb):dM r [.str x,.str w,.str y,.str z]= .pure (.ex 8):=by refine Bv r hx ?_;obtain⟨a,b⟩:=E4 r (s:=.no) (x':=.sh (.str x)) (w':=.sh (.str w)) hy hz;simp only[aH,mO,args,a,b,RA.then,aB,List.getElem?_cons_zero,List.getElem?_cons_succ];unfold xV;rcases e with e|e;simp[e,RA.cons];cases c:bC r.held y<;>simp[e,RA.cons]
noncomputable def opB(w:Str):Bool->Bool->Bool:=if w="both" then(· && ·)else if w="either" then(· || ·)else(· ^^ ·)
def Bx{m}{a b}(g:jZ m a)(h:jZ m b)(hw:w∈WD):d7 [.str w,sw m a,sw m b]= .ok (sw m (nz (opB w) a b)):=by simp only[WD,av,jq,or_false]at hw;rcases hw with rfl|rfl|rfl;exact aY (cU ((eN (by kernel_rfl)).trans (aW ((dA (x:=sw m a) (y:=sw m b) rfl rfl).trans (HZ g h)))));exact aY ((aF ((dH (by kernel_rfl)).trans rfl)).trans (cU ((eN (by kernel_rfl)).trans (aW ((dA (x:=sw m a) (y:=sw m b) rfl rfl).trans (Bn g h))))));exact aY ((aF ((dH (by kernel_rfl)).trans rfl)).trans ((aF ((dH (by kernel_rfl)).trans rfl)).trans (cU ((eN (by kernel_rfl)).trans (aW ((dA (x:=sw m a) (y:=sw m b) rfl rfl).trans (Bo g h)))))))
def By{m m2}{a b}(g:jZ m a)(h:jZ m2 b)(n:m≠m2)(hw:w∈WD):d7 [.str w,sw m a,sw m2 b]= .ex 4:=by obtain⟨c,d,e⟩:=Cd _ _ (DI g h n);simp only[WD,av,jq,or_false]at hw;rcases hw with rfl|rfl|rfl;exact iN (j4 ((eN (by kernel_rfl)).trans (uK ((dA (x:=sw m a) (y:=sw m2 b) rfl rfl).trans c))));exact iN ((aF ((dH (by kernel_rfl)).trans rfl)).trans (j4 ((eN (by kernel_rfl)).trans (uK ((dA (x:=sw m a) (y:=sw m2 b) rfl rfl).trans d)))));exact iN ((aF ((dH (by kernel_rfl)).trans rfl)).trans ((aF ((dH (by kernel_rfl)).trans rfl)).trans (j4 ((eN (by kernel_rfl)).trans (uK ((dA (x:=sw m a) (y:=sw m2 b) rfl rfl).trans e))))))
def sO(hy:y∈NM)(hz:z∈NM){s x'}(e1:bC r.held y=pi v)(e2:bC r.held z=pi v'):aH d7 [aB 2,eU 350 0 aG [aB 3],eU 350 0 aG [aB 4]] [.rk 350 r,x',.sh (.str w),.sh (.str y),.sh (.str z),s]=d7 [.str w,v,v']:=by obtain⟨a,b⟩:=E4 r (s:=s) (x':=x') (w':=.sh (.str w)) hy hz;refine dQ rfl (a.trans ?_) (b.trans ?_);unfold xV;rw[e1];unfold xV;rw[e2]
end
def OV:aL [.exc 8]= .ok (.str "no label"):=by kernel_rfl
def OW:aL [.exc 4]= .ok (.str "unlike"):=by kernel_rfl
def Ip(e:f ρ= .ok (.bl qc)):ifM f g h ρ=g ρ:=by simp[ifM,e]
def xO(e:f ρ= .ok (.bl qe)):ifM f g h ρ=h ρ:=by simp[ifM,e]
section
variable (r:Rk) {x y z w:Str} {v:D} {ds:L1 D}
def Iq{s}{u u'}{b}(h:dR .Eq (.str u) (.str u')= .ok (.bl b)):bH .Eq (rIx (aE 1) (rK (.int 0))) (rK (.str u')) [s,.sh (.tup (.str u::ds))]= .ok (.bl b):=(bA (x:=.str u) (y:=.str u') ((cZ (x:=.tup (.str u::ds)) (y:=.int ((0:Nat):Int)) rfl rfl).trans (uF rfl)) rfl).trans h
def Lz{s}{u u'}{b}(h:dR .Eq (.str u) (.str u')= .ok (.bl b)):bH .Eq (rIx (aE 0) (rK (.int 0))) (rK (.str u')) [.sh (.tup (.str u::ds)),s]= .ok (.bl b):=(bA (x:=.str u) (y:=.str u') ((cZ (x:=.tup (.str u::ds)) (y:=.int ((0:Nat):Int)) rfl rfl).trans (uF rfl)) rfl).trans h
def Ir:aQ r [.tup [.str "put",.str x,v]]=cY aL (eZ r [.str x,v]):=by unfold aQ Hv mF;exact(Ip (ρ:=[.rk 350 r,.sh (.tup [.str "put",.str x,v])]) (Iq (by kernel_rfl))).trans rfl
def kX:aQ r [.tup [.str "join",.str x,.str w,.str y,.str z]]=cY aL (dM r [.str x,.str w,.str y,.str z]):=by unfold aQ Hv mF;exact(xO (ρ:=[.rk 350 r,.sh (.tup [.str "join",.str x,.str w,.str y,.str z])]) (Iq (by kernel_rfl))).trans ((Ip (Iq (by kernel_rfl))).trans rfl)
def wI:aQ r [.tup [.str "turn",.str x]]=cY aL (dU r [.str x]):=by unfold aQ Hv mF;refine(xO (ρ:=[.rk 350 r,.sh (.tup [.str "turn",.str x])]) (Iq (by kernel_rfl))).trans ((xO (Iq (by kernel_rfl))).trans ?_);show cY aL (ifM _ _ _ [.sh (.tup [.str "turn",.str x]),.rk 350 r])=_;rw[Ip (Lz (by kernel_rfl))];rfl
def wJ:aQ r [.tup [.str "take",.str x]]=cY aL (dJ r [.str x]):=by unfold aQ Hv mF;refine(xO (ρ:=[.rk 350 r,.sh (.tup [.str "take",.str x])]) (Iq (by kernel_rfl))).trans ((xO (Iq (by kernel_rfl))).trans ?_);show cY aL (ifM _ _ _ [.sh (.tup [.str "take",.str x]),.rk 350 r])=_;rw[xO (Lz (by kernel_rfl))];rfl
end
def E5:bH .Eq (rIx (aE i) (rK (.int 0))) (rK (.str u)) ρ≠ .ex c:=by
 have d: ∀x y c,dIx x y≠ .ex c:=λx y c=>by
  unfold dIx ixS
  repeat' split
  all_goals exact λz=>nomatch z
 have b: ∀x y c,dR .Eq x y≠ .ex c:=λx y c=>by
  unfold dR n9
  dsimp only
  repeat' split
  all_goals exact λz=>nomatch z
 have f: ∀c,aE i ρ≠ .ex c:=λc=>by
  unfold aE
  repeat' split
  all_goals exact λz=>nomatch z
 intro z;unfold bH rIx at z
 cases e:aE i ρ with
 |ok x=>
  rw[e]at z
  cases a:dIx x (.int 0)with
  |ok y=>simp only[R.bind,rK,a]at z;exact b _ _ _ z
  |ow y=>simp only[R.bind,rK,a]at z;exact b _ _ _ z
  |ex y=>exact d _ _ _ a
  |bad=>simp only[R.bind,rK,a]at z;cases z
 |ow x=>
  rw[e]at z
  cases a:dIx (.lst x) (.int 0)with
  |ok y=>simp only[R.bind,rK,a]at z;exact b _ _ _ z
  |ow y=>simp only[R.bind,rK,a]at z;exact b _ _ _ z
  |ex y=>exact d _ _ _ a
  |bad=>simp only[R.bind,rK,a]at z;cases z
 |ex c=>exact f _ e
 |bad=>rw[e]at z;cases z
def E6(hf: ∀c,f ρ≠ .ex c)(hg: ∀c,g ρ≠ .pure (.ex c))(hh: ∀c,h ρ≠ .pure (.ex c))c:ifM f g h ρ≠ .pure (.ex c):=by intro z;unfold ifM at z;split at z;split at z;exact hg c z;exact hh c z;rename_i e;exact hf _ e;cases z
def pN{F}c:uD F cap g ρ≠ .pure (.ex c):=by
 intro z;unfold uD at z;split at z;rename_i a _;cases e:g a with
 |pure r=>rw[e]at z;exact v9 r c (RM.pure.inj z)
 |chg x r=>rw[e]at z;cases z
 cases z
def LA r ds c:aQ r ds≠ .pure (.ex c):=by unfold aQ Hv mF;exact E6 (λ_=>E5) pN (E6 (λ_=>E5) pN pN) c
def E7(d:D):Prop:=(∃x∈NM, ∃v,Sw v/\d= .tup [.str "put",.str x,v])\/(∃x∈NM,d= .tup [.str "take",.str x])\/(∃x∈NM,d= .tup [.str "turn",.str x])\/
 (∃x∈NM, ∃w∈WD, ∃y∈NM, ∃z∈NM,d= .tup [.str "join",.str x,.str w,.str y,.str z])
def Iu(h:p<4): ∃x∈NM,dIx (.lst (NM.map D.str)) (.int (p:Nat))= .ok (.str x):=
 ⟨NM[p]'h,jv _,gO (by rw[i6,bd (show p<NM.length from h)];rfl)⟩
def NC(h:p<3): ∃x∈WD,dIx (.lst (WD.map D.str)) (.int (p:Nat))= .ok (.str x):=
 ⟨WD[p]'h,jv _,gO (by rw[i6,bd (show p<WD.length from h)];rfl)⟩
noncomputable def MN:L1 Nat:=[2,2,2,1,3,4,0]
def ND(h:p<7): ∃m,m<=4/\dIx (.lst (MN.map λ(i:Nat)=>D.int (i:Int))) (.int (p:Nat))= .ok (.int (m:Nat)):=by
 refine⟨MN[p]'h,?_,gO (by rw[i6,bd (show p<MN.length from h)];rfl)⟩;have: ∀m∈MN,m<=4:=by decide
 exact this _ (jv _)
def NE(h1:a ρ= .ok x)(h2:b ρ= .ok y)(h3:c ρ= .ok z)(h4:d ρ= .ok u)(h5:e ρ= .ok v):dD [a,b,c,d,e] ρ= .ok (.tup [x,y,z,u,v]):=by simp[dD,mO,args,h1,h2,h3,h4,h5,RA.cons,RA.then]
def NF i j:dR .Lt (.int i) (.int j)= .ok (.bl (decide (i<j))):=rfl
def LB ks vs: ∃b,dR .Eq (.dct ks vs) (.dct [] [])= .ok (.bl b):=by
 have:(vs.all λd=>([]:L1 D).all λe=>iO d e)=qc:=by simp
 refine⟨qe != D6 (ks.zip vs) [],?_⟩;simp only[dR,show iO (.dct ks vs) (.dct [] [])=qe from by simp[iO,plain],az,if_false,n9,this,if_true,List.zip_nil_left]
set_option maxHeartbeats 4000000 in
def Bz ns n ks vs: ∃d,cN [Sc ns,.int (n:Nat),.dct ks vs]= .ok d/\E7 d:=by
 obtain⟨p,T,lp⟩:=cR ns n (m:=4) (by decide);obtain⟨q,Q,lq⟩:=cR ns (n+1) (m:=8) (by decide);obtain⟨x,o,ex⟩:=Iu lp;obtain⟨b0,C⟩:=LB ks vs;let j:Rho:=[.sh (Sc ns),.sh (.int (n:Nat)),.sh (.dct ks vs),.sh (.lst (NM.map D.str)),.no,.no,.no,.no];let e:Rho:=[.sh (Sc ns),.sh (.int (n:Nat)),.sh (.dct ks vs),.sh (.lst (NM.map D.str)),.sh (.str x),.sh (.int (q:Nat)),.no,.no];have S:fS 3 (gG [rK (.str "a"),rK (.str "b"),rK (.str "gm"),rK (.str "xjqp")]) [.sh (Sc ns),.sh (.int (n:Nat)),.sh (.dct ks vs),.no,.no,.no,.no,.no]= .nx j:=o9 rfl;have s2:eT [4,5] (dD [rIx (aE 3) (aH aI [aB 0,aB 1,rK (.int 4)]),aH aI [aB 0,aV .Add (aB 1) (rK (.int 1)),rK (.int 8)]]) j= .nx e:=
  gN (eO ((cZ (x:=.lst (NM.map D.str)) rfl ((dQ (x:=Sc ns) (y:=.int (n:Nat)) (z:=.int ((4:Nat):Int)) rfl rfl rfl).trans T)).trans ex) ((dQ (x:=Sc ns) (y:=.int ((n+1:Nat):Int)) (z:=.int ((8:Nat):Int)) rfl rfl rfl).trans Q)) rfl
 have X: ∃b,rOr (bH .Lt (aB 5) (rK (.int 3))) (bH .Eq (aB 2) (iT)) e= .ok (.bl b):=by
  have G:bH .Lt (aB 5) (rK (.int 3)) e= .ok (.bl (decide ((q:Int)<3))):=(bA (x:=.int (q:Nat)) (y:=.int 3) rfl rfl).trans (NF _ _);cases J:decide ((q:Int)<3)with
  |true=>exact⟨qc,HN (G.trans (by rw[J]))⟩
  |false=>exact⟨b0,(xK (G.trans (by rw[J]))).trans ((bA (x:=.dct ks vs) (y:=.dct [] []) rfl rfl).trans C)⟩
 obtain⟨b,H⟩:=X;have r: ∀{d:D} {dZ:FS},dZ e= .rt (.ok d)->aR (fS 3 (gG [rK (.str "a"),rK (.str "b"),rK (.str "gm"),rK (.str "xjqp")])) (aR (eT [4,5] (dD [rIx (aE 3) (aH aI [aB 0,aB 1,rK (.int 4)]),aH aI [aB 0,aV .Add (aB 1) (rK (.int 1)),rK (.int 8)]])) dZ) [.sh (Sc ns),.sh (.int (n:Nat)),.sh (.dct ks vs),.no,.no,.no,.no,.no]= .rt (.ok d):=λh=>(aF S).trans ((aF s2).trans h);rcases b with _|_;have g: ∀{dZ:FS} {a:FS} {d:D},dZ e= .rt (.ok d)->aR (sIf (rOr (bH .Lt (aB 5) (rK (.int 3))) (bH .Eq (aB 2) (iT))) a aU) dZ e= .rt (.ok d):=λh=>(aF ((dH H).trans rfl)).trans h;have I:bH .Eq (aB 5) (rK (.int 3)) e= .ok (.bl (decide ((q:Int)=3))):=(bA (x:=.int (q:Nat)) (y:=.int 3) rfl rfl).trans (HW _ _);have L:bH .Eq (aB 5) (rK (.int 4)) e= .ok (.bl (decide ((q:Int)=4))):=(bA (x:=.int (q:Nat)) (y:=.int 4) rfl rfl).trans (HW _ _);by_cases s:(q:Int)=3;exact⟨.tup [.str "take",.str x],aY (r (g (cU ((eN (I.trans (by simp[s]))).trans (aW (eO rfl rfl)))))),.inr (.inl ⟨x,o,rfl⟩)⟩;have K:=I.trans (show _=R.ok (.bl qe) from by simp[s]);by_cases l:(q:Int)=4;exact⟨.tup [.str "turn",.str x],aY (r (g ((aF ((dH K).trans rfl)).trans (cU ((eN (L.trans (by simp[l]))).trans (aW (eO rfl rfl))))))),.inr (.inr (.inl ⟨x,o,rfl⟩))⟩;have k4:=L.trans (show _=R.ok (.bl qe) from by simp[l]);obtain⟨t,v,lt⟩:=cR ns (n+3) (m:=3) (by decide);obtain⟨w,mw,ew⟩:=NC lt;obtain⟨t1,B,u⟩:=cR ns (n+4) (m:=4) (by decide);obtain⟨y,my,ey⟩:=Iu u;obtain⟨t2,A,E⟩:=cR ns (n+5) (m:=4) (by decide);obtain⟨z,Z,ez⟩:=Iu E;refine⟨.tup [.str "join",.str x,.str w,.str y,.str z],aY (r (g ((aF ((dH K).trans rfl)).trans ((aF ((dH k4).trans rfl)).trans ((aF (dP (d:=.str w) ?_)).trans (aW ?_)))))),.inr (.inr (.inr ⟨x,o,w,mw,y,my,z,Z,rfl⟩))⟩;exact(wD (x:=WD.map D.str) rfl ((dQ (x:=Sc ns) (y:=.int ((n+3:Nat):Int)) (z:=.int ((3:Nat):Int)) rfl rfl rfl).trans v)).trans ew;have Y:=(cZ (a:=aE 3) (b:=aH aI [aB 0,aV .Add (aB 1) (rK (.int 4)),rK (.int 4)]) (ρ:=e.set 7 (.sh (.str w))) (x:=.lst (NM.map D.str)) rfl ((dQ (x:=Sc ns) (y:=.int ((n+4:Nat):Int)) (z:=.int ((4:Nat):Int)) rfl rfl rfl).trans B)).trans ey;have U:=(cZ (a:=aE 3) (b:=aH aI [aB 0,aV .Add (aB 1) (rK (.int 5)),rK (.int 4)]) (ρ:=e.set 7 (.sh (.str w))) (x:=.lst (NM.map D.str)) rfl ((dQ (x:=Sc ns) (y:=.int ((n+5:Nat):Int)) (z:=.int ((4:Nat):Int)) rfl rfl rfl).trans A)).trans ez;have l:aB 4 (e.set 7 (.sh (.str w)))= .ok (.str x):=rfl;have h7:aB 7 (e.set 7 (.sh (.str w)))= .ok (.str w):=rfl;exact NE rfl l h7 Y U;obtain⟨t,v,lt⟩:=cR ns (n+2) (m:=7) (by decide);obtain⟨m,O,N⟩:=ND lt;obtain⟨bs,W,eb⟩:=DH ns (n+10) O;refine⟨.tup [.str "put",.str x,sw m bs],aY (r (cU ((eN H).trans ?_))),.inl ⟨x,o,_,⟨m,bs,W,rfl⟩,rfl⟩⟩;have M:fS 6 (rIx (gG [rK (.int 2),rK (.int 2),rK (.int 2),rK (.int 1),rK (.int 3),rK (.int 4),rK (.int 0)]) (aH aI [aB 0,aV .Add (aB 1) (rK (.int 2)),rK (.int 7)])) e= .nx [.sh (Sc ns),.sh (.int (n:Nat)),.sh (.dct ks vs),.sh (.lst (NM.map D.str)),.sh (.str x),.sh (.int (q:Nat)),.sh (.int (m:Nat)),.no]:=
  dP ((wD (x:=MN.map λ(i:Nat)=>D.int (i:Int)) rfl ((dQ (x:=Sc ns) (y:=.int ((n+2:Nat):Int)) (z:=.int ((7:Nat):Int)) rfl rfl rfl).trans v)).trans N)
 refine(aF M).trans (aW ?_);have s:=(dQ (f:=cV) (a:=aB 0) (b:=aV .Add (aB 1) (rK (.int 10))) (c:=aB 6) (ρ:=[.sh (Sc ns),.sh (.int (n:Nat)),.sh (.dct ks vs),.sh (.lst (NM.map D.str)),.sh (.str x),.sh (.int (q:Nat)),.sh (.int (m:Nat)),.no]) (x:=Sc ns) (y:=.int ((n+10:Nat):Int)) (z:=.int (m:Nat)) rfl rfl rfl).trans eb;simp[dD,mO,args,s,RA.cons,RA.then,rK,aB]
noncomputable abbrev bP(h:L1 (Str×D)):D:=.dct (h.map (·.1)) (h.map (·.2))
def OkH(h:L1 (Str×D)):Prop:=(h.map (·.1)).Nodup/\∀p∈h,p.1∈NM/\Sw p.2
def pO(h:x∈NM):plain (.str x)=qc:=by simp only[NM,av,jq,or_false]at h;rcases h with rfl|rfl|rfl|rfl<;>kernel_rfl
def NG(hx:x∈NM)(hy:y∈NM):iO (.str x) (.str y)=qc:=jV (pO hx) (pO hy) (by simp[dep])
def LC(hx:x∈NM)(hy:y∈NM):dR .NotEq (.str x) (.str y)= .ok (.bl (decide (x≠y))):=by rw[uG (NG hx hy)];by_cases e:x=y<;>simp[deq,e]
def LD h x:dR .In (.str x) (bP h)= .ok (.bl (bC h x).isSome):=by rw[gP];show R.ok (.bl (qe != (h.map (·.1)).contains x))=_;simp
def j6 h x:dR .NotIn (.str x) (bP h)= .ok (.bl (!(bC h x).isSome)):=by rw[gP];show R.ok (.bl (qc != (h.map (·.1)).contains x))=_;simp
def iC(e:bC h x=pi v):dIx (bP h) (.str x)= .ok v:=by show(match bC ((h.map (·.1)).zip (h.map (·.2))) x with|some d=>R.ok d|none=>.bad)=_;rw[DK,e]
theorem wK{f}{c:Str×D->Bool}{e}: ∀{h:L1 (Str×D)},(∀p∈h,f (.str p.1)=pi (if c p then pi (e p)else qb))->bM f (h.map λp=>D.str p.1)=pi ((h.filter c).map e)
 |[],_=>rfl
 |p::r,H=>by
  have a:=wK (h:=r) λq m=>H q (.tail _ m);rw[lm];unfold bM;rw[H p (.head _),jn];cases c p<;>simp[a]
section
variable{h:L1 (Str×D)}{d:D}
abbrev st0(h:L1 (Str×D))(d:D):Rho:=[.sh (bP h),.sh d,.no,.no,.no,.no,.no]
abbrev st1(h:L1 (Str×D))(d:D)(k:L1 (Str×D)):Rho:=[.sh (bP h),.sh d,.dc k,.no,.no,.no,.no]
def pQ:m7 2 (aB 0) (st0 h d)= .nx (st1 h d h):=by show Out.nx [.sh (bP h),.sh d,.dc ((h.map (·.1)).zip (h.map (·.2))),.no,.no,.no,.no]=_;rw[DK]
def isw(h1:aE 1 ρ= .ok (.tup (.str u::ds)))(h:dR .Eq (.str u) (.str u')= .ok (.bl b)):bH .Eq (rIx (aE 1) (rK (.int 0))) (rK (.str u')) ρ= .ok (.bl b):=
 (bA (x:=.str u) (y:=.str u') ((cZ (x:=.tup (.str u::ds)) (y:=.int ((0:Nat):Int)) h1 rfl).trans (uF rfl)) rfl).trans h
def BA(he:e ρ= .ok v)(hk:k ρ= .ok (.str x))(h2:ρ[2]? =pi (.dc kvs))(hl:kvs.length<LIM):xU 2 k e ρ= .nx (ρ.set 2 (.dc (fJ kvs x v))):=by simp[xU,he,hk,h2,fU,hl]
def NH(hl:h.length<LIM):aN [bP h,.tup [.str "put",.str x,v]]= .ok (.tup [bP (fJ h x v),.bl (bC h x).isSome]):=
 aY ((aF pQ).trans (cU ((eN (isw rfl (by kernel_rfl))).trans ((aF (BA rfl rfl rfl hl)).trans (aW (ρ:=[.sh (bP h),.sh (.tup [.str "put",.str x,v]),.sh (bP (fJ h x v)),.no,.no,.no,.no]) (eO rfl ((bA (x:=.str x) (y:=bP h) rfl rfl).trans (LD h x))))))))
def Ol(h1:dR .Eq (.str u) (.str "put")= .ok (.bl qe))(h2:dR .Eq (.str u) (.str "join")= .ok (.bl qe))(e:bC h x=qb):aN [bP h,.tup [.str u,.str x]]= .ok (.tup [bP h,.str "no label"]):=
 aY ((aF pQ).trans ((aF ((dH (isw rfl h1)).trans rfl)).trans ((aF ((dH (isw rfl h2)).trans rfl)).trans (cU ((eN ((bA (x:=.str x) (y:=bP h) rfl rfl).trans ((j6 h x).trans (by rw[e];rfl)))).trans (aW (eO rfl rfl)))))))
def LE(h1:dR .Eq (.str u) (.str "put")= .ok (.bl qe))(h2:dR .Eq (.str u) (.str "join")= .ok (.bl qe))(e:bC h x=pi v)(hr:dZ (st1 h (.tup [.str u,.str x]) h)=r):
  aR (m7 2 (aB 0)) (aR (sIf (bH .Eq (rIx (aE 1) (rK (.int 0))) (rK (.str "put"))) a aU) (aR (sIf (bH .Eq (rIx (aE 1) (rK (.int 0))) (rK (.str "join"))) b aU) (aR (sIf (bH .NotIn (rIx (aE 1) (rK (.int 1))) (aB 0)) c aU) dZ))) (st0 h (.tup [.str u,.str x]))=r:=
 ((aF pQ).trans ((aF ((dH (isw rfl h1)).trans rfl)).trans ((aF ((dH (isw rfl h2)).trans rfl)).trans ((aF ((dH ((bA (x:=.str x) (y:=bP h) rfl rfl).trans ((j6 h x).trans (by rw[e];rfl)))).trans rfl)).trans hr))))
def LF(hn:(h.map (·.1)).Nodup)(hl:h.length<LIM)(e:bC h x=pi (sw m a)):aN [bP h,.tup [.str "turn",.str x]]= .ok (.tup [bP (fJ h x (sw m (a.map (! ·)))),sw m (a.map (! ·))]):=by
 refine aY (LE (by kernel_rfl) (by kernel_rfl) e (cU ((eN (isw rfl (by kernel_rfl))).trans ((aF (BA (v:=sw m (a.map (! ·))) (eO (x:=.int (m:Nat)) ?_ ?_) rfl rfl hl)).trans ?_))));exact(cZ (x:=sw m a) (y:=.int 0) ((cZ (x:=bP h) (y:=.str x) rfl rfl).trans (iC e)) rfl).trans rfl;refine(eE (x:=(a.map (! ·)).map bD) ?_).trans rfl;have:=i9 (cs:=[]) (it:=rIx (rIx (aE 0) (rIx (aE 1) (rK (.int 1)))) (rK (.int 1))) (e:=aV .Sub (rK (.int 1)) (aB 0)) (ρ:=st1 h (.tup [.str "turn",.str x]) h) (ds:=a.map bD) (g:=tn) (.inr (.inl ((cZ (x:=sw m a) (y:=.int 1) ((cZ (x:=bP h) (y:=.str x) rfl rfl).trans (iC e)) rfl).trans rfl))) λd c=>by
  obtain⟨b,_,rfl⟩:=au.1 c;cases b<;>rfl
 rw[this,n5,n5];congr 1;refine ic λb _=>?_;cases b<;>rfl;exact aW (ρ:=[.sh (bP h),.sh (.tup [.str "turn",.str x]),.sh (bP (fJ h x (sw m (a.map (! ·))))),.no,.no,.no,.no]) (eO rfl ((cZ (x:=bP (fJ h x (sw m (a.map (! ·))))) (y:=.str x) rfl rfl).trans (iC (uI hn))))
def LG(hh:OkH h)(hl:h.length<=1000)(hx:x∈NM)(e:bC h x=pi v):aN [bP h,.tup [.str "take",.str x]]= .ok (.tup [bP (fL h x),v]):=by
 refine aY (LE (by kernel_rfl) (by kernel_rfl) e ((aF ((dH (isw rfl (by kernel_rfl))).trans rfl)).trans (aW (eO ?_ ((cZ (x:=bP h) (y:=.str x) rfl rfl).trans (iC e))))));have i:bS 0 [1,0] (aE 0) (pi (bH .NotEq (aB 0) (rIx (aE 1) (rK (.int 1))))) (dD [aB 0,rIx (aE 2) (aB 0)]) (st1 h (.tup [.str "take",.str x]) h)= .ow ((fL h x).map λp=>D.tup [.str p.1,p.2]):=by
  show(match(if(h.map (·.1)).length<=1000 then pi ((h.map (·.1)).map D.str)else qb)with
   |some b=>(match bM (dN 0 (mP [1,0] (st1 h (.tup [.str "take",.str x]) h)) (pi (bH .NotEq (aB 0) (rIx (aE 1) (rK (.int 1))))) (dD [aB 0,rIx (aE 2) (aB 0)])) b with|some xs=>R.ow xs|none=>.bad)
   |none=>.bad)=_
  rw[if_pos (by simpa using hl),n5];have:=wK (h:=h) (f:=dN 0 (mP [1,0] (st1 h (.tup [.str "take",.str x]) h)) (pi (bH .NotEq (aB 0) (rIx (aE 1) (rK (.int 1))))) (dD [aB 0,rIx (aE 2) (aB 0)])) (c:=λp=>decide (p.1≠x)) (e:=λp=>D.tup [.str p.1,p.2]) λp a=>by
   have g:bH .NotEq (aB 0) (rIx (aE 1) (rK (.int 1))) [.sh (.str p.1),.sh (.tup [.str "take",.str x]),.sh (bP h)]= .ok (.bl (decide (p.1≠x))):=(bA (x:=.str p.1) (y:=.str x) rfl rfl).trans (LC (hh.2 p a).1 hx);have j:dD [aB 0,rIx (aE 2) (aB 0)] [.sh (.str p.1),.sh (.tup [.str "take",.str x]),.sh (bP h)]= .ok (.tup [.str p.1,p.2]):=eO rfl ((cZ (x:=bP h) (y:=.str p.1) rfl rfl).trans (iC (pI hh.1 a)));show(match bH .NotEq (aB 0) (rIx (aE 1) (rK (.int 1))) [.sh (.str p.1),.sh (.tup [.str "take",.str x]),.sh (bP h)]with
    |.ok (.bl qc)=>(match dD [aB 0,rIx (aE 2) (aB 0)] [.sh (.str p.1),.sh (.tup [.str "take",.str x]),.sh (bP h)]with|.ok x=>pi (pi x)|.ow xs=>pi (pi (.lst xs))|_=>qb)
    |.ok (.bl qe)=>pi qb
    |_=>qb)=_
   rw[g,j];cases decide (p.1≠x)<;>rfl
  have d:(h.map (D.str ∘ λp=>p.1))=h.map λp=>D.str p.1:=rfl;rw[d];dsimp only;rw[this];rfl
 show(bS 0 [1,0] (aE 0) (pi (bH .NotEq (aB 0) (rIx (aE 1) (rK (.int 1))))) (dD [aB 0,rIx (aE 2) (aB 0)]) (st1 h (.tup [.str "take",.str x]) h)).bind m9=_;rw[i];exact Bs (sN hh.1) (mq (List.length_filter_le _ _) hl)
end
noncomputable def prs(a b:L1 Bool):L1 D:=((a.map bD).zip (b.map bD)).map λp=>D.tup [p.1,p.2]
def pR(h5:aE 5 ρ= .ok (.lst (prs a b)))(he: ∀x y,e [.sh (bD x),.sh (bD y)]= .ok (bD (f x y))):
  bS 2 [] (aE 5) qb e ρ= .ow ((nz f a b).map bD):=by
 refine wE (.inl h5) ?_;have: ∀(a b:L1 Bool),bM (dN 2 [] qb e) (prs a b)=pi ((nz f a b).map bD):=by
  intro a;induction a with
  |nil=>intro b;rfl
  |cons x a c=>
   intro b;rcases b with _|⟨y,b⟩;rfl;have:=c b;show bM (dN 2 [] qb e) (D.tup [bD x,bD y]::prs a b)=pi (bD (f x y)::(nz f a b).map bD);unfold bM;rw[show dN 2 [] qb e (D.tup [bD x,bD y])=pi (pi (bD (f x y))) from by
    have d:=he x y;simp[dN,tgt,d]]
   simp[this]
 exact this a b
section
variable{h:L1 (Str×D)}{x y z w:Str}{v v' d:D}
noncomputable abbrev jD(x w y z:Str):D:=.tup [.str "join",.str x,.str w,.str y,.str z]
def BB{r:Out}(hr:dZ (st1 h (jD x w y z) h)= .rt (.ok d)):
  aR (m7 2 (aB 0)) (aR (sIf (bH .Eq (rIx (aE 1) (rK (.int 0))) (rK (.str "put"))) a aU) (aR (sIf (bH .Eq (rIx (aE 1) (rK (.int 0))) (rK (.str "join"))) dZ aU) b)) (st0 h (jD x w y z))= .rt (.ok d):=
 (aF pQ).trans ((aF ((dH (isw rfl (by kernel_rfl))).trans rfl)).trans (cU ((eN (isw rfl (by kernel_rfl))).trans hr)))
def LH(e:bC h y=qb\/bC h z=qb):aN [bP h,jD x w y z]= .ok (.tup [bP h,.str "no label"]):=by refine aY (BB (r:=.rt .bad) (cU ((eN ?_).trans (aW (eO rfl rfl)))));have b:bH .NotIn (rIx (aE 1) (rK (.int 3))) (aB 0) (st1 h (jD x w y z) h)= .ok (.bl (!(bC h y).isSome)):=(bA (x:=.str y) (y:=bP h) rfl rfl).trans (j6 h y);have c:bH .NotIn (rIx (aE 1) (rK (.int 4))) (aB 0) (st1 h (jD x w y z) h)= .ok (.bl (!(bC h z).isSome)):=(bA (x:=.str z) (y:=bP h) rfl rfl).trans (j6 h z);rcases a:bC h y with _|v;exact HN (b.trans (by rw[a];rfl));rcases e with e|e;rw[a]at e;cases e;exact(xK (b.trans (by rw[a];rfl))).trans (c.trans (by rw[e];rfl))
abbrev st2(h:L1 (Str×D))(d v v':D):Rho:=[.sh (bP h),.sh d,.dc h,.sh v,.sh v',.no,.no]
def E8(e1:bC h y=pi v)(e2:bC h z=pi v')(hr:dZ (st2 h (jD x w y z) v v')= .rt (.ok d)):
  aR (sIf (rOr (bH .NotIn (rIx (aE 1) (rK (.int 3))) (aB 0)) (bH .NotIn (rIx (aE 1) (rK (.int 4))) (aB 0))) a aU) (aR (eT [3,4] (dD [rIx (aE 0) (rIx (aE 1) (rK (.int 3))),rIx (aE 0) (rIx (aE 1) (rK (.int 4)))])) dZ) (st1 h (jD x w y z) h)= .rt (.ok d):=by
 have b:bH .NotIn (rIx (aE 1) (rK (.int 3))) (aB 0) (st1 h (jD x w y z) h)= .ok (.bl qe):=(bA (x:=.str y) (y:=bP h) rfl rfl).trans ((j6 h y).trans (by rw[e1];rfl));have c:bH .NotIn (rIx (aE 1) (rK (.int 4))) (aB 0) (st1 h (jD x w y z) h)= .ok (.bl qe):=(bA (x:=.str z) (y:=bP h) rfl rfl).trans ((j6 h z).trans (by rw[e2];rfl));refine(aF ((dH ((xK b).trans c)).trans rfl)).trans ((aF (gN (ds:=[v,v']) (eO ?_ ?_) rfl)).trans hr);exact(cZ (x:=bP h) (y:=.str y) rfl rfl).trans (iC e1);exact(cZ (x:=bP h) (y:=.str z) rfl rfl).trans (iC e2)
def LI(e1:bC h y=pi (sw m a))(e2:bC h z=pi (sw m2 b))(n:m≠m2):aN [bP h,jD x w y z]= .ok (.tup [bP h,.str "unlike"]):=
 aY (BB (r:=.rt .bad) (E8 e1 e2 (cU ((eN ((bA (x:=.int (m:Nat)) (y:=.int (m2:Nat)) rfl rfl).trans (by rw[Bi,decide_eq_false (by lia)];rfl))).trans (aW (eO rfl rfl))))))
def NI(hn:(h.map (·.1)).Nodup)(hl:h.length<LIM)(hw:w∈WD)(e1:bC h y=pi (sw m a))(e2:bC h z=pi (sw m b)):
  aN [bP h,jD x w y z]= .ok (.tup [bP (fJ h x (sw m (nz (opB w) a b))),sw m (nz (opB w) a b)]):=by
 let e:Rho:=[.sh (bP h),.sh (jD x w y z),.dc h,.sh (sw m a),.sh (sw m b),.sh (.lst (prs a b)),.no];have f:bS 2 [] (aE 5) qb (aV .Mult (aB 0) (aB 1)) e= .ow ((nz (· && ·) a b).map bD):=pR rfl λx y=>by cases x<;>cases y<;>rfl
 have n:bS 2 [] (aE 5) qb (aH sS [bH .Gt (aV .Add (aB 0) (aB 1)) (rK (.int 0))]) e= .ow ((nz (· || ·) a b).map bD):=pR rfl λx y=>by cases x<;>cases y<;>rfl
 let dd:D:=.dct ["both","either"] [.lst ((nz (· && ·) a b).map bD),.lst ((nz (· || ·) a b).map bD)];let c:Rho:=[.sh (bP h),.sh (jD x w y z),.dc h,.sh (sw m a),.sh (sw m b),.sh (.lst (prs a b)),.sh dd];have j:bS 2 [] (aE 5) qb (aH sS [bH .Eq (aV .Add (aB 0) (aB 1)) (rK (.int 1))]) c= .ow ((nz (· ^^ ·) a b).map bD):=pR rfl λx y=>by cases x<;>cases y<;>rfl
 refine aY (BB (r:=.rt .bad) (E8 e1 e2 ((aF ((dH ((bA (x:=.int (m:Nat)) (y:=.int (m:Nat)) rfl rfl).trans (by rw[Bi];simp))).trans rfl)).trans ((aF (ρ':=e) ?_).trans ((aF (ρ':=c) ?_).trans ((aF (BA (x:=x) (v:=sw m (nz (opB w) a b)) (eO (x:=.int (m:Nat)) rfl ?_) rfl rfl hl)).trans ?_))))));exact o9 ((cO (Bj (xs:=a.map bD) (ys:=b.map bD) rfl rfl)).trans rfl);refine dP (d:=dd) ?_;have o: ¬(("both":Str)="either"):=by decide
 simp only[uX,f,n,R.bind,if_neg o];rfl;have g:qW (aB 6) (rIx (aE 1) (rK (.int 2))) (bS 2 [] (aE 5) qb (aH sS [bH .Eq (aV .Add (aB 0) (aB 1)) (rK (.int 1))])) c= .ok (.lst ((nz (opB w) a b).map bD)):=by
  have i:aB 6 c= .ok dd:=rfl;have l:rIx (aE 1) (rK (.int 2)) c= .ok (.str w):=rfl;simp only[qW,i,l,j,R.bind];show R.ok ((bC [("both",.lst ((nz (· && ·) a b).map bD)),("either",.lst ((nz (· || ·) a b).map bD))] w).getD (.lst ((nz (· ^^ ·) a b).map bD)))=_;simp only[WD,av,jq,or_false]at hw;rcases hw with rfl|rfl|rfl;rw[bG,if_pos rfl];rfl;rw[bG,if_neg (show ¬(("both":Str)="either") by decide),bG,if_pos rfl];rfl;rw[bG,if_neg (show ¬(("both":Str)="unlike") by decide),bG,if_neg (show ¬(("either":Str)="unlike") by decide)];rfl
 exact(cO g).trans rfl;exact aW (ρ:=[.sh (bP h),.sh (jD x w y z),.sh (bP (fJ h x (sw m (nz (opB w) a b)))),.sh (sw m a),.sh (sw m b),.sh (.lst (prs a b)),.sh dd]) (eO rfl ((cZ (x:=bP (fJ h x (sw m (nz (opB w) a b)))) (y:=.str x) rfl rfl).trans (iC (uI hn))))
end
def OkH.put(o:OkH h)(hx:x∈NM)(hv:Sw v):OkH (fJ h x v):=⟨wF o.1,λp m=>by
 rcases Id m with rfl|m;exact⟨hx,hv⟩;exact o.2 p m⟩
def OkH.drop(o:OkH h):OkH (fL h x):=⟨sN o.1,λp m=>o.2 p (jy.1 m).1⟩
def OkH.get(o:OkH h)(e:bC h x=pi v): ∃m a,jZ m a/\v=sw m a:=(o.2 _ (pJ e)).2
def Due(d:D):Prop:=plain d=qc/\dep d<=60
def BC m a:Due (sw m a):=⟨kM m a,Bm m a⟩
def BD(h:plain (.str x)=qc):Due (.str x):=⟨h,by simp[dep]⟩
noncomputable def BE(h:L1 (Str×D)):L1 D:=(iA (h.map (·.1))).map D.str
def BF{h:L1 (Str×D)}(m:k∈iA (h.map (·.1))):k∈h.map (·.1):=(gQ _).mem_iff.1 m
def BG(o:OkH h)(m:k∈h.map (·.1)): ∃v,bC h k=pi v/\k∈NM/\Sw v:=by obtain⟨p,a,rfl⟩:=au.1 m;exact⟨p.2,pI o.1 a,o.2 p a⟩
def pS(h1:plain d=qc)(h2:dep d<=60):dR .NotEq d d= .ok (.bl qe):=by rw[uG (jV h1 h1 h2),pF _ h1];rfl
def BH(l:r.held.length<64):bR r []= .pure (.ow (BE r.held)):=by unfold bR iI;show f8 350 (dC _ _ [.rk 350 r] qe)=_;rw[j5 (Ih (xs:=BE r.held) ?_)];rfl;show(if r.held.length<64 then R.ow (BE r.held)else .bad)=_;rw[if_pos l]
def srt(h:L1 (Str×D)):L1 (Str×D):=(iA (h.map (·.1))).map λk=>(k,(bC h k).getD .non)
def DM h:(srt h).map (·.1)=iA (h.map (·.1)):=by unfold srt;rw[n5];exact(ic λ_ _=>rfl).trans (List.map_id _)
def wL(o:OkH r.held)(l:r.held.length<64):aX r []= .pure (.ok (bP (srt r.held))):=by
 unfold aX iI;show f8 350 (dC _ _ [.rk 350 r] qe)=_;have b:bS 0 [0] (eU 350 0 bR []) qb (dD [aB 0,eU 350 1 aG [aB 0]]) [.rk 350 r]= .ow ((srt r.held).map λp=>D.tup [.str p.1,p.2]):=by
  have:=i9 (cs:=[0]) (it:=eU 350 0 bR []) (e:=dD [aB 0,eU 350 1 aG [aB 0]]) (ρ:=[.rk 350 r]) (ds:=BE r.held) (g:=λd=>match d with|.str k=>.tup [.str k,(bC r.held k).getD .non]|d=>d) (.inr (.inr (by
   show(bR r []).told=_;rw[BH l];rfl))) λd m=>by
    obtain⟨k,c,rfl⟩:=au.1 m;obtain⟨v,e,hk,_⟩:=BG o (BF c);refine eO rfl ?_;show(aG r [.str k]).told=_;rw[uL r hk];unfold xV;rw[e];rfl
  rw[this];unfold BE srt;rw[n5,n5];rfl
 have a:nA (bS 0 [0] (eU 350 0 bR []) qb (dD [aB 0,eU 350 1 aG [aB 0]])) [.rk 350 r]= .ok (bP (srt r.held)):=by
  unfold nA;rw[b];refine Bs ?_ ?_;rw[DM];exact(gQ _).nodup_iff.2 o.1;unfold srt;rw[aq,(gQ _).length_eq,aq];lia
 rw[j5 (mJ a)];rfl
abbrev Row:=L1 (Str×D)
def Eqv(a b:Row):Prop:= ∀x,bC a x=bC b x
theorem mK: ∀{l m:L1 Str},l.Nodup->(∀x∈l,x∈m)->l.length<=m.length
 |[],m,_,_=>bu _
 |x::l,m,nd,h=>by
  obtain⟨c,d⟩:=kc.1 nd;have b:=h x (.head _);have:=mK (l:=l) (m:=m.erase x) d λy a=>(List.mem_erase_of_ne (λe=>c (by rw[<-e];exact a))).2 (h y (.tail _ a));rw[List.length_erase_of_mem b]at this;have:=List.length_pos_of_mem b;rw[bq];lia
def j7{h:Row}(o:OkH h):h.length<=4:=by
 have:=mK o.1 (m:=NM) λx a=>by obtain⟨p,b,rfl⟩:=au.1 a;exact(o.2 p b).1
 rw[aq]at this;exact this
def Iw{a b:Row}(oa:OkH a)(ob:OkH b)(q:Eqv a b):a.length=b.length:=by
 have c: ∀{a b:Row},OkH a->Eqv a b->a.length<=b.length:=λ{a b} oa q=>by
  have:=mK oa.1 (m:=b.map (·.1)) λx e=>by
   have d:(bC a x).isSome=qc:=by rw[gP];simpa using e
   rw[q x,gP]at d;simpa using d
  simpa using this
 exact Nat.le_antisymm (c oa q) (c ob λx=>(q x).symm)
def wM{k h:Row}(ok:OkH k)(o:OkH h)(q:Eqv k h):dR .NotEq (bP (srt k)) (bP h)= .ok (.bl qe):=by
 have l:iO (bP (srt k)) (bP h)=qe:=by simp[iO,plain]
 have i: ∀p∈srt k,bC h p.1=pi p.2/\Sw p.2:=λp m=>by
  obtain⟨n,u,rfl⟩:=au.1 m;obtain⟨v,e,_,s⟩:=BG ok (BF u);simp[<-q n,e,s]
 have c:(((srt k).map (·.2)).all λd=>(h.map (·.2)).all λe=>iO d e)=qc:=by
  rw[jk];intro d r;rw[jk];intro e t;obtain⟨p,g,rfl⟩:=au.1 r;obtain⟨q,w,rfl⟩:=au.1 t;refine gzq λRz ez=>?_;obtain⟨m,a,_,c⟩:=(i p g).2;obtain⟨j,b,_,f⟩:=(o.2 q w).2;subst ez;rw[c,f];exact jV (kM m a) (kM j b) (Bm j b)
 have f:D6 (srt k) h=qc:=by
  unfold D6;rw[aw];refine⟨?_,?_⟩;unfold srt;rw[aq,(gQ _).length_eq,aq,Iw ok o q];simp;rw[jk];intro p g;obtain⟨e,m,a,_,c⟩:=i p g;rw[e];show deq p.2 p.2=qc;rw[c];exact pF _ (kM m a)
 show(if iO (bP (srt k)) (bP h)then R.ok (.bl (!deq (bP (srt k)) (bP h)))else n9 qc (bP (srt k)) (bP h))=_;rw[l,if_neg (by decide)];show(if(((srt k).map (·.2)).all λd=>(h.map (·.2)).all λe=>iO d e)=qc then R.ok (.bl (qc != D6 (((srt k).map (·.1)).zip ((srt k).map (·.2))) ((h.map (·.1)).zip (h.map (·.2)))))else .bad)=_;rw[if_pos c,DK,DK,f];rfl
def jF{h:Row}(hn:(h.map (·.1)).Nodup):bC (fJ h x v) y=if y=x then pi v else bC h y:=by
 by_cases e:y=x;rw[if_pos e,e];exact uI hn;rw[if_neg e];have b: ¬x=y:=λz=>e z.symm;rcases n:(bC h x).isSome with _|_;rw[mH n];clear n hn;induction h with
 |nil=>rw[kg,bG,if_neg b]
 |cons q r a=>rw[List.cons_append,bG,bG,a]
 rw[pK n];clear n hn;induction h with
 |nil=>rfl
 |cons q r a=>
  rw[lm,bG,bG,a];by_cases z:q.1=x;have c: ¬q.1=y:=λd=>b (z.symm.trans d);rw[if_pos z,if_neg c,if_neg c];rw[if_neg z]
def gT{h:Row}:bC (fL h x) y=if y=x then qb else bC h y:=by
 unfold fL;induction h with
 |nil=>simp[bC]
 |cons q r b=>
  rw[jn];by_cases z:q.1=x;rw[if_neg (by simpa using z),b,bG];by_cases e:y=x;rw[if_pos e,if_pos e];rw[if_neg e,if_neg e,if_neg (λa=>e (a.symm.trans z))];rw[if_pos (by simpa using z),bG,bG,b];by_cases e:y=x;rw[if_pos e,if_pos e,if_neg (λa=>z (a.trans e))];rw[if_neg e,if_neg e]
def opt(d:D):L7 D:=if n6 d then qb else pi d
def nW(h:Sw d):opt d=pi d:=by unfold opt;rw[h.nn];rfl
def NS(d:D):Prop:=d= .non\/Sw d
def Ix{h:Row}(o:OkH h)x:opt ((bC h x).getD .non)=bC h x/\NS ((bC h x).getD .non):=by rcases e:bC h x with _|v;exact⟨rfl,.inl rfl⟩;exact⟨nW (o.2 _ (pJ e)).2,.inr (o.2 _ (pJ e)).2⟩
def E9{h p:Row}r(o:OkH r.held)(q:Eqv r.held h)(hx:x∈NM)(v1:NS old)(e1:bC p x=opt old)(e2:bC h x=opt new)(nb:old= .non->∃v,opt new=pi v)(ey: ∀y,y≠x->bC h y=bC p y):
  ∃k,aP r [.str x,old]= .chg .non {r with held:=k}/\OkH k/\Eqv k p:=by
 rcases v1 with rfl|hs;obtain⟨v,ev⟩:=nb rfl;refine⟨fL r.held x,wH r (by rw[q x,e2,ev];rfl),o.drop,λy=>?_⟩;rw[gT];by_cases e:y=x;rw[if_pos e,e,e1];rfl;rw[if_neg e,q y,ey y e];refine⟨fJ r.held x old,Bt r hs.nn (by have:=j7 o;unfold LIM;lia),o.put hx hs,λy=>?_⟩;rw[jF o.1];by_cases e:y=x;rw[if_pos e,e,e1,nW hs];rw[if_neg e,q y,ey y e]
noncomputable def stp(w x:Str)(old new:D):D:=.tup [.str w,.str x,old,new]
noncomputable def WS:L1 Str:=["put","take","join","turn"]
def DN(h:x∈WS):plain (.str x)=qc:=by simp only[WS,av,jq,or_false]at h;rcases h with rfl|rfl|rfl|rfl<;>kernel_rfl
def wN(h:NS d):plain d=qc:=by rcases h with rfl|⟨m,a,_,rfl⟩;rfl;exact kM m a
def sP(hw:w∈WS)(hx:x∈NM)(ha:NS a)(hb:NS b):plain (stp w x a b)=qc:=by show cE [.str w,.str x,a,b]=qc;rw[fO];intro d m;simp only[av,jq,or_false]at m;rcases m with rfl|rfl|rfl|rfl;exact DN hw;exact pO hx;exact wN ha;exact wN hb
def BI(h: ∀d∈l,plain d=qc):dR .Eq (.lst l) (.lst [])= .ok (.bl l.isEmpty):=by rw[mD (jV (by show cE l=qc;rw[fO];exact h) rfl (by simp[dep,xT]))];cases l<;>simp[deq,xS]
def pT(h:a ρ= .ok x)(k:b ρ= .ow y):bH op a b ρ=dR op x (.lst y):=by simp[bH,h,k,R.bind]
def BJ{ρ ρ':Rho}(e0:ρ[0]? =pi (.rk 350 r))(ea:args fs ρ= .ok ds)(ed:M r ds= .chg .non r')(eρ:ρ.set 0 (.rk 350 r')=ρ'):jT 350 M fs ρ b= .nx ρ' qc:=by simp[jT,mUp,e0,Mc,ea,ed,eρ]
section
variable{k k':Row}
def Iy:dF ⟨k,[],un⟩ []= .pure (.ex 9):=by unfold dF iI;show f8 350 (dC _ _ [.rk 350 ⟨k,[],un⟩,.no] qe)=_;rw[mI (c:=9) (b':=qe)];rfl;rw[Ig];rfl;exact(pT (x:=.lst []) (y:=[]) rfl rfl).trans (BI λd m=>by cases m)
def Iz(hp: ∀d∈dn++[stp w x a b],plain d=qc)(l:un.length<LIM)(hs:aP ⟨k,dn,un++[stp w x a b]⟩ [.str x,a]= .chg .non ⟨k',dn,un++[stp w x a b]⟩):dF ⟨k,dn++[stp w x a b],un⟩ []= .chg (.str w) ⟨k',dn,un++[stp w x a b]⟩:=by
 unfold dF iI;show f8 350 (dC _ _ [.rk 350 ⟨k,dn++[stp w x a b],un⟩,.no] qe)=_;rw[bB (ρ':=[.rk 350 ⟨k,dn++[stp w x a b],un⟩,.no]) (b':=qe)];rw[bB (g:=xG 350 0 qc) (ρ':=[.rk 350 ⟨k,dn,un⟩,.sh (stp w x a b)]) (b':=qc)];rw[bB (g:=GS 350 qe (aB 1)) (ρ':=[.rk 350 ⟨k,dn,un++[stp w x a b]⟩,.sh (stp w x a b)]) (b':=qc)];rw[bB (BJ (r:=⟨k,dn,un++[stp w x a b]⟩) (ds:=[.str x,a]) rfl rfl hs rfl)];rw[j5 (mJ (d:=.str w) rfl)];rfl;show(if un.length<LIM then setR 350 [.rk 350 ⟨k,dn,un⟩,.sh (stp w x a b)] ⟨k,dn,un++[stp w x a b]⟩ else OutM.bad)=_;rw[if_pos l];rfl;show(match(dn++[stp w x a b]).getLast? with
  |some d=>OutM.nx [.rk 350 ⟨k,(dn++[stp w x a b]).dropLast,un⟩,.sh d] qc
  |none=>.bad)=_
 simp;rw[DL];rfl;refine(pT (x:=.lst (dn++[stp w x a b])) (y:=[]) rfl rfl).trans ((BI hp).trans ?_);cases dn<;>rfl
def DO(hp: ∀d∈un++[stp w x a b],plain d=qc)(l:dn.length<LIM)(hs:aP ⟨k,dn++[stp w x a b],un⟩ [.str x,b]= .chg .non ⟨k',dn++[stp w x a b],un⟩):dB ⟨k,dn,un++[stp w x a b]⟩ []= .chg (.str w) ⟨k',dn++[stp w x a b],un⟩:=by
 unfold dB iI;show f8 350 (dC _ _ [.rk 350 ⟨k,dn,un++[stp w x a b]⟩,.no] qe)=_;rw[bB (ρ':=[.rk 350 ⟨k,dn,un++[stp w x a b]⟩,.no]) (b':=qe)];rw[bB (g:=xG 350 0 qe) (ρ':=[.rk 350 ⟨k,dn,un⟩,.sh (stp w x a b)]) (b':=qc)];rw[bB (g:=GS 350 qc (aB 1)) (ρ':=[.rk 350 ⟨k,dn++[stp w x a b],un⟩,.sh (stp w x a b)]) (b':=qc)];rw[bB (BJ (r:=⟨k,dn++[stp w x a b],un⟩) (ds:=[.str x,b]) rfl rfl hs rfl)];rw[j5 (mJ (d:=.str w) rfl)];rfl;show(if dn.length<LIM then setR 350 [.rk 350 ⟨k,dn,un⟩,.sh (stp w x a b)] ⟨k,dn++[stp w x a b],un⟩ else OutM.bad)=_;rw[if_pos l];rfl;show(match(un++[stp w x a b]).getLast? with
  |some d=>OutM.nx [.rk 350 ⟨k,dn,(un++[stp w x a b]).dropLast⟩,.sh d] qc
  |none=>.bad)=_
 simp;rw[DL];rfl;refine(pT (x:=.lst (un++[stp w x a b])) (y:=[]) rfl rfl).trans ((BI hp).trans ?_);cases un<;>rfl
def sQ r:cQ r []= .pure (.ok (.tup [.int r.done.length,.int r.undone.length])):=by unfold cQ iI;show f8 350 (dC _ _ [.rk 350 r] qe)=_;rw[j5 (mJ (eO rfl rfl))];rfl
end
def OX:aL [.exc 9]= .ok (.str "no back"):=by kernel_rfl
def t9:cY aL (.pure (.ex 9))= .pure (.ok (.str "no back")):=by simp[cY,oZ,OX]
def gU(e0:ρ[i]? =pi (.rk A r))(ea:args fs ρ= .ok ds)(em:M r ds= .pure (.ok d))(eg:g ρ= .ok d2)(ec:dR op d d2= .ok (.bl b)):mB A i M fs op g ρ k=k b ρ:=by simp[mB,kF,e0,ea,em,fU,eg,ec,KI]
def DP(e0:ρ[i]? =pi (.rk A r))(ea:args fs ρ= .ok ds)(em:M r ds= .chg d r')(eg:g (ρ.set i (.rk A r'))= .ok d2)(ec:dR op d d2= .ok (.bl b)):mB A i M fs op g ρ k=k b (ρ.set i (.rk A r')):=by simp[mB,kF,e0,ea,em,fU,eg,ec,KI]
noncomputable abbrev NB:D:=.tup [.str "no label",.str "unlike"]
def Lk(p:Row)(s:D)(w:Str)(h:Row):Prop:= ∃x old new,s=stp w x old new/\w∈WS/\x∈NM/\NS old/\NS new/\bC p x=opt old/\bC h x=opt new/\(old= .non->∃v,opt new=pi v)/\(new= .non->∃v,opt old=pi v)/\∀y,y≠x->bC h y=bC p y
section
variable{h a b:Row}
def uM(oa:OkH a)(ob:OkH b)(q:Eqv a b):Eqv (fJ a x v) (fJ b x v):=λy=>by rw[jF oa.1,jF ob.1,q y]
def DQ(q:Eqv a b):Eqv (fL a x) (fL b x):=λy=>by rw[gT,gT,q y]
def wO(o:OkH r.held)(oh:OkH h)(q:Eqv r.held h)(hw:w∈WS)(hx:x∈NM)(hv:Sw v):Lk h (fR r w x v) w (fJ h x v):=by obtain⟨b,a⟩:=Ix o x;refine⟨x,_,v,rfl,hw,hx,a,.inr hv,by rw[b,q x],by rw[jF oh.1,if_pos rfl,nW hv],λ_=>⟨v,nW hv⟩,λe=>?_,λy e=>by rw[jF oh.1,if_neg e]⟩;have:=hv.nn;rw[e]at this;cases this
def IA(q:Eqv r.held h)(hw:w∈WS)(hx:x∈NM)(hv:Sw v)(e:bC h x=pi v):Lk h (fR r w x .non) w (fL h x):=by
 have a:(bC r.held x).getD .non=v:=by rw[q x,e];rfl
 refine⟨x,v,.non,by unfold fR;rw[a];rfl,hw,hx,.inr hv,.inl rfl,by rw[e,nW hv],by rw[gT,if_pos rfl];rfl,λz=>?_,λ_=>⟨v,nW hv⟩,λy e=>by rw[gT,if_neg e]⟩;have:=hv.nn;rw[z]at this;cases this
end
def BK m a:dR .NotIn (sw m a) NB= .ok (.bl qc):=by
 have e:uU (sw m a) [.str "no label",.str "unlike"]=qc:=by
  have h: ∀{x:Str},plain (.str x)=qc->iO (.str x) (sw m a)=qc:=λh=>jV h (kM m a) (Bm m a);simp only[uU,lz,List.all_nil,Bool.and_true,aw];exact⟨h (by kernel_rfl),h (by kernel_rfl)⟩
 show(if uU (sw m a) [.str "no label",.str "unlike"]=qc then R.ok (.bl (!([D.str "no label",.str "unlike"]).any λy=>deq y (sw m a)))else .bad)=_;rw[if_pos e];rfl
def LJ b:dR .NotIn (.bl b) NB= .ok (.bl qc):=by cases b<;>kernel_rfl
def Om(r:Rk)(h:Row)(d due:D)(h':Row):Prop:=(aQ r [d]= .pure (.ok due)/\h'=h/\dR .NotIn due NB= .ok (.bl qe))\/
 ∃k w s,aQ r [d]= .chg due ⟨k,r.done++[s],[]⟩/\OkH k/\Eqv k h'/\Lk h s w h'/\dR .NotIn due NB= .ok (.bl qc)/\dIx d (.int 0)= .ok (.str w)
def LL r{h:Row}(o:OkH r.held)(oh:OkH h)(q:Eqv r.held h)(ld:r.done.length<1000)(hd:E7 d):
  ∃(h':Row) (due:D),aN [bP h,d]= .ok (.tup [bP h',due])/\Om r h d due h'/\Due due/\OkH h':=by
 have t:r.done.length<LIM:=by unfold LIM;lia
 have E:r.held.length<LIM:=by have:=j7 o;unfold LIM;lia
 have C:h.length<LIM:=by have:=j7 oh;unfold LIM;lia
 have A:Due (.str "no label"):=BD (by kernel_rfl);have H:Due (.str "unlike"):=BD (by kernel_rfl);have p:cY aL (.pure (.ex 8))= .pure (.ok (.str "no label")):=by simp[cY,oZ,OV]
 have I:cY aL (.pure (.ex 4))= .pure (.ok (.str "unlike")):=by simp[cY,oZ,OW]
 have B:dR .NotIn (.str "no label") NB= .ok (.bl qe):=by kernel_rfl
 have J:dR .NotIn (.str "unlike") NB= .ok (.bl qe):=by kernel_rfl
 rcases hd with ⟨x,c,v,s,rfl⟩|⟨x,c,rfl⟩|⟨x,c,rfl⟩|⟨x,c,w,G,y,l,z,u,rfl⟩;exact⟨_,_,NH C,.inr ⟨_,"put",_,by rw[Ir,E3 r c s t E,q x];rfl,o.put c s,uM o oh q,wO o oh q (by decide) c s,LJ _,rfl⟩,⟨rfl,by simp[dep]⟩,oh.put c s⟩;rcases e:bC h x with _|v;exact⟨_,_,Ol (by kernel_rfl) (by kernel_rfl) e,.inl ⟨by rw[wJ,Ik r c ((q x).trans e),p],rfl,B⟩,A,oh⟩;obtain⟨m,a,g,rfl⟩:=oh.get e;exact⟨_,_,LG oh (by have:=j7 oh;lia) c e,.inr ⟨_,"take",_,by rw[wJ,Ij r c t ((q x).trans e)];rfl,o.drop,DQ q,IA q (by decide) c ⟨m,a,g,rfl⟩ e,BK m a,rfl⟩,BC m a,oh.drop⟩;rcases e:bC h x with _|v;exact⟨_,_,Ol (by kernel_rfl) (by kernel_rfl) e,.inl ⟨by rw[wI,Im r c ((q x).trans e),p],rfl,B⟩,A,oh⟩;obtain⟨m,a,g,rfl⟩:=oh.get e;exact⟨_,_,LF oh.1 C e,.inr ⟨_,"turn",_,by rw[wI,Il r g c t E ((q x).trans e)];rfl,o.put c ⟨m,_,g.not,rfl⟩,uM o oh q,wO o oh q (by decide) c ⟨m,_,g.not,rfl⟩,BK m _,rfl⟩,BC m _,oh.put c ⟨m,_,g.not,rfl⟩⟩;rcases f:bC h y with _|v;exact⟨_,_,LH (.inl f),.inl ⟨by rw[kX,Bw r c l u (.inl ((q y).trans f)),p],rfl,B⟩,A,oh⟩;rcases i:bC h z with _|L;exact⟨_,_,LH (.inr i),.inl ⟨by rw[kX,Bw r c l u (.inr ((q z).trans i)),p],rfl,B⟩,A,oh⟩;obtain⟨m,a,g,rfl⟩:=oh.get f;obtain⟨K,b,j,rfl⟩:=oh.get i;by_cases n:m=K;subst n;exact⟨_,_,NI oh.1 C G f i,.inr ⟨_,"join",_,by rw[kX,Io r c t E rfl ((sO r l u ((q y).trans f) ((q z).trans i)).trans (Bx g j G))];rfl,o.put c ⟨m,_,g.zip _ j,rfl⟩,uM o oh q,wO o oh q (by decide) c ⟨m,_,g.zip _ j,rfl⟩,BK m _,rfl⟩,BC m _,oh.put c ⟨m,_,g.zip _ j,rfl⟩⟩;exact⟨_,_,LI f i n,.inl ⟨by rw[kX,Bv r c ((sO r l u ((q y).trans f) ((q z).trans i)).trans (By g j n G)),I],rfl,J⟩,H,oh⟩
abbrev Za:=L1 (Row×D×Str)
abbrev Zb:=L1 (D×Str×Row)
def LkA:Za->Row->Prop
 |[],_=>True
 |z::A,h=>Lk z.1 z.2.1 z.2.2 h/\OkH z.1/\LkA A z.1
def LkB:Row->Zb->Prop
 |_,[]=>True
 |h,z::B=>Lk h z.1 z.2.1 z.2.2/\OkH z.2.2/\LkB z.2.2 B
noncomputable def btm:Za->Row->Row
 |[],h=>h
 |z::A,_=>btm A z.1
noncomputable def lst:Row->Zb->Row
 |h,[]=>h
 |_,z::B=>lst z.2.2 B
structure Zp(A:Za)(h:Row)(B:Zb)(r:Rk):Prop where
 oh:OkH h
 a:LkA A h
 b:LkB h B
 ok:OkH r.held
 q:Eqv r.held h
 dn:r.done=(A.map (·.2.1)).reverse
 un:r.undone=(B.map (·.1)).reverse
 bs:btm A h=[]
def plA: ∀{h},LkA A h->∀d∈A.map (·.2.1),plain d=qc:=by
 induction A with
 |nil=>intro h _ d m;cases m
 |cons z A f=>
  intro h l d m;rcases av.1 m with rfl|m;refine gzq λRz ez=>?_;obtain⟨x,a,new,e,g,b,c,i,_⟩:=l.1;subst ez;show plain z.2.1=qc;rw[e];exact sP g b c i;exact f l.2.2 d m
def plB: ∀{h},LkB h B->∀d∈B.map (·.1),plain d=qc:=by
 induction B with
 |nil=>intro h _ d m;cases m
 |cons z B f=>
  intro h l d m;rcases av.1 m with rfl|m;refine gzq λRz ez=>?_;obtain⟨x,a,new,e,g,b,c,i,_⟩:=l.1;subst ez;show plain z.1=qc;rw[e];exact sP g b c i;exact f l.2.2 d m
section
variable{h:Row}{s:D}{w:Str}{A:Za}{B:Zb}{r:Rk}
def Fb(z:Zp ((p,s,w)::A) h B r)(l:B.length<100): ∃r',dF r []= .chg (.str w) r'/\Zp A p ((s,w,h)::B) r':=by
 obtain⟨lk,y,E⟩:Lk p s w h/\OkH p/\LkA A p:=z.a;have f:=lk;obtain⟨x,c,new,rfl,I,o,u,J,C,j,i,H,v⟩:=lk;have dn:r.done=(A.map (·.2.1)).reverse++[stp w x c new]:=by rw[z.dn];exact ja
 obtain⟨t,n,g,G⟩:=E9 (p:=p) ⟨r.held,(A.map (·.2.1)).reverse,r.undone++[stp w x c new]⟩ z.ok z.q o u C j i v;have e:r=⟨r.held,(A.map (·.2.1)).reverse++[stp w x c new],r.undone⟩:=by rw[<-dn]
 refine⟨⟨t,(A.map (·.2.1)).reverse,r.undone++[stp w x c new]⟩,?_,⟨y,E,⟨f,z.oh,z.b⟩,g,G,rfl,?_,z.bs⟩⟩;rw[e,Iz (λd m=>?_) (by rw[z.un];simp[LIM];lia) n];refine plA z.a d ?_;rw[<-dn,z.dn]at m;exact List.mem_reverse.1 m;show r.undone++[stp w x c new]=(stp w x c new::B.map (·.1)).reverse;rw[z.un,ja]
def BL(z:Zp A h ((s,w,n)::B) r)(l:A.length<100): ∃r',dB r []= .chg (.str w) r'/\Zp ((h,s,w)::A) n B r':=by
 obtain⟨lk,H,E⟩:Lk h s w n/\OkH n/\LkB n B:=z.b;have f:=lk;obtain⟨x,c,new,rfl,L,o,K,I,C,i,J,u,v⟩:=lk;have un:r.undone=(B.map (·.1)).reverse++[stp w x c new]:=by rw[z.un];exact ja
 obtain⟨t,j,g,G⟩:=E9 (p:=n) ⟨r.held,r.done++[stp w x c new],(B.map (·.1)).reverse⟩ z.ok z.q o I i C u λy e=>(v y e).symm;have e:r=⟨r.held,r.done,(B.map (·.1)).reverse++[stp w x c new]⟩:=by rw[<-un]
 refine⟨⟨t,r.done++[stp w x c new],(B.map (·.1)).reverse⟩,?_,⟨H,⟨f,z.oh,z.a⟩,E,g,G,?_,rfl,z.bs⟩⟩;rw[e,DO (λd m=>?_) (by rw[z.dn];simp[LIM];lia) j];refine plB z.b d ?_;rw[<-un,z.un]at m;exact List.mem_reverse.1 m;show r.done++[stp w x c new]=(stp w x c new::A.map (·.2.1)).reverse;rw[z.dn,ja]
def Fc{h':Row}{d due}(z:Zp A h [] r)(o':OkH h')(t:Om r h d due h'):(aQ r [d]= .pure (.ok due)/\h'=h/\dR .NotIn due NB= .ok (.bl qe))\/∃s w r',aQ r [d]= .chg due r'/\Zp ((h,s,w)::A) h' [] r'/\dR .NotIn due NB= .ok (.bl qc):=by rcases t with t|⟨kk,w,s,e,ok',q',lk,n,ix⟩;exact .inl t;refine .inr ⟨s,w,_,e,⟨o',⟨lk,z.oh,z.a⟩,trivial,ok',q',?_,rfl,z.bs⟩,n⟩;show r.done++[s]=(s::A.map (·.2.1)).reverse;rw[z.dn,ja]
end
abbrev stL(ns:L1 Int)(s1:Slot)(R:L1 D)(s3 s4 s5 s6 s7 s8 s9 s10 s11 s12 s13:Slot):Rho:=[.sh (Sc ns),s1,.sh (.lst R),s3,s4,s5,s6,s7,s8,s9,s10,s11,s12,s13]
def rT:FS:=aR (dW (rK (.bl qe))) (aU)
def NBf:F:=dD [rK (.str "no label"),rK (.str "unlike")]
def xP:F:=rIx (aE 2) (BN (rK (.int 1)))
def LM:FS:=aR (fS 4 (aH cN [aB 0,aV .Add (rK (.int 100)) (aV .Mult (rK (.int 60)) (aB 3)),xP]))
  (aR (eT [5,6] (aH aN [xP,aB 4]))
  (aR (pX 350 1 aQ [aB 4])
  (aR (fS 2 (aV .Add (aB 2) (aV .Mult (gG [aB 5]) (aH sS [bH .NotIn (aB 6) NBf]))))
  (aU))))
def LN:FS:=aR (fS 4 (aH cN [aB 0,aV .Add (aB 10) (aV .Mult (rK (.int 60)) (aB 3)),aB 11]))
   (aR (eT [11,6] (aH aN [aB 11,aB 4]))
   (aR (v6 (mB 350 13 aQ [aB 4] .NotEq (aB 6)) rT (aU))
   (aR (fS 12 (aV .Add (aB 12) (aH sS [bH .NotIn (aB 6) NBf])))
   (aU))))
def LO:FS:=aR (pX 350 13 dF []) (aU)
def LP:FS:=aR (pX 350 13 dB []) (aU)
def mBk:FM:=λr _=>cY aL (Dl 350 0 dF [] [.rk 350 r])
def NJ:FC:=cOr (mB 350 8 cQ [] .NotEq (dD [aV .Sub (aB 7) (rK (.int 1)),rK (.int 1)])) (mB 350 8 aX [] .NotEq (rIx (aE 2) (BN (rK (.int 2)))))
def NK:FC:=cOr (mB 350 13 aX [] .NotEq (iT)) (mB 350 13 mBk [] .NotEq (rK (.str "no back")))
def NL:FC:=cOr (mB 350 13 aX [] .NotEq (aB 11)) (mB 350 13 cQ [] .NotEq (dD [aB 12,rK (.int 0)]))
def BM:FS:=aR (pX 350 13 dB [])
  (aR (eT [11,12] (dD [xP,aB 7]))
  (aR (v6 (mB 350 13 aX [] .NotEq (aB 11)) rT (aU))
  (aR (wZ [3] qc (bX (rK (.int 3))) LN)
  (aR (wZ [3] qc (bX (aB 12)) LO)
  (aR (v6 NK rT (aU))
  (aR (wZ [3] qc (bX (aB 12)) LP)
  (aR (v6 NL rT (aU))
  (aU))))))))
noncomputable def vA:D:=.tup [.int 0,.tup [.int 1]]
def DS:HP=aR (wC 1 2 350 (gG [iT,uY "a" (dD [rK (.int 0),dD [rK (.int 1)]])]))
 (aR (pX 350 1 eZ [rK (.str "a"),dD [rK (.int 0),dD [rK (.int 1)]]])
 (aR (wZ [3] qc (bX (rK (.int 8))) LM)
 (aR (fS 7 (aV .Sub (aH qU [aE 2]) (rK (.int 1))))
 (aR (pX 350 1 dF [])
 (aR (AE 8 350 1)
 (aR (v6 NJ rT (aU))
 (aR (ET 9 13 10 350 (bH .Eq (aH aI [aB 0,rK (.int 5),rK (.int 2)]) (rK (.int 0))) BM 1 2000 8 3000)
 (aR (dW (rK (.bl qc)))
 (aU))))))))):=rfl
def xQ(h: ∀k,c ρ k=k qe ρ'):v6 c a b ρ=b ρ':=by unfold v6;rw[h];rfl
def IB(e0:ρ[i]? =pi (.rk A r))(ea:args fs ρ= .ok ds)(em:M r ds= .pure (.ok d)):pX A i M fs ρ= .nx ρ:=by simp[pX,kF,e0,ea,em,fU]
def hX(e0:ρ[i]? =pi (.rk A r))(ea:args fs ρ= .ok ds)(em:M r ds= .chg d r'):pX A i M fs ρ= .nx (ρ.set i (.rk A r')):=by simp[pX,kF,e0,ea,em]
def On(h:j<=i):iQ .Sub (.int (i:Nat)) (.int (j:Nat))= .ok (.int ((i-j:Nat):Int)):=by simp only[iQ,d8];rw[Int.ofNat_sub h]
def Oo i j:iQ .Add (.int (i:Nat)) (.int (j:Nat))= .ok (.int ((i+j:Nat):Int)):=by simp[iQ,d8]
def NN:dR .NotEq (.str "no back") (.str "no back")= .ok (.bl qe):=by kernel_rfl
def DT:cY aL (Dl 350 0 f [] [.rk 350 r])=cY aL (f r []):=rfl
section
variable{ns:L1 Int}{A:Za}{h:Row}{r:Rk}{s3 s4 s5 s6 s7 s10 s11 s12 s13:Slot}{Rw:L1 D}
def uN(e:aE 2 ρ= .ok (.lst (L++[d]))):xP ρ= .ok d:=by
 refine(cZ (x:=.lst (L++[d])) (y:=.int (-1)) e rfl).trans ?_;show(match(ixD (L++[d]).length (-1)).bind λj=>(L++[d])[j]? with|some d=>R.ok d|none=>.bad)=_;have:ixD (L++[d]).length (-1)=pi L.length:=by
  unfold ixD;simp only[bo,bq,ki];rw[if_neg (by lia),if_pos (by lia)];congr 1;lia
 rw[this];simp
def DU(e:aE 2 ρ= .ok (.lst (L++[d,e']))):rIx (aE 2) (BN (rK (.int 2))) ρ= .ok d:=by
 refine(cZ (x:=.lst (L++[d,e'])) (y:=.int (-2)) e rfl).trans ?_;show(match(ixD (L++[d,e']).length (-2)).bind λj=>(L++[d,e'])[j]? with|some d=>R.ok d|none=>.bad)=_;have:ixD (L++[d,e']).length (-2)=pi L.length:=by
  unfold ixD;simp only[bo,bq,ki];rw[if_neg (by lia),if_pos (by lia)];congr 1;lia
 rw[this];simp
def jH(A:Za)(h:Row):L1 D:=(A.map (·.1)).reverse.map bP++[bP h]
def pU:(jH A h).length=A.length+1:=by simp[jH]
def sR:jH ((p,s,w)::A) h=jH A p++[bP h]:=by simp[jH]
def LQ(h:a ρ= .ok (.lst xs))(k:b ρ= .ow ys)(l:xs.length+ys.length<=LIM):aV .Add a b ρ= .ow (xs++ys):=by simp[aV,h,k,R.bind,iQ,l]
def IC(e:f ρ= .ok (.bl b)):aH sS [f] ρ= .ok (.int (b2i b)):=(cO (x:=.bl b) e).trans rfl
def LR{f:F}{ρ}{b}{x}(e:f ρ= .ok (.bl b))(ex:aB 5 ρ= .ok x):aV .Mult (gG [aB 5]) (aH sS [f]) ρ= .ow (if b then [x]else []):=by
 have a:gG [aB 5] ρ= .ow [x]:=by simp[gG,mO,args,ex,RA.cons,RA.then]
 cases b<;>simp[aV,a,IC e,R.bind,iQ,b2i,MP,LIM]
def DV(e:aB 6 ρ= .ok due)(n:dR .NotIn due NB= .ok (.bl b)):bH .NotIn (aB 6) NBf ρ= .ok (.bl b):=(bA (x:=due) (y:=NB) e rfl).trans n
theorem jG{α:Type}(f:Slot->α->Rho){g}(P:Nat->α->Prop)(ht: ∀s a d,uV [3] qc d (f s a)=pi (f (.sh d) a))(st: ∀n a (k:Nat),P (n+1) a->∃a',g (f (.sh (.int k)) a)= .nx (f (.sh (.int k)) a')/\P n a'):
  ∀(l:L1 Nat) a s,P l.length a->∃a' s',jK (uV [3] qc) g (l.map λ(i:Nat)=>D.int (i:Int)) (f s a)= .nx (f s' a')/\P 0 a'
 |[],a,s,p=>⟨a,s,rfl,p⟩
 |k::l,a,s,p=>by
  refine gzq λRz ez=>?_;obtain⟨j,e,h⟩:=st _ a k p;obtain⟨b,o,c,m⟩:=jG f P ht st l j (.sh (.int k)) h;subst ez;refine⟨b,o,?_,m⟩;rw[lm];unfold jK;rw[ht];dsimp only;rw[e];exact c
structure SA where
 A:Za
 h:Row
 r:Rk
 s4:Slot
 s5:Slot
 s6:Slot
abbrev fA(ns:L1 Int)(s:Slot)(a:SA):Rho:=stL ns (.rk 350 a.r) (jH a.A a.h) s a.s4 a.s5 a.s6 .no .no .no .no .no .no .no
def DW n(a:SA)k(p:Zp a.A a.h [] a.r/\a.A≠[]/\a.A.length+(n+1)<20): ∃a',LM (fA ns (.sh (.int (k:Nat))) a)= .nx (fA ns (.sh (.int (k:Nat))) a')/\Zp a'.A a'.h [] a'.r/\a'.A≠[]/\a'.A.length+n<20:=by
 obtain⟨A,h,r,v,o,m⟩:=a;obtain⟨z,J,l⟩:Zp A h [] r/\A≠[]/\A.length+(n+1)<20:=p;obtain⟨d,H,G⟩:=Bz ns (100+60*k) (h.map (·.1)) (h.map (·.2));obtain⟨f,g,C,t,L,K⟩:=LL r z.ok z.oh z.q (by rw[z.dn];simp;lia) G;have E:aV .Add (rK (.int 100)) (aV .Mult (rK (.int 60)) (aB 3)) (fA ns (.sh (.int (k:Nat))) ⟨A,h,r,v,o,m⟩)= .ok (.int ((100+60*k:Nat):Int)):=by
  refine(aZ (x:=.int 100) (y:=.int (60*(k:Nat))) rfl ((aZ (x:=.int 60) (y:=.int (k:Nat)) rfl rfl).trans (EZ rfl))).trans ?_;simp[iQ,d8]
 have i:fS 4 (aH cN [aB 0,aV .Add (rK (.int 100)) (aV .Mult (rK (.int 60)) (aB 3)),xP]) (fA ns (.sh (.int (k:Nat))) ⟨A,h,r,v,o,m⟩)= .nx (fA ns (.sh (.int (k:Nat))) ⟨A,h,r,.sh d,o,m⟩):=dP ((dQ (x:=Sc ns) (z:=bP h) rfl E (uN rfl)).trans H);have j:eT [5,6] (aH aN [xP,aB 4]) (fA ns (.sh (.int (k:Nat))) ⟨A,h,r,.sh d,o,m⟩)= .nx (fA ns (.sh (.int (k:Nat))) ⟨A,h,r,.sh d,.sh (bP f),.sh g⟩):=gN (ds:=[bP f,g]) ((dA (x:=bP h) (y:=d) (uN rfl) rfl).trans C) rfl;have u: ∀c:Bool,(jH A h).length+(if c then [bP f]else []).length<=LIM:=λc=>by cases c<;>simp[pU,LIM]<;>lia
 rcases Fc z K t with ⟨e,rfl,nn⟩|⟨s,w,B,e,I,nn⟩;refine⟨⟨A,f,r,.sh d,.sh (bP f),.sh g⟩,(aF i).trans ((aF j).trans ((aF (IB (r:=r) (ds:=[d]) rfl rfl e)).trans ((aF (o9 (LQ (xs:=jH A f) rfl (LR (b:=qe) (DV rfl nn) rfl) (u qe)))).trans ?_))),z,J,by show A.length+n<20;lia⟩;show Out.nx (stL ns (.rk 350 r) (jH A f++[]) _ _ _ _ _ _ _ _ _ _ _)=_;rw[j3];refine⟨⟨(h,s,w)::A,f,B,.sh d,.sh (bP f),.sh g⟩,(aF i).trans ((aF j).trans ((aF (hX (r:=r) (ds:=[d]) rfl rfl e)).trans ((aF (o9 (LQ (xs:=jH A h) rfl (LR (b:=qc) (DV rfl nn) rfl) (u qc)))).trans ?_))),I,(λz=>nomatch z),by show A.length+1+n<20;lia⟩;show _=Out.nx (stL ns (.rk 350 B) (jH ((h,s,w)::A) f) _ _ _ _ _ _ _ _ _ _ _);rw[sR];rfl
abbrev fC(ns:L1 Int)(Rw:L1 D)(s5 s7:Slot)(at':Nat)(s:Slot)(a:SA):Rho:=stL ns .no Rw s a.s4 s5 a.s6 s7 .no .no (.sh (.int (at':Nat))) (.sh (bP a.h)) (.sh (.int (a.A.length:Nat))) (.rk 350 a.r)
def DX n a k(p:Zp a.A a.h [] a.r/\a.A.length+(n+1)<40): ∃a',LN (fC ns Rw s5 s7 at' (.sh (.int (k:Nat))) a)= .nx (fC ns Rw s5 s7 at' (.sh (.int (k:Nat))) a')/\Zp a'.A a'.h [] a'.r/\a'.A.length+n<40:=by
 obtain⟨A,h,r,o,c,j⟩:=a;obtain⟨z,l⟩:Zp A h [] r/\A.length+(n+1)<40:=p;obtain⟨d,C,B⟩:=Bz ns (at'+60*k) (h.map (·.1)) (h.map (·.2));obtain⟨m,b,u,t,i,H⟩:=LL r z.ok z.oh z.q (by rw[z.dn];simp;lia) B;have v:aV .Add (aB 10) (aV .Mult (rK (.int 60)) (aB 3)) (fC ns Rw s5 s7 at' (.sh (.int (k:Nat))) ⟨A,h,r,o,c,j⟩)= .ok (.int ((at'+60*k:Nat):Int)):=by
  refine(aZ (x:=.int (at':Nat)) (y:=.int (60*(k:Nat))) rfl ((aZ (x:=.int 60) (y:=.int (k:Nat)) rfl rfl).trans (EZ rfl))).trans ?_;simp[iQ,d8]
 have f:fS 4 (aH cN [aB 0,aV .Add (aB 10) (aV .Mult (rK (.int 60)) (aB 3)),aB 11]) (fC ns Rw s5 s7 at' (.sh (.int (k:Nat))) ⟨A,h,r,o,c,j⟩)= .nx (fC ns Rw s5 s7 at' (.sh (.int (k:Nat))) ⟨A,h,r,.sh d,c,j⟩):=dP ((dQ (x:=Sc ns) (z:=bP h) rfl v rfl).trans C);have g:eT [11,6] (aH aN [aB 11,aB 4]) (fC ns Rw s5 s7 at' (.sh (.int (k:Nat))) ⟨A,h,r,.sh d,c,j⟩)= .nx (stL ns .no Rw (.sh (.int (k:Nat))) (.sh d) s5 (.sh b) s7 .no .no (.sh (.int (at':Nat))) (.sh (bP m)) (.sh (.int (A.length:Nat))) (.rk 350 r)):=gN (ds:=[bP m,b]) ((dA (x:=bP h) (y:=d) rfl rfl).trans u) rfl;rcases Fc z H t with ⟨e,rfl,nn⟩|⟨s,w,G,e,E,nn⟩;exact⟨⟨A,m,r,.sh d,c,.sh b⟩,(aF f).trans ((aF g).trans ((aF ((xQ λk=>gU (r:=r) (ds:=[d]) rfl rfl e rfl (pS i.1 i.2)).trans rfl)).trans ((aF (dP ((aZ (x:=.int (A.length:Nat)) (y:=.int ((0:Nat):Int)) rfl ((IC (DV rfl nn)).trans rfl)).trans (Oo _ _)))).trans rfl))),z,by show A.length+n<40;lia⟩;exact⟨⟨(h,s,w)::A,m,G,.sh d,c,.sh b⟩,(aF f).trans ((aF g).trans ((aF ((xQ λk=>(DP (r:=r) (ds:=[d]) rfl rfl e rfl (pS i.1 i.2)).trans rfl).trans rfl)).trans ((aF (dP ((aZ (x:=.int (A.length:Nat)) (y:=.int ((1:Nat):Int)) rfl ((IC (DV rfl nn)).trans rfl)).trans (Oo _ _)))).trans rfl))),E,by show A.length+1+n<40;lia⟩
def ID(z:Zp A p [(s,w,h)] r)(l:A.length<20)a: ∃t3 t4 t6 t11 t12 r',BM (stL ns .no (L++[bP h]) s3 s4 s5 s6 (.sh (.int ((A.length+1:Nat):Int))) .no .no (.sh (.int (a:Nat))) s11 s12 (.rk 350 r))= .nx (stL ns .no (L++[bP h]) t3 t4 s5 t6 (.sh (.int ((A.length+1:Nat):Int))) .no .no (.sh (.int (a:Nat))) t11 t12 (.rk 350 r')):=by
 obtain⟨N,X,u⟩:=BL z (by lia);obtain⟨⟨b,v,J,t4,_,t6⟩,t3,e2,Z⟩:=jG (fC ns (L++[bP h]) s5 (.sh (.int ((A.length+1:Nat):Int))) a) (λn a=>Zp a.A a.h [] a.r/\a.A.length+n<40) (λ_ _ _=>rfl) DX (oo 3) ⟨(p,s,w)::A,h,N,s4,s5,s6⟩ s3 ⟨u,by simp;lia⟩;obtain⟨U,l2⟩:Zp b v [] J/\b.length+0<40:=Z;let f:Slot->Rk->Rho:=λs r=>stL ns .no (L++[bP h]) s t4 s5 t6 (.sh (.int ((A.length+1:Nat):Int))) .no .no (.sh (.int (a:Nat))) (.sh (bP v)) (.sh (.int (b.length:Nat))) (.rk 350 r);obtain⟨c,E,e3,M,h3,B3,j,W,I,S⟩:=jG f (g:=LO) (λn r=>∃A h B,Zp A h B r/\A.length=n/\A.length+B.length=b.length/\lst h B=v) (λ_ _ _=>rfl) (λn r k ⟨A,h,B,z,l,m,q⟩=>by
  cases A with
  |nil=>cases l
  |cons x A=>
   simp only[bq]at l m;obtain⟨r',e,C⟩:=Fb z (by lia);exact⟨r',(aF (hX (r:=r) (ds:=[]) rfl rfl e)).trans rfl,A,x.1,_,C,by lia,by simp only[bq];lia,q⟩) (oo b.length) J t3 ⟨b,v,[],U,by simp,rfl,rfl⟩
 cases M with
 |cons x M=>cases W
 |nil=>
 obtain rfl:h3=[]:=j.bs;obtain⟨d,G,e4,A4,K,O,o,l4,m4,k4⟩:=jG f (g:=LP) (λn r=>∃A h B,Zp A h B r/\B.length=n/\A.length+B.length=b.length/\lst h B=v) (λ_ _ _=>rfl) (λn r k ⟨A,h,B,z,l,m,q⟩=>by
  cases B with
  |nil=>cases l
  |cons x B=>
   simp only[bq]at l m;obtain⟨r',e,C⟩:=BL z (by lia);exact⟨r',(aF (hX (r:=r) (ds:=[]) rfl rfl e)).trans rfl,_,_,B,C,by lia,by simp only[bq];lia,q⟩) (oo b.length) c E ⟨[],[],B3,j,by simpa using I,I,S⟩
 cases O with
 |cons x O=>cases l4
 |nil=>
 obtain rfl:K=v:=k4;have t: ∀{r:Rk} {h:Row} {A:Za} {B:Zb},Zp A h B r->r.held.length<64:=λz=>by have:=j7 z.ok;lia
 have Y:mBk c []= .pure (.ok (.str "no back")):=by
  have e:c=⟨c.held,[],c.undone⟩:=by
   have:=j.dn;cases c;simp at this;subst this;rfl
  unfold mBk;rw[DT,e,Iy,t9]
 have H: ∀{ρ:Rho},aB 12 ρ= .ok (.int (b.length:Nat))->bX (aB 12) ρ= .ok (.lst ((oo b.length).map λ(i:Nat)=>D.int (i:Int))):=λe=>eF e (by lia);have Q: ∀k,NK (f E c) k=k qe (f E c):=λk=>by
  unfold NK cOr;rw[gU (r:=c) (ds:=[]) rfl rfl (wL j.ok (t j)) rfl (wM j.ok j.oh j.q),if_neg (by decide)];exact gU (r:=c) (ds:=[]) rfl rfl Y rfl NN
 have T: ∀k,NL (f G d) k=k qe (f G d):=λk=>by
  unfold NL cOr;rw[gU (r:=d) (ds:=[]) rfl rfl (wL o.ok (t o)) rfl (wM o.ok o.oh o.q),if_neg (by decide)];refine gU (r:=d) (ds:=[]) rfl rfl (sQ d) (eO (x:=.int (d.done.length:Nat)) (y:=.int (d.undone.length:Nat)) ?_ ?_) (pS rfl (by simp[dep,xT]));show R.ok (.int (b.length:Nat))=_;rw[o.dn, <-m4];simp;rw[o.un];rfl
 refine⟨G,t4,t6,.sh (bP K),.sh (.int (b.length:Nat)),d,?_⟩;refine(aF (hX (r:=r) (ds:=[]) rfl rfl X)).trans ?_;refine(aF (gN (is:=[11,12]) (ds:=[bP h,.int ((A.length+1:Nat):Int)]) (eO (uN rfl) rfl) rfl)).trans ?_;refine(aF ((xQ λk=>gU (r:=N) (ds:=[]) rfl rfl (wL u.ok (t u)) rfl (wM u.ok u.oh u.q)).trans rfl)).trans ?_;refine(aF ((pE (ds:=qQ 3) (.inl (eF (n:=3) rfl (by decide)))).trans e2)).trans ?_;refine(aF ((pE (.inl (H rfl))).trans e3)).trans ?_;refine(aF ((xQ Q).trans rfl)).trans ?_;refine(aF ((pE (.inl (H rfl))).trans e4)).trans ?_;exact(aF ((xQ T).trans rfl)).trans rfl
def DY{io ia A}{r}(e:g ((ρ.set io (.rk A r)).set ia (.sh (.int n)))= .nx ρ1):goR io ia A g ((r,n)::l) ρ=goR io ia A g l ρ1:=by simp[goR,e]
theorem LS{p}{s}{w}{L}(z:Zp A p [(s,w,h)] r)(l:A.length<20): ∀(q:L1 Nat) s3 s4 s6 s10 s11 s12 s13, ∃ρ,goR 13 10 350 BM (q.map λ(n:Nat)=>(r,(n:Int))) (stL ns .no (L++[bP h]) s3 s4 s5 s6 (.sh (.int ((A.length+1:Nat):Int))) .no .no s10 s11 s12 s13)= .nx ρ
 |[],_,_,_,_,_,_,_=>⟨_,rfl⟩
 |n::q,s3,s4,s6,s10,s11,s12,s13=>by
  refine gzq λRz ez=>?_;obtain⟨c,f,g,b,a,i,e⟩:=ID (ns:=ns) (s3:=s3) (s4:=s4) (s5:=s5) (s6:=s6) (s11:=s11) (s12:=s12) (L:=L) z l n;obtain⟨ρ,d⟩:=LS z l q c f g (.sh (.int (n:Nat))) b a (.rk 350 i);subst ez;exact⟨ρ,(DY e).trans d⟩
end
def NO(ns:L1 Int):HP ([D.lst (ns.map D.int)].map SK.Slot.sh++ao 13 .no)= .rt (.ok (.bl qc)):=by
 rw[DS];show aR _ _ [.sh (Sc ns),.no,.no,.no,.no,.no,.no,.no,.no,.no,.no,.no,.no,.no]=_;have gv:Sw (sw 0 [qc]):=⟨0,[qc],⟨by decide,rfl⟩,rfl⟩;have u:OkH ([]:Row):=⟨List.nodup_nil,λp m=>by cases m⟩;have Q:=E3 (r:=⟨[],[],[]⟩) (x:="a") (v:=sw 0 [qc]) (by decide) gv (by decide) (by decide);have G:Zp [([],fR ⟨[],[],[]⟩ "put" "a" (sw 0 [qc]),"put")] (fJ [] "a" (sw 0 [qc])) [] ⟨fJ [] "a" (sw 0 [qc]),[]++[fR ⟨[],[],[]⟩ "put" "a" (sw 0 [qc])],[]⟩:=
  ⟨u.put (by decide) gv,⟨wO (r:=⟨[],[],[]⟩) u u (λ_=>rfl) (by decide) (by decide) gv,u,trivial⟩,trivial,u.put (by decide) gv,λ_=>rfl,rfl,rfl,rfl⟩
 refine(aF (ρ':=stL ns (.rk 350 ⟨[],[],[]⟩) [bP [],bP [("a",vA)]] .no .no .no .no .no .no .no .no .no .no .no) rfl).trans ?_;refine(aF (hX (r:=⟨[],[],[]⟩) (ds:=[.str "a",vA]) rfl rfl Q)).trans ?_;obtain⟨⟨A,h,r,g,o,j⟩,l,J,O⟩:=jG (fA ns) (λn a=>Zp a.A a.h [] a.r/\a.A≠[]/\a.A.length+n<20) (λ_ _ _=>rfl) DW (oo 8) ⟨_,_,_,.no,.no,.no⟩ .no ⟨G,(λz=>nomatch z),by decide⟩;obtain⟨I,M,U⟩:Zp A h [] r/\A≠[]/\A.length+0<20:=O;refine(aF ((pE (ds:=qQ 8) (.inl (eF (n:=8) rfl (by decide)))).trans J)).trans ?_;rcases A with _|⟨q,A⟩;exact absurd rfl M;obtain⟨p,s,w⟩:=q;have N:A.length<20:=by simp at U;lia
 have X:jH ((p,s,w)::A) h=(A.map (·.1)).reverse.map bP++[bP p,bP h]:=by simp[jH]
 have E:jH ((p,s,w)::A) h=jH A p++[bP h]:=sR;obtain⟨f,S,t⟩:=Fb I (by decide);refine(aF (dP (i:=7) (d:=.int ((A.length+1:Nat):Int)) ?_)).trans ?_;refine(aZ (x:=.int ((jH ((p,s,w)::A) h).length:Nat)) (y:=.int ((1:Nat):Int)) ((cO (x:=.lst (jH ((p,s,w)::A) h)) rfl).trans rfl) rfl).trans ((On (by rw[pU];lia)).trans ?_);rw[pU];simp;refine(aF (hX (r:=r) (ds:=[]) rfl rfl S)).trans ?_;refine(aF (ρ':=stL ns (.rk 350 f) (jH ((p,s,w)::A) h) l g o j (.sh (.int ((A.length+1:Nat):Int))) (.rk 350 f) .no .no .no .no .no) rfl).trans ?_;have W: ∀k,NJ (stL ns (.rk 350 f) (jH ((p,s,w)::A) h) l g o j (.sh (.int ((A.length+1:Nat):Int))) (.rk 350 f) .no .no .no .no .no) k=k qe (stL ns (.rk 350 f) (jH ((p,s,w)::A) h) l g o j (.sh (.int ((A.length+1:Nat):Int))) (.rk 350 f) .no .no .no .no .no):=λk=>by
  unfold NJ cOr;have e:dD [aV .Sub (aB 7) (rK (.int 1)),rK (.int 1)] (stL ns (.rk 350 f) (jH ((p,s,w)::A) h) l g o j (.sh (.int ((A.length+1:Nat):Int))) (.rk 350 f) .no .no .no .no .no)= .ok (.tup [.int (f.done.length:Nat),.int (f.undone.length:Nat)]):=by
   refine eO ((aZ (x:=.int ((A.length+1:Nat):Int)) (y:=.int ((1:Nat):Int)) rfl rfl).trans ((On (by lia)).trans ?_)) ?_;rw[t.dn];simp;rw[t.un];rfl
  rw[gU (r:=f) (ds:=[]) rfl rfl (sQ f) e (pS rfl (by simp[dep,xT])),if_neg (by decide)];exact gU (r:=f) (ds:=[]) rfl rfl (wL t.ok (by have:=j7 t.ok;lia)) (DU (L:=(A.map (·.1)).reverse.map bP) (by rw[X];rfl)) (wM t.ok t.oh t.q)
 refine(aF ((xQ W).trans rfl)).trans ?_;obtain⟨c,K,Y⟩:=cR ns 5 (m:=2) (by decide);have H:bH .Eq (aH aI [aB 0,rK (.int 5),rK (.int 2)]) (rK (.int 0)) (stL ns .no (jH A p++[bP h]) l g o j (.sh (.int ((A.length+1:Nat):Int))) .no .no .no .no .no .no)= .ok (.bl (decide (c=0))):=by
  refine(bA (x:=.int (c:Nat)) (y:=.int ((0:Nat):Int)) ((dQ (x:=Sc ns) (y:=.int ((5:Nat):Int)) (z:=.int ((2:Nat):Int)) rfl rfl rfl).trans K) rfl).trans ?_;have:c=0\/c=1:=by lia
  rcases this with rfl|rfl<;>rfl
 have two: ∃B,ET 9 13 10 350 (bH .Eq (aH aI [aB 0,rK (.int 5),rK (.int 2)]) (rK (.int 0))) BM 1 2000 8 3000 (stL ns (.rk 350 f) (jH A p++[bP h]) l g o j (.sh (.int ((A.length+1:Nat):Int))) (.rk 350 f) .no .no .no .no .no)= .nx B:=by
  obtain⟨B,e⟩:=LS (ns:=ns) (s5:=o) (L:=jH A p) t N (if c=0 then [2000,3000]else [3000,2000]) l g j .no .no .no .no;refine⟨B,?_⟩;show(match bH .Eq (aH aI [aB 0,rK (.int 5),rK (.int 2)]) (rK (.int 0)) (stL ns .no (jH A p++[bP h]) l g o j (.sh (.int ((A.length+1:Nat):Int))) .no .no .no .no .no .no)with
   |.ok d=>(match d with
    |.bl b=>if 14<=9 then Out.rt .bad else goR 13 10 350 BM (if b then [(f,2000),(f,3000)]else [(f,3000),(f,2000)]) (stL ns .no (jH A p++[bP h]) l g o j (.sh (.int ((A.length+1:Nat):Int))) .no .no .no .no .no .no)
    |_=>.rt .bad)
   |_=>.rt .bad)=_
  rw[H];dsimp only;rw[if_neg (by decide)];by_cases C:c=0;rw[decide_eq_true C];rw[if_pos C]at e;exact e;rw[decide_eq_false C];rw[if_neg C]at e;exact e
 rw[E];obtain⟨B,T⟩:=two;exact(aF T).trans (cU (aW rfl))
open PySem.Spec PyProof.Rows L2 PySem.W
abbrev KK(w:World):mj:=kK w.params
abbrev ge(x:Str)(g:SK.Gl):Str×SK.Gl:=(x,g)
abbrev xqT:=List (Str×Nat×FM)
abbrev xq1:xqT:=[("set_to",2,aP)]
abbrev xq2:xqT:=("do",3,jW)::xq1
abbrev xq3:xqT:=("put",2,eZ)::xq2
abbrev xq4:xqT:=("switch_of",1,aG)::xq3
abbrev xq5:xqT:=("take",1,dJ)::xq4
abbrev xq6:xqT:=("join",4,dM)::xq5
abbrev xq7:xqT:=("turn",1,dU)::xq6
abbrev xq8:xqT:=("labels",0,bR)::xq7
abbrev xq9:xqT:=("back",0,dF)::xq8
abbrev xq10:xqT:=("forth",0,dB)::xq9
abbrev xq11:xqT:=("counts",0,cQ)::xq10
def tbL:L1 (Str×SK.Gl):=[ge "Rack" (.cls 350 xq11),ge "Rack" (.cls 350 xq10),ge "Rack" (.cls 350 xq9),ge "Rack" (.cls 350 xq8),ge "Rack" (.cls 350 xq7),ge "Rack" (.cls 350 xq6),ge "Rack" (.cls 350 xq5),ge "Rack" (.cls 350 xq4),ge "Rack" (.cls 350 xq3),ge "Rack" (.cls 350 xq2),ge "Rack" (.cls 350 xq1),ge "Rack" (.cls 350 []),ge "_law_behind" (.fn 22 2 aN),ge "_law_deed" (.fn 21 3 cN),ge "_law_switch" (.fn 20 3 cV),ge "_law_odd" (.fn 19 2 eY),ge "_law_setting" (.fn 18 2 aT),ge "_law_pick" (.fn 17 3 aI),ge "_law_cell" (.fn 16 2 eS),ge "joined" (.fn 15 3 d7),ge "check_label" (.fn 14 1 cI),ge "is_label" (.fn 13 1 hW),ge "unlike" (.fn 12 2 hV),ge "either" (.fn 11 2 hU),ge "both" (.fn 10 2 nT),ge "turned" (.fn 9 1 jC),ge "check_alike" (.fn 8 2 bN),ge "check_switch" (.fn 7 1 bK),ge "is_switch" (.fn 6 1 eX),ge "how_many_settings" (.fn 5 1 bQ),ge "is_row" (.fn 4 3 jB),ge "is_many" (.fn 3 1 fP),ge "are_whole_below" (.fn 2 2 cG),ge "is_whole_below" (.fn 1 2 bL),ge "is_whole" (.fn 0 1 hJ),ge (dS .dict) (.py .dict),ge (dS .sorted) (.py .sorted),ge (dS .all) (.py .all),ge (dS .sum) (.py .sum),ge (dS .list) (.py .list),ge (dS .tuple) (.py .tuple),ge (dS .str) (.py .str),ge (dS .bool) (.py .bool),ge (dS .int) (.py .int),ge (dS .isin) (.py .isin),ge (dS .zip) (.py .zip),ge (dS .range) (.py .range),ge (dS .len) (.py .len),ge "ValueError" .verr,ge "NoBack" (.exc 9),ge "NoLabel" (.exc 8),ge "NoTerm" (.exc 7),ge "NoText" (.exc 6),ge "NoSums" (.exc 5),ge "Unlike" (.exc 4),ge "NoMove" (.exc 3),ge "NoName" (.exc 2),ge "NoSwitch" (.exc 1),ge "SwitchError" (.exc 0),ge "LONGEST_LABEL" (.val (.int 4)),ge "MOST_NAMES" (.val (.int 4))]
def flL:L1 (Nat×Fn):=[(1,hJ),(2,bL),(2,cG),(1,fP),(3,jB),(1,bQ),(1,eX),(1,bK),(2,bN),(1,jC),(2,nT),(2,hU),(2,hV),(1,hW),(1,cI),(3,d7),(2,eS),(3,aI),(2,aT),(2,eY),(3,cV),(3,cN),(2,aN)]
set_option maxHeartbeats 0 in
def all_mk{l:PySem.W.OpenLaw}(X:(KK w).In h)(G:h.Ns mainGlobals mg)(hfa:mg "law"=pi (.ref fa)):
  ∃ad C Δ rd g k n m cL P1 c P0 params body scope,LawGT l.prog w (KK w) mg fa "law" "_law_did" ad C Δ rd g k n m cL P1 c P0 params body scope:=by
 cases hfa.symm.trans (mi X G (n:="law") (v:=.ref 428) (by kernel_rfl))
 refine⟨(BR [31,44,56,68,80,92,104,116,128,140] 31 [149,156,161,168,175,182,189,196,203,208,213,218,223,228,235,242,361,368,378,383,373,404,409]),⟨tbL,flL,defScope (top 46),aC (defScope (top 46)),yO 50 (defBody (top 46))⟩,Two (TbL 423 ((envOfC "law" (defScope (top 46)) 0 428 (.ref 427)).qual++"<lambda>")) (TbL 411 ((envOfC "_law_did" (defScope (top 44)) 0 416 (.ref 415)).qual++"<lambda>")),HC [("_law_did",1,aQ),("_law_all_of",0,aX)] "_law_told" aL 350 xq11 ⟨tbL,flL,defScope (top 46),aC (defScope (top 46)),yO 50 (defBody (top 46))⟩,HP,35,100,13,427,423,415,411,defArgs (top 46),defBody (top 46),defScope (top 46),?_⟩;refine⟨⟨_,_,_,_,_,_,_,_,_,rfl,λs u=>.of_eq rfl⟩,by kernel_rfl,by kernel_rfl,⟨rfl,by decide,by decide⟩,by kernel_rfl,by kernel_rfl,⟨by kernel_rfl,by kernel_rfl⟩,Ln (by decide),Lo,λo a H i d U=>?_,by kernel_rfl,by kernel_rfl,NO⟩
 obtain⟨N,S,ab⟩:=U _ (.head _);obtain⟨hC,hB,L⟩:=U _ (.tail _ (.head _));have t:PQ l.prog w (KK w) mg a a (BR [31,44,56,68,80,92,104,116,128,140] 31 [149,156,161,168,175,182,189,196,203,208,213,218,223,228,235,242,361,368,378,383,373,404,409]) 0 [] []:=.nil i d (GO (by kernel_rfl) (by kernel_rfl))
 have t:=t.int "MOST_NAMES" 4 360;have t:=t.int "LONGEST_LABEL" 4 456;have t:=t.exc "SwitchError" 0;have t:=t.exc "NoSwitch" 1;have t:=t.exc "NoName" 2;have t:=t.exc "NoMove" 3;have t:=t.exc "Unlike" 4;have t:=t.exc "NoSums" 5;have t:=t.exc "NoText" 6;have t:=t.exc "NoTerm" 7;have t:=t.exc "NoLabel" 8;have t:=t.exc "NoBack" 9;have t:=t.verr;have t:=t.py .len;have t:=t.py .range;have t:=t.py .zip;have t:=t.py .isin;have t:=t.py .int;have t:=t.py .bool;have t:=t.py .str;have t:=t.py .tuple;have t:=t.py .list;have t:=t.py .sum;have t:=t.py .all;have t:=t.py .sorted;have t:=t.py .dict;have t:=t.add "is_whole" (top 14) 149 ["thing"] 1 hJ rfl;have t:=t.add "is_whole_below" (top 15) 156 ["thing","bound"] 2 bL rfl;have t:=t.add "are_whole_below" (top 16) 161 ["things","bound"] 2 cG rfl;have t:=t.add "is_many" (top 17) 168 ["thing"] 1 fP rfl;have t:=t.add "is_row" (top 18) 175 ["thing","length","bound"] 3 jB rfl;have t:=t.add "how_many_settings" (top 19) 182 ["many"] 1 bQ rfl;have t:=t.add "is_switch" (top 21) 189 ["thing"] 1 eX rfl;have t:=t.add "check_switch" (top 22) 196 ["thing"] 1 bK rfl;have t:=t.add "check_alike" (top 23) 203 ["one","other"] 2 bN rfl;have t:=t.add "turned" (top 24) 208 ["switch"] 1 jC rfl;have t:=t.add "both" (top 25) 213 ["one","other"] 2 nT rfl;have t:=t.add "either" (top 26) 218 ["one","other"] 2 hU rfl;have t:=t.add "unlike" (top 27) 223 ["one","other"] 2 hV rfl;have t:=t.add "is_label" (top 30) 228 ["thing"] 1 hW rfl;have t:=t.add "check_label" (top 31) 235 ["thing"] 1 cI rfl;have t:=t.add "joined" (top 32) 242 ["word","one","other"] 3 d7 rfl;have t:=t.add "_law_cell" (top 35) 361 ["_law_script","_law_k"] 2 eS rfl;have t:=t.add "_law_pick" (top 36) 368 ["_law_script","_law_k","_law_many"] 3 aI rfl;have t:=t.add "_law_setting" (top 38) 378 ["_law_many","_law_number"] 2 aT rfl;have t:=t.add "_law_odd" (top 39) 383 ["_law_one","_law_other"] 2 eY rfl;have t:=t.add "_law_switch" (top 37) 373 ["_law_script","_law_at","_law_many"] 3 cV rfl;have t:=t.add "_law_deed" (top 42) 404 ["_law_script","_law_at","_law_known"] 3 cN rfl;have t:=t.add "_law_behind" (top 43) 409 ["_law_known","_law_deed_here"] 2 aN rfl;have t:=t.rack 350 (EK (by kernel_rfl) (by kernel_rfl) (by kernel_rfl) (by kernel_rfl) (by kernel_rfl) (by kernel_rfl) (by kernel_rfl))
 have t:=t.met "set_to" "Rack.set_to" (met 33 1) 263 "self" ["label","switch"] 2 aP rfl rfl;have t:=t.met "do" "Rack.do" (met 33 2) 270 "self" ["word","label","switch"] 3 jW rfl rfl;have t:=t.met "put" "Rack.put" (met 33 3) 277 "self" ["label","switch"] 2 eZ rfl rfl;have t:=t.met "switch_of" "Rack.switch_of" (met 33 4) 284 "self" ["label"] 1 aG rfl rfl;have t:=t.met "take" "Rack.take" (met 33 5) 291 "self" ["label"] 1 dJ rfl rfl;have t:=t.met "join" "Rack.join" (met 33 6) 298 "self" ["label","word","one","other"] 4 dM rfl rfl;have t:=t.met "turn" "Rack.turn" (met 33 7) 305 "self" ["label"] 1 dU rfl rfl;have t:=t.met "labels" "Rack.labels" (met 33 8) 312 "self" [] 0 bR rfl rfl;have t:=t.met "back" "Rack.back" (met 33 10) 326 "self" [] 0 dF rfl rfl;have t:=t.met "forth" "Rack.forth" (met 33 11) 333 "self" [] 0 dB rfl rfl;have t:=t.met "counts" "Rack.counts" (met 33 12) 340 "self" [] 0 cQ rfl rfl;have Y:=lJ (K:=KK w) (x:="__init__") (qual:="Rack.__init__") (st:=met 33 0) (f:=256) rfl (by kernel_rfl) (by kernel_rfl)
 have O:=Y.binds (ps:=["self"]) (λ_ _ _ _ _ _ q b=>fZ rfl (by decide) b)
 have Fq:=lJ (K:=KK w) (x:="_law_class") (qual:="_law_class") (st:=top 40) (f:=390) rfl (by kernel_rfl) (by kernel_rfl)
 have Ft:=lJ (K:=KK w) (x:="_law_told") (qual:="_law_told") (st:=top 41) (f:=397) rfl (by kernel_rfl) (by kernel_rfl)
 have hq:=Hj (ps:=["_law_kept"]) (n:=1) (F:=aL) t.B t.t Fq rfl (by kernel_rfl)
 have y:=Fq.binds (ps:=["_law_kept"]) (λ_ _ _ _ _ _ q b=>fZ rfl (by decide) b)
 have hT:=Dm (k:=35) (t:=⟨"_law_deed_here","e","_law_class","SwitchError"⟩) (kf:=35) Ft ⟨_,_,_,_,_,_,_,_,_,_,rfl⟩ (by kernel_rfl) (mi i d (by kernel_rfl)) (by kernel_rfl) hq y (aj _) (mi i d (by kernel_rfl)) t.B
 have J:=(t.t "Rack" (SK.Gl.cls 350 xq11) rfl).2;have RC:RkC (KK w) 350:=J.2.1
 have hN:(aC (defScope (top 44))).length=2:=by kernel_rfl
 have hD:=La (X:=cxP [423,411] (kN (CXe l.prog w) l.prog w (KK w) mg a (aC (defScope (top 46))) "law" (defScope (top 46)) 428 (.ref 427) callerA [] o H λ_ _ _=>False)) (tab:=tbL) (fns:=flL) (sc:=defScope (top 44)) (qual:="_law_did") (name:="_law_did") (tn:="_law_told") (self:="_law_rack") (prs:=["_law_deed_here"]) (F:=aL) (A:=350) (ms:=xq11) (fa:=416) (params:=defArgs (top 44)) (body:=defBody (top 44)) (g:=mF) t.B t.t t.u RC J.2.2 ⟨397,_,"_law_deed_here",mi i d (by kernel_rfl),by kernel_rfl,hT,λs u _=>.of_eq rfl⟩ (by decide) hC hB L rfl (by kernel_rfl) (by kernel_rfl) (by kernel_rfl)
 rw[hN]at hD;have Z:=lJ (K:=KK w) (x:="_law_all_of") (qual:="_law_all_of") (st:=top 45) (f:=421) rfl (by kernel_rfl) (by kernel_rfl)
 have hA:=EG (k:=34) (A:=350) (ms:=xq11) (n:=0) (M:=aX) (self:="_law_rack") (ps:=[]) t.B t.t RC J.2.2 Z rfl (by kernel_rfl)
 have T:=Z.binds (ps:=["_law_rack"]) (λ_ _ _ _ _ _ q b=>fZ rfl (by decide) b)
 have Q:ku (KK w) (.ref 416)=qc:=by kernel_rfl
 have I:ku (KK w) (.ref 421)=qc:=by kernel_rfl
 have j: ∃f r fd ps,r<=34/\Mk (KK w) 350 f/\FnOk l.prog w (KK w) mg a (CXe l.prog w) r f fd ps (spI (KK w) ((BR [31,44,56,68,80,92,104,116,128,140] 31 [149,156,161,168,175,182,189,196,203,208,213,218,223,228,235,242,361,368,378,383,373,404,409])) 350)/\dO (KK w) fd ps []:=⟨256,1,_,_,by decide,⟨by kernel_rfl,by kernel_rfl,by kernel_rfl,by kernel_rfl⟩,KN (k:=0) (self:="self") (EK (by kernel_rfl) (by kernel_rfl) (by kernel_rfl) (by kernel_rfl) (by kernel_rfl) (by kernel_rfl) (by kernel_rfl)) Y (by kernel_rfl) ⟨_,_,_,_,_,_,_,_,_,_,_,_,rfl⟩,O⟩
 have p:=lJ (K:=KK w) (x:="twin") (qual:="Rack.twin") (st:=met 33 13) (f:=347) rfl (by kernel_rfl) (by kernel_rfl)
 have E:=Nt (k:=34) (A:=350) (ms:=xq11) (self:="self") (other:="other") t.B t.t rfl j p (by kernel_rfl) (by kernel_rfl) (by kernel_rfl) (by kernel_rfl) (by kernel_rfl) (by kernel_rfl) rfl ⟨_,_,_,_,_,_,_,rfl⟩ ⟨_,_,_,_,_,_,_,rfl⟩ ⟨_,_,_,_,_,_,_,rfl⟩
 have z:=p.binds (ps:=["self"]) (λ_ _ _ _ _ _ q b=>fZ rfl (by decide) b)
 exact HM (tab:=tbL) (fns:=flL) (x:="_law_script") (prs1:=["_law_rack","_law_deed_here"]) (nd:=1) (Md:=aQ) t.B t.t t.u (by kernel_rfl) ⟨rfl,by decide,by decide⟩ rfl (λA ms e=>by cases (show(pi (SK.Gl.cls 350 xq11):L7 SK.Gl)=pi (SK.Gl.cls A ms) from e);exact j) hD LA (mi i d (by kernel_rfl)) (by decide) Q (λs q _ b=>.of_eq (fZ rfl (by decide) b)) hA (by decide) T (mi i d (by kernel_rfl)) (by decide) I ⟨397,_,"_law_deed_here",mi i d (by kernel_rfl),by kernel_rfl,hT,λs u _=>.of_eq rfl⟩ (by decide) N S ⟨347,36,_,_,by decide,⟨by kernel_rfl,by kernel_rfl,by kernel_rfl⟩,E,z⟩ (HL _ _ _)
end SK.k73
open PySem PySem.W PyProof.Rows
set_option maxRecDepth 100000 in
set_option maxHeartbeats 0 in
theorem PySem.Challenge.cw_switchkinds_k73_whole_rack_twins_holds : PySem.Challenge.rw_switchkinds_k73_whole_rack_twins.Holds := by
 w_on
 refine PySem.W.holds_law SK.k73.sd λb=>?_
 refine PySem.W.holds_open (q:=SK.k73.kq) (loose:=[]) (Xt:=λs=>PySem.W.xlAt SK.k73.kq [] s&&PySem.W.recOk (f6 (eu dg.row)) s) (XP:=PySem.W.XL SK.k73.kq []) (Yf:=mn.obs (lh SK.k73.kK SK.k73.kas (λ_=>by kernel_rfl))) (Ya:=mn.val (lh SK.k73.kK SK.k73.kas (λ_=>by kernel_rfl))) (YP:=mn.says (lh SK.k73.kK SK.k73.kas (λ_=>by kernel_rfl))) (N:=7442) SK.k73.left (mn.of (lh SK.k73.kK SK.k73.kas (λ_=>by kernel_rfl))) (mn.keeps (lh SK.k73.kK SK.k73.kas (λ_=>by kernel_rfl))) (λs e=>PySem.W.xl_of s (Bool.and_eq_true_iff.mp e).1) PySem.W.XL.keeps (by rfl) (by rfl) (by rfl) (λs e=>PySem.W.recFacts_of (Bool.and_eq_true_iff.mp e).2) (by rfl) (by first|assumption|decide+kernel) (by decide+kernel) ⟨rfl,rfl,rfl,rfl,rfl,by decide+kernel⟩ ?hw ?hc
 (case hw=>w_witness2)
 refine SK.walkG (l:=dg) rfl rfl (λw h Y=>PySem.W.kIn_of Y) (did:="_law_did") (dz.mp (by kernel_rfl)) (dz.mp (by kernel_rfl)) ?F
 case F=>
  intro w d f h c G a;exact SK.k73.all_mk c G a
