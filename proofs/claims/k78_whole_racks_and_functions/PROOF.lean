import PyProof.Rows.All
import Wide.All
import OpenK.AllK
import Wide.FinOn
import PySem.Challenge.RW_switchkinds_k78_whole_racks_and_function
abbrev cg:=PySem.Value->PySem.Shared->Prop
abbrev ci:=List (PySem.Addr×PySem.Obj)
noncomputable section
open Option renaming some->qv,none->qw
open Bool renaming true->qz,false->q4
open PySem.Challenge renaming pw_switchkinds_k78_whole_racks_and_function->dq,rw_switchkinds_k78_whole_racks_and_function->dt
open PySem.Builtin.SmallTypes renaming ownedTupleHandOut->du,ownedTupleIsFree->dv,nextOf->ey
open PyProof.Rows renaming slot_tuple_getitem->dw,callWith_builtin1->dy,callWith_type1->d8
open PySem.F renaming args_dict_keyiterator_next_1->dz,entry_dict_keyiterator_next->d6,slot_dict_keyiterator_next->d7,slot_tuple_iterator_next->ej,args_tuple_add_2->fg,entry_tuple_add->fz,plainAttrs_list->f7,args_dict_get_2->gf,slot_tuple_add->gr,plainAttrs_str->g8,entry_dict_get->h8,entry_max_loop->ia,plain_max_loop->ib,slot_dict_get->ig,slot_enumerate_next->ii,slot_NoneType_hash->iu,args_str_split_2->jk,entry_str_split->ka,slot_tuple_hash->kd,slot_str_split->lf,entry_min_loop->lu,plain_min_loop->lx,slot_zip_next->mz
open PySem.Builtin.Str renaming strSliceIndices->d9,partsBetween->fw,occurrences->f6,strSub->jf
open PySem.Builtin.Builtins renaming bindParams->ee
open PySem.Builtin.Tuple renaming tupleItemsOf->ef,tupleHashOf->eu,tupleExact->fj
open PySem.Builtin.Slice renaming sliceAdjust->er,slicePlaces->et
open PySem.Calls renaming call_function_entry->ez,callWith_builtin->gw,evalArgs_plain->ir,spliced_cons->je,spliced_nil->jt
open Option renaming isSome_iff_exists->e7,isSome_map->kg,getD_some->lr,map_map->nc,map->pz
open PySem.Builtin.List renaming listTooLong->fq
open List.Perm renaming eq_of_pairwise->fx,refl->nq
open PySem.W.OpenRow renaming toRowW->gm
open PySem.World renaming withFollow->gq
open PySem.SeqAt.ReadsAll renaming length->ij
open Array renaming getElem?_toList->ik,length_toList->iy,Perm->qg
open PySem.W.RowW renaming records->ip
open PySem.Around renaming under_plainId->iw
open PySem.W renaming plainGet_of->iz,callWith_K->jh,methodObj->jo,hasDictIn->jp,plainOver->jq,emptyDict->jr,openGood->kl,plainGet->km,instObj->l0,OpenLaw->mo,lookIn->ng,findIn->nh,keepIn->ni,kHook->nr,mg_of->oe,Frag->og,Hook->oh,isFn->ot,fnOf->ou
open PySem.Heap.SameBut renaming update->ja
open PySem.Obj renaming data_mapFields->jl,mapSeq->qc
open List.Pairwise renaming nil->jw
open PySem.PyData renaming canLayAll0->jx,depthAll->mq,canLay0->nj,eqvAll->nz,depth->oz,eqv->qf
open Int renaming toNat_natCast->kb
open PyProof.Rows.KeyOrd renaming kle_of_klt->ke,kle_trans->li,kle_refl->m5
open PySem.PassesOwn renaming leaving->kh
open PySem.SeqAt renaming eqAt_reads->kr
open Option.some renaming inj->lz
open ForInStep renaming yield->mw
open List.cons renaming injEq->m4
open PySem.W.KasT renaming kasWp_bind->m6
open PySem.Paired renaming length->nu,snoc->pv
open PySem.NameKind renaming free->n5,cell->n6
open PySem.Value renaming builtin->n7,none->p3,bool->p4,type->qa,int->qh,str->qi,ref->qj
open PySem.Str renaming ofString->ox,empty->qk
open PySem.Shared renaming heap->pk
open PySem.Moved renaming trans->pq
open True renaming intro->qb
open PySem.Txt renaming split->ql,join->qq
open Prod renaming ext->qo
open Sum renaming inl->qr,inr->qt
open Ne renaming symm->qu
open PySem renaming wpAny_bind->aa,wpAny_pure->ae,mem_of_lookup->i0,strKind->n8,Within->oj
open PySem.Heap renaming get?_push_of_some->af,get?_push_size->ag,lt_size->ah,size_push->ai,get?_update_other->gu,get?_update_self->ie,get?_push_ne->kc,SameBut->oo,IsTuple->pb,ExtBut->pj,IsList->pp
open Nat renaming le_refl->aj,lt_of_lt_of_le->bh,ne_of_lt->bj,zero_le->cb,le_of_ble_eq_true->im,lt_succ_of_lt->jz,lt_succ_self->kn,le_add_right->lg,lt_irrefl->nv,le_trans->ol,le_of_lt->om,ne_of_gt->oq,le_succ->ph
open List renaming replicate->ak,length_map->ao,mem_map->aq,mem_cons->au,size_toArray->aw,getElem?_eq_some_iff->ax,getElem?_set_ne->ba,getElem?_eq_getElem->bf,getElem?_set_self->bn,getElem?_append_right->bo,length_append->bq,length_cons->bu,mem_append_right->bz,getElem?_append_left->cc,getD_eq_getElem?_getD->ce,drop_eq_getElem_cons->ew,getElem?_replicate->fy,pairwise_singleton->gg,range_succ_eq_map->gy,length_eq_one_iff->gz,length_replicate->ic,contains_iff_mem->il,mem_cons_of_mem->iq,filterMap_cons->ix,replicate_succ->i3,map_congr_left->i4,append_toArray->jb,mem_cons_self->jc,mem_filterMap->jd,findIdx?_cons->jg,mem_singleton->ji,getElem_range->jj,pairwise_cons->jm,getElem?_map->ju,flatten_cons->jv,length_range->jy,pairwise_map->kf,map_inj_left->ki,all_eq_true->kj,length_take->ko,countP_cons->ku,lookup_cons->ky,filter_cons->kz,not_mem_nil->k7,cons_append->lh,ext_getElem->lj,getElem_mem->lm,isEmpty_iff->ly,mem_filter->l8,mem_append->md,append_nil->mf,nodup_cons->mh,of_mem_zip->mm,length_set->mn,nil_append->q8,find?_cons->my,filterMap->nl,map_cons->ny,any_cons->n4,map_nil->oy,toArray->pc,map_map->pd,zipWith->pe,lookup->pf,length->pi,range->pw,foldl->qe,Perm->qm
open Bool renaming and_eq_true->av,false_eq_true->ay,false_ne_true->bg,and_eq_true_iff->io,eq_false_iff->j3,eq_iff_iff->m3,not_true->n9
open False renaming elim->az
def zBd{α β:Type}{o:Option α}{f:α->Option β}{b:β}(h:o.bind f=qv b): ∃a,o=qv a/\f a=qv b:=Option.bind_eq_some_iff.mp h
def zMd{α β:Type}{o:Option α}{f:α->β}{b:β}(h:o.map f=qv b): ∃a,o=qv a/\f a=b:=Option.map_eq_some_iff.mp h
def zAd{α:Type}{l:List α}{p:α->Bool}(h:l.all p=qz): ∀x,x∈l->p x=qz:=kj.mp h
def zPd(h:m<n):m∈pw n:=List.mem_range.mpr h
def zRd(h:m∈pw n):m<n:=List.mem_range.mp h
set_option Elab.async false
set_option linter.all false
set_option maxRecDepth 100000
namespace SK
open PySem PySem.W PyProof.Rows PySem.Calls
noncomputable def MC(tb:String->Option Builtin)(p:Program)(w:World)(m:Nat)(ann:Option Value)(n:Nat):SharedT->Thread->Option SharedT:=
 Nat.rec (λ_ _=>qw) (λ_ ih s t=>match through t with
  |true=>qv s
  |false=>match stepOk m ann t with
   |false=>qw
   |true=>match stepT (denote tb) p w s t with
    |some r=>ih r.1 r.2
    |none=>qw) n
theorem p8{tb:String->Option Builtin}{p:Program}{w:World}{m:Nat}{ann:Option Value}: ∀(n:Nat) (s s':SharedT) (t:Thread),MC tb p w m ann n s t=qv s'->topRun tb p w m ann n s.abs t=qv s'.abs
 |0,_,_,_,h=>nomatch h
 |n+1,s,s',t,h=>by
  have h:(match through t with
   |true=>qv s
   |false=>match stepOk m ann t with
    |false=>qw
    |true=>match stepT (denote tb) p w s t with
     |some r=>MC tb p w m ann n r.1 r.2
     |none=>qw)=qv s':=h
  unfold topRun
  cases b:through t with
  |true=>rw[b]at h;cases h;rfl
  |false=>
   rw[b]at h
   cases hk:stepOk m ann t with
   |false=>rw[hk]at h;cases h
   |true=>
    rw[hk]at h
    cases a:stepT (denote tb) p w s t with
    |none=>rw[a]at h;cases h
    |some r=>obtain⟨c,d⟩:=r;rw[a]at h;rw[stepT_spec a];exact p8 n _ _ _ h
noncomputable def BTl:Nat->List Obj->BT
 |0,_=>.nil
 |n+1,l=>match l with
  |[]=>.nil
  |v::r=>.node v (BTl n (ev qz r)) (BTl n (ev q4 r))
where
 ev:Bool->List Obj->List Obj
 |_,[]=>[]
 |true,v::r=>v::ev q4 r
 |false,_::r=>ev qz r
def bt0(P:Params):BT:=BTl 12 (boot_heap P).objs.toList
def sT0(P:Params)(os:OsState):SharedT:=⟨bt0 P,(boot_heap P).objs.size,(boot_heap P).life, #[],boot_drawn,boot_toks,os⟩
def Jn(P:Params):absHeap (bt0 P) (boot_heap P).objs.size (boot_heap P).life=boot_heap P:=by kernel_rfl
def FG(P:Params):(boot_heap P).isNs mainGlobals=qz:=by kernel_rfl
def FH(p q:Program)(loose:List Str)(Xt:Shared->Bool){α:Type}(Yf:Shared->α)(P:Params)(s:Shared):=
 (staticsOk (importedModules p.main.body) (boot_heap P) s.heap&&namesBound p s.heap&&gensDone s&&laidKept (boot_heap P) s.heap,openSeen q loose (importedModules p.main.body) Xt qz s,Yf s)
def Jb(p:Program)(N:Nat)(w:World)(os:OsState):Option SharedT:=MC treeTable p w (boot_heap w.params).objs.size ((boot_heap w.params).nsMap mainGlobals "__annotations__") N (sT0 w.params os) (topStub p)
def left_tree{Yf:Shared->α}{Ya:World->α}{N:Nat}(e:opening p=plainProg p.main.scope.names)(hN:Nat.ble 600 N=qz)(f: ∀s,fenceModules? p s=qv s)(hk: ∀w os,(Jb p N w os).map (λs=>FH p q loose Xt Yf w.params s.abs)=qv (qz,openGood q loose,Ya w)):LeftO p q loose Xt Yf Ya N:=λw=>by
 obtain⟨b,m,g⟩:=zMd (boot_open e hN f w);obtain⟨h,c,d,k,os⟩:=b;obtain⟨rfl,rfl,rfl,rfl⟩:h=boot_heap w.params/\c=Array.mk []/\d=boot_drawn/\k=boot_toks:=by simpa using g
 obtain⟨s,r,l⟩:=zMd (hk w os);obtain⟨o,n,i⟩:_/\_/\_:=by simpa only[FH,Prod.mk.injEq]using l
 have a:=p8 _ _ _ _ r
 have j:(sT0 w.params os).abs=⟨boot_heap w.params,Array.mk [],boot_drawn,boot_toks,os⟩:=by
  show(⟨absHeap (bt0 w.params) (boot_heap w.params).objs.size (boot_heap w.params).life, #[],boot_drawn,boot_toks,os⟩:Shared)=_
  rw[Jn]
 rw[j]at a
 have t:topFrom treeTable p w N ⟨boot_heap w.params,Array.mk [],boot_drawn,boot_toks,os⟩=qv s.abs:=by
  unfold topFrom
  dsimp only
  rw[FG,a]
  show(match staticsOk (importedModules p.main.body) (boot_heap w.params) s.abs.heap&&namesBound p s.abs.heap&&gensDone s.abs&&laidKept (boot_heap w.params) s.abs.heap with|true=>_|false=>_)=_
  rw[o]
 unfold openEnds;rw[m]
 show(topFrom treeTable p w N _).map _=_
 rw[t];exact congrArg qv (qo n i)
universe u
noncomputable def kt{α:Sort u}(_:α):Bool:=qz
def q1(p q:Program)(lo:List Str)(N:Nat)(c:WRecords)(a:List Addr)(w:World)(os:OsState):=(Jb p N w os).map λs=>FH p q lo (λs=>xlAt q [] s&&recOk c s) (λs=>a.map s.heap.get?) w.params s.abs
def q2(p q:Program)(lo:List Str)(N:Nat)(c:WRecords)(w:World)(os:OsState):=(Jb p N w os).map λs=>
 ((s.abs).heap.keysOk (looseW q lo) ((recsOf q).map (·.name)) ((litsOf q).map (·.1)) ((clssOf q (looseW q lo)).map (·.name)),(s.abs).heap.accountedOkI (importedModules p.main.body),((s.abs).heap.isNs mainGlobals&&(s.abs).heap.isNs builtinsNs&&tablesOk q (s.abs).heap),(xlAt q [] s.abs&&recOk c s.abs),((s.abs).gens.size==0))
def zzq:kt q1=qz:=by k_qdec
def tg2:kt q2=qz:=by k_qdec
def MD{lo:List Str}{os:OsState}(h1:(q2 p q lo N c w os).map (λy=>y.1)=qv qz)(h2:(q2 p q lo N c w os).map (λy=>y.2.1)=qv qz)(h3:(q2 p q lo N c w os).map (λy=>y.2.2.1)=qv qz)(h4:(q2 p q lo N c w os).map (λy=>y.2.2.2.1)=qv qz)(h5:(q2 p q lo N c w os).map (λy=>y.2.2.2.2)=qv qz):
  (q1 p q lo N c a w os).map (λx=>x.2.1.2.2.1)=qv qz:=by
 unfold q2 at h1 h2 h3 h4 h5;unfold q1
 cases e:Jb p N w os with
 |none=>rw[e]at h1;cases h1
 |some s=>
  rw[e]at h1 h2 h3 h4 h5;have h:=lz h1;have f:=lz h2;have b:=lz h3;have d:=lz h4;have g:=lz h5;refine congrArg qv ?_;simp only[av]at b
  show(_&&_&&_&&_&&_&&_&&_)=qz
  simp only[av];exact⟨⟨⟨⟨⟨⟨h,f⟩,b.1.1⟩,b.1.2⟩,b.2⟩,io.mp d⟩,g⟩
noncomputable def q3(p q:Program)(lo:List Str)(N:Nat)(w:World)(os:OsState):=(Jb p N w os).map λs=>
 (seen ((recsOf q).map (·.name)) (ownsOf q) [] {s.abs with gens:= #[]},(s.abs).heap.bltView,tabsOk q s.abs,pinSeenD q (drecsOf q) s.abs,plainSeenE q (looseW q lo) s.abs,plainSeenD q lo s.abs,wideSeen q s.abs,clsSeenW q lo s.abs)
def tg3:kt q3=qz:=by k_qdec
def q1_of{lo:List Str}{os:OsState}(hA:(q1 p q lo N c a w os).map (λx=>x.1)=qv qz)(hC:(q1 p q lo N c a w os).map (λx=>x.2.2)=qv k)(h1:(q2 p q lo N c w os).map (λy=>y.1)=qv qz)(h2:(q2 p q lo N c w os).map (λy=>y.2.1)=qv qz)(h3:(q2 p q lo N c w os).map (λy=>y.2.2.1)=qv qz)(h4:(q2 p q lo N c w os).map (λy=>y.2.2.2.1)=qv qz)(h5:(q2 p q lo N c w os).map (λy=>y.2.2.2.2)=qv qz)(g0:(q3 p q lo N w os).map (λy=>y.1)=qv (expectedOf q))(g1:(q3 p q lo N w os).map (λy=>y.2.1)=qv bltViewBooted)(g2:(q3 p q lo N w os).map (λy=>y.2.2.1)=qv qz)(g3:(q3 p q lo N w os).map (λy=>y.2.2.2.1)=qv (pinGoodD (drecsOf q)))(g4:(q3 p q lo N w os).map (λy=>y.2.2.2.2.1)=qv (plainGoodE q (looseW q lo)))(g5:(q3 p q lo N w os).map (λy=>y.2.2.2.2.2.1)=qv (plainGoodD q lo))(g6:(q3 p q lo N w os).map (λy=>y.2.2.2.2.2.2.1)=qv (wideGood q))(g7:(q3 p q lo N w os).map (λy=>y.2.2.2.2.2.2.2)=qv (clsGoodW q lo)):
  q1 p q lo N c a w os=qv (qz,openGood q lo,k):=by
 have b:=MD (a:=a) h1 h2 h3 h4 h5;unfold q3 at g0 g1 g2 g3 g4 g5 g6 g7;unfold q1 at hA b hC ⊢
 cases e:Jb p N w os with
 |none=>rw[e]at hA;cases hA
 |some s=>
  rw[e]at hA b hC g0 g1 g2 g3 g4 g5 g6 g7;refine congrArg qv (qo (lz hA) (qo ?_ (lz hC)));exact qo (lz g0) (qo (lz g1) (qo (lz b) (qo (lz g2) (qo (lz g3) (qo (lz g4) (qo (lz g5) (qo (lz g6) (lz g7))))))))
end SK
set_option maxHeartbeats 0
namespace L2
open PySem
noncomputable def defArgs(s:Stmt):Arguments:=match s with
 |.FunctionDef _ a _ _ _ _ _ _ _ _=>a
 |_=>{posonlyargs:=[],args:=[],vararg:=qw,kwonlyargs:=[],kw_defaults:=[],kwarg:=qw,defaults:=[]}
noncomputable def defBody(s:Stmt):List Stmt:=match s with
 |.FunctionDef _ _ b _ _ _ _ _ _ _=>b
 |_=>[]
noncomputable def defScope(s:Stmt):Scope:=match s with
 |.FunctionDef _ _ _ _ _ _ sc _ _ _=>sc
 |_=>{kind:=.function,names:=[],isGenerator:=q4,isCoroutine:=q4}
end L2
namespace SK.k78
open PySem
noncomputable def top(i:Nat):Stmt:=dq.main.body.getD i (.Pass ⟨0,0,0,0⟩)
def met(i j:Nat):Stmt:=(match top i with|.ClassDef _ _ _ b _ _ _ _ _ _ _=>b|_=>[]).getD j (.Pass ⟨0,0,0,0⟩)
abbrev fm(st:Stmt)(x q m:Str)(t c:Nat):Obj:={cls:=.type "function",data:=.func {name:=x,qualname:=q,params:=L2.defArgs st,body:=.stmts (L2.defBody st),scope:=L2.defScope st,globals:=3,closure:=[],defaults:=.none,kwdefaults:=.none,pyModule:=.str m t,code:=.ref c} }
noncomputable abbrev en(P:Params)(k:Str)(t:Nat)(v:Value):DictEntry:=⟨PyData.keyHash P k,.str k t,v⟩
abbrev fo(st:Stmt)(x m:Str)(t c:Nat):Obj:={cls:=.type "function",data:=.func {name:=x,qualname:=x,params:=L2.defArgs st,body:=.stmts (L2.defBody st),scope:=L2.defScope st,globals:=3,closure:=[],defaults:=.none,kwdefaults:=.none,pyModule:=.str m t,code:=.ref c} }
noncomputable abbrev co(vs:Array Value):Obj:={cls:=.type "code",data:=.fields vs}
noncomputable abbrev cC(x:Str)(a l n r e:Nat)(u v w:Value):Obj:=co #[.str x a,.str x (a+1),.str "/claim/cut.py" (a+2),.int l 0,.int n 0,.int 0 0,.int 0 0,.int 3 0,.ref r,.bool qz,.int 181 0,.ref (r+1),.none,u,v,w,.int e 0,.int l 0,.str "/claim/cut.py" (e+1)]
noncomputable abbrev cA(x:Str)(a l n r e:Nat):Obj:=cC x a l n r e .none .none (.ref (r+2))
noncomputable abbrev cB(x:Str)(a l n r e:Nat):Obj:=cC x a l n r e (.ref (r+2)) (.ref (r+3)) (.ref (r+4))
noncomputable abbrev cK(x:Str)(f c ns s a b:Nat):Obj:={cls:=.type "type",data:=.cls {name:=x,bases:=[.ref c],mro:=[.ref f,.ref c,.type "ValueError",.type "Exception",.type "BaseException",.type "object"],ns:=ns,qualname:=x},slots:= #[qv (.ref s),qw,qv (.str x a),qv (.str x b),qv (.builtin "ValueError.__new__"),qv (.bool qz)]}
abbrev dK(P:Params)(m:Str)(q a l r:Nat):Obj:={cls:=.type "dict",data:=.dict #[en P "__module__" a (.str m q),en P "__firstlineno__" (a+4) (.int l (a+3)),en P "__static_attributes__" (a+5) (.ref r),en P "__doc__" (a+6) .none] 2}
def kK:Params->og:=λP=>[
(3,{cls:=.type "dict",data:=.dict #[en P "__name__" 165 (.str "law_switchkinds_k78_whole_racks_and_function" 886),en P "__doc__" 166 .none,en P "__package__" 167 .none,en P "__loader__" 168 (.builtin "__main__.__loader__#opaque"),en P "__spec__" 169 .none,en P "__annotations__" 170 (.ref 6),en P "__builtins__" 171 (.ref 4),en P "__file__" 173 (.str "/claim/cut.py" 172),en P "__cached__" 174 .none,en P "_wall" 193 (.ref 21),en P "SwitchError" 213 (.ref 31),en P "NoSwitch" 229 (.ref 44),en P "NoName" 245 (.ref 56),en P "NoMove" 261 (.ref 68),en P "Unlike" 277 (.ref 80),en P "NoText" 293 (.ref 92),en P "NoTerm" 309 (.ref 104),en P "NoLabel" 325 (.ref 116),en P "MOST_NAMES" 329 (.int 4 328),en P "MOST_NAMES_LISTED" 331 (.int 3 330),en P "is_whole" 338 (.ref 125),en P "is_whole_below" 346 (.ref 132),en P "are_whole_below" 352 (.ref 137),en P "is_many" 359 (.ref 144),en P "is_many_listed" 366 (.ref 151),en P "is_row" 375 (.ref 158),en P "all_rows" 386 (.ref 165),en P "how_many_settings" 393 (.ref 172),en P "setting_at" 399 (.ref 177),en P "number_of" 405 (.ref 182),en P "all_settings" 411 (.ref 187),en P "how_many_ones" 418 (.ref 194),en P "is_switch" 427 (.ref 201),en P "check_switch" 434 (.ref 208),en P "check_alike" 442 (.ref 215),en P "ones" 448 (.ref 220),en P "turned" 454 (.ref 225),en P "both" 460 (.ref 230),en P "either" 466 (.ref 235),en P "unlike" 472 (.ref 240),en P "is_order" 482 (.ref 247),en P "is_move" 490 (.ref 254),en P "check_move" 498 (.ref 261),en P "led" 504 (.ref 266),en P "moved" 510 (.ref 271),en P "all_orders" 516 (.ref 276),en P "all_moves" 526 (.ref 283),en P "FIGURES" 544 (.ref 284),en P "check_text" 551 (.ref 291),en P "switch_text" 557 (.ref 296),en P "read_switch" 563 (.ref 301),en P "LONGEST_LABEL" 567 (.int 4 566),en P "BETWEEN" 569 (.str " = " 568),en P "is_label" 575 (.ref 306),en P "check_label" 582 (.ref 313),en P "joined" 591 (.ref 320),en P "Rack" 728 (.ref 426),en P "rack_text" 734 (.ref 435),en P "read_rack" 744 (.ref 442),en P "check_listed" 753 (.ref 449),en P "check_one" 760 (.ref 456),en P "check_two" 768 (.ref 463),en P "all_led" 774 (.ref 468),en P "least_form" 781 (.ref 475),en P "are_kin" 789 (.ref 482),en P "odd_within" 797 (.ref 487),en P "products" 805 (.ref 494),en P "degree" 811 (.ref 499),en P "summed" 819 (.ref 504),en P "sums" 825 (.ref 509),en P "by_weights" 835 (.ref 516),en P "PARTS" 840 (.ref 517),en P "is_part" 847 (.ref 524),en P "is_term" 853 (.ref 529),en P "check_term" 861 (.ref 536),en P "held_at" 867 (.ref 541),en P "all_terms" 873 (.ref 546),en P "widened" 879 (.ref 551),en P "primes" 885 (.ref 556),en P "_law_cell" 895 (.ref 563),en P "_law_pick" 905 (.ref 570),en P "_law_switch" 911 (.ref 575),en P "_law_setting" 917 (.ref 580),en P "_law_odd" 923 (.ref 585),en P "_law_names" 931 (.ref 592),en P "_law_orders" 937 (.ref 597),en P "_law_move" 943 (.ref 602),en P "law" 949 (.ref 607)] 88}),
(20,cB "_wall" 187 1 1 15 191),
(21,fo (top 0) "_wall" "__main__" 164 20),
(30,{cls:=.type "dict",data:=.dict #[en P "__module__" 203 (.str "switchkinds.errors" 194),en P "__firstlineno__" 207 (.int 5 206),en P "__static_attributes__" 208 (.ref 29),en P "__weakref__" 210 (.ref 32),en P "__doc__" 211 .none] 3}),
(31,{cls:=.type "type",data:=.cls {name:="SwitchError",bases:=[.type "ValueError"],mro:=[.ref 31,.type "ValueError",.type "Exception",.type "BaseException",.type "object"],ns:=30,qualname:="SwitchError",subclasses:=[.ref 44,.ref 56,.ref 68,.ref 80,.ref 92,.ref 104,.ref 116]},slots:= #[qv (.ref 22),qw,qv (.str "SwitchError" 196),qv (.str "SwitchError" 204),qv (.builtin "ValueError.__new__"),qv (.bool qz)]}),
(32,{cls:=.type "getset_descriptor",data:=.fields #[.str "__weakref__" 209,.ref 31,.builtin "ExceptionGroup.__weakref__",.none]}),
(43,dK P "switchkinds.errors" 194 221 7 42),
(44,cK "NoSwitch" 44 31 43 35 214 222),
(55,dK P "switchkinds.errors" 194 237 9 54),
(56,cK "NoName" 56 31 55 47 230 238),
(67,dK P "switchkinds.errors" 194 253 11 66),
(68,cK "NoMove" 68 31 67 59 246 254),
(79,dK P "switchkinds.errors" 194 269 13 78),
(80,cK "Unlike" 80 31 79 71 262 270),
(91,dK P "switchkinds.errors" 194 285 15 90),
(92,cK "NoText" 92 31 91 83 278 286),
(103,dK P "switchkinds.errors" 194 301 17 102),
(104,cK "NoTerm" 104 31 103 95 294 302),
(115,dK P "switchkinds.errors" 194 317 19 114),
(116,cK "NoLabel" 116 31 115 107 310 318),
(124,cB "is_whole" 332 24 1 119 336),
(125,fo (top 13) "is_whole" "switchkinds.wholes" 326 124),
(131,cB "is_whole_below" 339 26 2 126 344),
(132,fo (top 14) "is_whole_below" "switchkinds.wholes" 326 131),
(136,cA "are_whole_below" 347 28 2 133 350),
(137,fo (top 15) "are_whole_below" "switchkinds.wholes" 326 136),
(143,cB "is_many" 353 30 1 138 357),
(144,fo (top 16) "is_many" "switchkinds.wholes" 326 143),
(150,cB "is_many_listed" 360 32 1 145 364),
(151,fo (top 17) "is_many_listed" "switchkinds.wholes" 326 150),
(157,cB "is_row" 367 34 3 152 373),
(158,fo (top 18) "is_row" "switchkinds.wholes" 326 157),
(164,cB "all_rows" 376 36 1 159 384),
(165,fo (top 19) "all_rows" "switchkinds.wholes" 326 164),
(171,cB "how_many_settings" 387 45 1 166 391),
(172,fo (top 20) "how_many_settings" "switchkinds.wholes" 326 171),
(176,cA "setting_at" 394 47 2 173 397),
(177,fo (top 21) "setting_at" "switchkinds.wholes" 326 176),
(181,cA "number_of" 400 49 1 178 403),
(182,fo (top 22) "number_of" "switchkinds.wholes" 326 181),
(186,cA "all_settings" 406 51 1 183 409),
(187,fo (top 23) "all_settings" "switchkinds.wholes" 326 186),
(193,cB "how_many_ones" 412 53 1 188 416),
(194,fo (top 24) "how_many_ones" "switchkinds.wholes" 326 193),
(200,cB "is_switch" 421 56 1 195 425),
(201,fo (top 26) "is_switch" "switchkinds.switches" 419 200),
(207,cB "check_switch" 428 60 1 202 432),
(208,fo (top 27) "check_switch" "switchkinds.switches" 419 207),
(214,cB "check_alike" 435 63 2 209 440),
(215,fo (top 28) "check_alike" "switchkinds.switches" 419 214),
(219,cA "ones" 443 68 1 216 446),
(220,fo (top 29) "ones" "switchkinds.switches" 419 219),
(224,cA "turned" 449 71 1 221 452),
(225,fo (top 30) "turned" "switchkinds.switches" 419 224),
(229,cA "both" 455 74 2 226 458),
(230,fo (top 31) "both" "switchkinds.switches" 419 229),
(234,cA "either" 461 77 2 231 464),
(235,fo (top 32) "either" "switchkinds.switches" 419 234),
(239,cA "unlike" 467 80 2 236 470),
(240,fo (top 33) "unlike" "switchkinds.switches" 419 239),
(246,cB "is_order" 475 84 2 241 480),
(247,fo (top 35) "is_order" "switchkinds.moves" 473 246),
(253,cB "is_move" 483 86 2 248 488),
(254,fo (top 36) "is_move" "switchkinds.moves" 473 253),
(260,cB "check_move" 491 90 2 255 496),
(261,fo (top 37) "check_move" "switchkinds.moves" 473 260),
(265,cA "led" 499 93 2 262 502),
(266,fo (top 38) "led" "switchkinds.moves" 473 265),
(270,cA "moved" 505 95 2 267 508),
(271,fo (top 39) "moved" "switchkinds.moves" 473 270),
(275,cA "all_orders" 511 101 1 272 514),
(276,fo (top 40) "all_orders" "switchkinds.moves" 473 275),
(282,cB "all_moves" 517 109 1 277 524),
(283,fo (top 41) "all_moves" "switchkinds.moves" 473 282),
(284,{cls:=.type "dict",data:=.dict #[en P "0" 529 (.int 0 530),en P "1" 531 (.int 1 532),en P "2" 533 (.int 2 534),en P "3" 535 (.int 3 536),en P "4" 537 (.int 4 538)] 5}),
(290,cB "check_text" 545 120 1 285 549),
(291,fo (top 44) "check_text" "switchkinds.texts" 527 290),
(295,cA "switch_text" 552 123 1 292 555),
(296,fo (top 45) "switch_text" "switchkinds.texts" 527 295),
(300,cA "read_switch" 558 126 1 297 561),
(301,fo (top 46) "read_switch" "switchkinds.texts" 527 300),
(305,cA "is_label" 570 135 1 302 573),
(306,fo (top 50) "is_label" "switchkinds.racks" 564 305),
(312,cB "check_label" 576 139 1 307 580),
(313,fo (top 51) "check_label" "switchkinds.racks" 564 312),
(319,cB "joined" 583 142 3 314 589),
(320,fo (top 52) "joined" "switchkinds.racks" 564 319),
(333,co #[.str "__init__" 604,.str "Rack.__init__" 605,.str "/claim/cut.py" 606,.int 152 0,.int 1 0,.int 0 0,.int 0 0,.int 3 0,.ref 328,.bool qz,.int 181 0,.ref 329,.none,.ref 330,.ref 331,.ref 332,.int 608 0,.int 152 0,.str "/claim/cut.py" 609]),
(334,fm (met 53 0) "__init__" "Rack.__init__" "switchkinds.racks" 564 333),
(340,co #[.str "set_to" 611,.str "Rack.set_to" 612,.str "/claim/cut.py" 613,.int 157 0,.int 3 0,.int 0 0,.int 0 0,.int 3 0,.ref 335,.bool qz,.int 181 0,.ref 336,.none,.ref 337,.ref 338,.ref 339,.int 617 0,.int 157 0,.str "/claim/cut.py" 618]),
(341,fm (met 53 1) "set_to" "Rack.set_to" "switchkinds.racks" 564 340),
(347,co #[.str "do" 620,.str "Rack.do" 621,.str "/claim/cut.py" 622,.int 163 0,.int 4 0,.int 0 0,.int 0 0,.int 3 0,.ref 342,.bool qz,.int 181 0,.ref 343,.none,.ref 344,.ref 345,.ref 346,.int 627 0,.int 163 0,.str "/claim/cut.py" 628]),
(348,fm (met 53 2) "do" "Rack.do" "switchkinds.racks" 564 347),
(354,co #[.str "put" 630,.str "Rack.put" 631,.str "/claim/cut.py" 632,.int 168 0,.int 3 0,.int 0 0,.int 0 0,.int 3 0,.ref 349,.bool qz,.int 181 0,.ref 350,.none,.ref 351,.ref 352,.ref 353,.int 637 0,.int 168 0,.str "/claim/cut.py" 638]),
(355,fm (met 53 3) "put" "Rack.put" "switchkinds.racks" 564 354),
(361,co #[.str "switch_of" 640,.str "Rack.switch_of" 641,.str "/claim/cut.py" 642,.int 175 0,.int 2 0,.int 0 0,.int 0 0,.int 3 0,.ref 356,.bool qz,.int 181 0,.ref 357,.none,.ref 358,.ref 359,.ref 360,.int 645 0,.int 175 0,.str "/claim/cut.py" 646]),
(362,fm (met 53 4) "switch_of" "Rack.switch_of" "switchkinds.racks" 564 361),
(368,co #[.str "take" 648,.str "Rack.take" 649,.str "/claim/cut.py" 650,.int 181 0,.int 2 0,.int 0 0,.int 0 0,.int 3 0,.ref 363,.bool qz,.int 181 0,.ref 364,.none,.ref 365,.ref 366,.ref 367,.int 653 0,.int 181 0,.str "/claim/cut.py" 654]),
(369,fm (met 53 5) "take" "Rack.take" "switchkinds.racks" 564 368),
(375,co #[.str "join" 656,.str "Rack.join" 657,.str "/claim/cut.py" 658,.int 184 0,.int 5 0,.int 0 0,.int 0 0,.int 3 0,.ref 370,.bool qz,.int 181 0,.ref 371,.none,.ref 372,.ref 373,.ref 374,.int 665 0,.int 184 0,.str "/claim/cut.py" 666]),
(376,fm (met 53 6) "join" "Rack.join" "switchkinds.racks" 564 375),
(382,co #[.str "turn" 668,.str "Rack.turn" 669,.str "/claim/cut.py" 670,.int 190 0,.int 2 0,.int 0 0,.int 0 0,.int 3 0,.ref 377,.bool qz,.int 181 0,.ref 378,.none,.ref 379,.ref 380,.ref 381,.int 674 0,.int 190 0,.str "/claim/cut.py" 675]),
(383,fm (met 53 7) "turn" "Rack.turn" "switchkinds.racks" 564 382),
(389,co #[.str "labels" 677,.str "Rack.labels" 678,.str "/claim/cut.py" 679,.int 195 0,.int 1 0,.int 0 0,.int 0 0,.int 3 0,.ref 384,.bool qz,.int 181 0,.ref 385,.none,.ref 386,.ref 387,.ref 388,.int 681 0,.int 195 0,.str "/claim/cut.py" 682]),
(390,fm (met 53 8) "labels" "Rack.labels" "switchkinds.racks" 564 389),
(394,co #[.str "like" 684,.str "Rack.like" 685,.str "/claim/cut.py" 686,.int 198 0,.int 2 0,.int 0 0,.int 0 0,.int 3 0,.ref 391,.bool qz,.int 181 0,.ref 392,.none,.none,.none,.ref 393,.int 687 0,.int 198 0,.str "/claim/cut.py" 688]),
(395,fm (met 53 9) "like" "Rack.like" "switchkinds.racks" 564 394),
(401,co #[.str "back" 690,.str "Rack.back" 691,.str "/claim/cut.py" 692,.int 202 0,.int 1 0,.int 0 0,.int 0 0,.int 3 0,.ref 396,.bool qz,.int 181 0,.ref 397,.none,.ref 398,.ref 399,.ref 400,.int 694 0,.int 202 0,.str "/claim/cut.py" 695]),
(402,fm (met 53 10) "back" "Rack.back" "switchkinds.racks" 564 401),
(408,co #[.str "forth" 697,.str "Rack.forth" 698,.str "/claim/cut.py" 699,.int 205 0,.int 1 0,.int 0 0,.int 0 0,.int 3 0,.ref 403,.bool qz,.int 181 0,.ref 404,.none,.ref 405,.ref 406,.ref 407,.int 701 0,.int 205 0,.str "/claim/cut.py" 702]),
(409,fm (met 53 11) "forth" "Rack.forth" "switchkinds.racks" 564 408),
(415,co #[.str "counts" 704,.str "Rack.counts" 705,.str "/claim/cut.py" 706,.int 208 0,.int 1 0,.int 0 0,.int 0 0,.int 3 0,.ref 410,.bool qz,.int 181 0,.ref 411,.none,.ref 412,.ref 413,.ref 414,.int 708 0,.int 208 0,.str "/claim/cut.py" 709]),
(416,fm (met 53 12) "counts" "Rack.counts" "switchkinds.racks" 564 415),
(422,co #[.str "twin" 711,.str "Rack.twin" 712,.str "/claim/cut.py" 713,.int 211 0,.int 1 0,.int 0 0,.int 0 0,.int 3 0,.ref 417,.bool qz,.int 181 0,.ref 418,.none,.ref 419,.ref 420,.ref 421,.int 715 0,.int 211 0,.str "/claim/cut.py" 716]),
(423,fm (met 53 13) "twin" "Rack.twin" "switchkinds.racks" 564 422),
(425,{cls:=.type "dict",data:=.dict #[en P "__module__" 599 (.str "switchkinds.racks" 564),en P "__firstlineno__" 603 (.int 150 602),en P "__init__" 610 (.ref 334),en P "set_to" 619 (.ref 341),en P "do" 629 (.ref 348),en P "put" 639 (.ref 355),en P "switch_of" 647 (.ref 362),en P "take" 655 (.ref 369),en P "join" 667 (.ref 376),en P "turn" 676 (.ref 383),en P "labels" 683 (.ref 390),en P "like" 689 (.ref 395),en P "back" 696 (.ref 402),en P "forth" 703 (.ref 409),en P "counts" 710 (.ref 416),en P "twin" 717 (.ref 423),en P "__static_attributes__" 721 (.ref 424),en P "__dict__" 723 (.ref 427),en P "__weakref__" 725 (.ref 428),en P "__doc__" 726 .none] 4}),
(426,{cls:=.type "type",data:=.cls {name:="Rack",bases:=[.type "object"],mro:=[.ref 426,.type "object"],ns:=425,qualname:="Rack" },slots:= #[qw,qw,qv (.str "Rack" 592),qv (.str "Rack" 600),qv (.builtin "object.__new__"),qv (.bool qz)]}),
(427,{cls:=.type "getset_descriptor",data:=.fields #[.str "__dict__" 722,.ref 426,.builtin "function.__dict__",.builtin "function.__dict__#set"]}),
(428,{cls:=.type "getset_descriptor",data:=.fields #[.str "__weakref__" 724,.ref 426,.builtin "ExceptionGroup.__weakref__",.none]}),
(434,cA "rack_text" 729 213 1 431 732),
(435,fo (top 54) "rack_text" "switchkinds.racks" 564 434),
(441,cB "read_rack" 735 215 1 436 742),
(442,fo (top 55) "read_rack" "switchkinds.racks" 564 441),
(448,cB "check_listed" 747 227 1 443 751),
(449,fo (top 57) "check_listed" "switchkinds.kinds" 745 448),
(455,cB "check_one" 754 230 1 450 758),
(456,fo (top 58) "check_one" "switchkinds.kinds" 745 455),
(462,cB "check_two" 761 233 2 457 766),
(463,fo (top 59) "check_two" "switchkinds.kinds" 745 462),
(467,cA "all_led" 769 236 1 464 772),
(468,fo (top 60) "all_led" "switchkinds.kinds" 745 467),
(474,cB "least_form" 775 238 1 469 779),
(475,fo (top 61) "least_form" "switchkinds.kinds" 745 474),
(481,cB "are_kin" 782 241 2 476 787),
(482,fo (top 62) "are_kin" "switchkinds.kinds" 745 481),
(486,cA "odd_within" 792 245 2 483 795),
(487,fo (top 64) "odd_within" "switchkinds.products" 790 486),
(493,cB "products" 798 252 1 488 803),
(494,fo (top 65) "products" "switchkinds.products" 790 493),
(498,cA "degree" 806 255 1 495 809),
(499,fo (top 66) "degree" "switchkinds.products" 790 498),
(503,cA "summed" 814 258 1 500 817),
(504,fo (top 68) "summed" "switchkinds.sums" 812 503),
(508,cA "sums" 820 265 1 505 823),
(509,fo (top 69) "sums" "switchkinds.sums" 812 508),
(515,cB "by_weights" 826 268 1 510 833),
(516,fo (top 70) "by_weights" "switchkinds.sums" 812 515),
(517,{cls:=.type "tuple",data:=.seq #[.int 0 838,.int 1 839,.none] 0}),
(523,cB "is_part" 841 276 1 518 845),
(524,fo (top 73) "is_part" "switchkinds.terms" 836 523),
(528,cA "is_term" 848 278 2 525 851),
(529,fo (top 74) "is_term" "switchkinds.terms" 836 528),
(535,cB "check_term" 854 282 2 530 859),
(536,fo (top 75) "check_term" "switchkinds.terms" 836 535),
(540,cA "held_at" 862 285 1 537 865),
(541,fo (top 76) "held_at" "switchkinds.terms" 836 540),
(545,cA "all_terms" 868 295 1 542 871),
(546,fo (top 77) "all_terms" "switchkinds.terms" 836 545),
(550,cA "widened" 874 303 1 547 877),
(551,fo (top 78) "widened" "switchkinds.terms" 836 550),
(555,cA "primes" 880 305 1 552 883),
(556,fo (top 79) "primes" "switchkinds.terms" 836 555),
(562,cB "_law_cell" 888 313 2 557 893),
(563,fo (top 81) "_law_cell" "law_switchkinds_k78_whole_racks_and_function" 886 562),
(569,cB "_law_pick" 896 319 3 564 903),
(570,fo (top 82) "_law_pick" "law_switchkinds_k78_whole_racks_and_function" 886 569),
(574,cA "_law_switch" 906 322 3 571 909),
(575,fo (top 83) "_law_switch" "law_switchkinds_k78_whole_racks_and_function" 886 574),
(579,cA "_law_setting" 912 338 2 576 915),
(580,fo (top 84) "_law_setting" "law_switchkinds_k78_whole_racks_and_function" 886 579),
(584,cA "_law_odd" 918 340 2 581 921),
(585,fo (top 85) "_law_odd" "law_switchkinds_k78_whole_racks_and_function" 886 584),
(591,cB "_law_names" 924 342 2 586 929),
(592,fo (top 86) "_law_names" "law_switchkinds_k78_whole_racks_and_function" 886 591),
(596,cA "_law_orders" 932 344 1 593 935),
(597,fo (top 87) "_law_orders" "law_switchkinds_k78_whole_racks_and_function" 886 596),
(601,cA "_law_move" 938 351 3 598 941),
(602,fo (top 88) "_law_move" "law_switchkinds_k78_whole_racks_and_function" 886 601),
(606,cA "law" 944 355 1 603 947),
(607,fo (top 89) "law" "law_switchkinds_k78_whole_racks_and_function" 886 606)]
noncomputable def kas:List Addr:=[3,20,21,30,31,32,43,44,55,56,67,68,79,80,91,92,103,104,115,116,124,125,131,132,136,137,143,144,150,151,157,158,164,165,171,172,176,177,181,182,186,187,193,194,200,201,207,208,214,215,219,220,224,225,229,230,234,235,239,240,246,247,253,254,260,261,265,266,270,271,275,276,282,283,284,290,291,295,296,300,301,305,306,312,313,319,320,333,334,340,341,347,348,354,355,361,362,368,369,375,376,382,383,389,390,394,395,401,402,408,409,415,416,422,423,425,426,427,428,434,435,441,442,448,449,455,456,462,463,467,468,474,475,481,482,486,487,493,494,498,499,503,504,508,509,515,516,517,523,524,528,529,535,536,540,541,545,546,550,551,555,556,562,563,569,570,574,575,579,580,584,585,591,592,596,597,601,602,606,607]
def kq:Program:={dq with main:={dq.main with body:=[top 0,top 2,top 3,top 4,top 5,top 6,top 7,top 8,top 9,top 11,top 12,top 13,top 14,top 15,top 16,top 17,top 18,top 19,top 20,top 21,top 22,top 23,top 24,top 26,top 27,top 28,top 29,top 30,top 31,top 32,top 33,top 35,top 36,top 37,top 38,top 39,top 40,top 41,top 43,top 44,top 45,top 46,top 48,top 49,top 50,top 51,top 52,top 53,top 54,top 55,top 57,top 58,top 59,top 60,top 61,top 62,top 64,top 65,top 66,top 68,top 69,top 70,top 72,top 73,top 74,top 75,top 76,top 77,top 78,top 79,top 81,top 82,top 83,top 84,top 85,top 86,top 87,top 88,top 89]} }
def sd:dt.wellSaid=qz:=by kernel_rfl
open PySem.W PyProof.Rows
def Ol(w:World)(os:OsState):(SK.q1 dt.row.prog kq ["FIGURES"] 8806 (ip (gm dt.row)) kas (gq w "special-get-raises" q4) os).map (λy=>(y.1,y.2.2))=qv (qz,(kK (gq w "special-get-raises" q4).params).map λp=>qv p.2):=by
 have _:=SK.zzq;rw[PySem.W.Fast.te11324695928718235439]
 kernel_rfl
def Jo(w:World)(os:OsState):(SK.q2 dt.row.prog kq ["FIGURES"] 8806 (ip (gm dt.row)) (gq w "special-get-raises" q4) os).map (λy=>(y.1,y.2))=qv (qz,qz,qz,qz,qz):=by
 have _:=SK.tg2;rw[PySem.W.Fast.te16697093707657097016]
 kernel_rfl
def Jp(w:World)(os:OsState):(SK.q3 dt.row.prog kq ["FIGURES"] 8806 (gq w "special-get-raises" q4) os).map (λy=>(y.1,y.2.2.1,y.2.1,y.2.2.2.2.2.1,y.2.2.2.2.2.2.2))=qv (expectedOf kq,qz,bltViewBooted,plainGoodD kq ["FIGURES"],clsGoodW kq ["FIGURES"]):=by
 have _:=SK.tg3;rw[PySem.W.Fast.te11787831440603559935]
 kernel_rfl
def MF(w:World)(os:OsState):(SK.q3 dt.row.prog kq ["FIGURES"] 8806 (gq w "special-get-raises" q4) os).map (λy=>(y.2.2.2.1,y.2.2.2.2.1,y.2.2.2.2.2.2.1))=qv (pinGoodD (drecsOf kq),plainGoodE kq (looseW kq ["FIGURES"]),wideGood kq):=by
 have _:=SK.tg3;rw[PySem.W.Fast.te11787831440603559935]
 kernel_rfl
def lk0(w:World)(os:OsState):SK.q1 dt.row.prog kq ["FIGURES"] 8806 (ip (gm dt.row)) kas (gq w "special-get-raises" q4) os=qv (qz,kl kq ["FIGURES"],(kK (gq w "special-get-raises" q4).params).map λp=>qv p.2):=
 SK.q1_of (by have h:=congrArg (pz (·.1)) (Ol w os);rw[nc]at h;exact h) (by have h:=congrArg (pz (·.2)) (Ol w os);rw[nc]at h;exact h) (by have h:=congrArg (pz (·.1)) (Jo w os);rw[nc]at h;exact h) (by have h:=congrArg (pz (·.2.1)) (Jo w os);rw[nc]at h;exact h) (by have h:=congrArg (pz (·.2.2.1)) (Jo w os);rw[nc]at h;exact h) (by have h:=congrArg (pz (·.2.2.2.1)) (Jo w os);rw[nc]at h;exact h) (by have h:=congrArg (pz (·.2.2.2.2)) (Jo w os);rw[nc]at h;exact h) (by have h:=congrArg (pz (·.1)) (Jp w os);rw[nc]at h;exact h) (by have h:=congrArg (pz (·.2.2.1)) (Jp w os);rw[nc]at h;exact h) (by have h:=congrArg (pz (·.2.1)) (Jp w os);rw[nc]at h;exact h) (by have h:=congrArg (pz (·.1)) (MF w os);rw[nc]at h;exact h) (by have h:=congrArg (pz (·.2.1)) (MF w os);rw[nc]at h;exact h) (by have h:=congrArg (pz (·.2.2.2.1)) (Jp w os);rw[nc]at h;exact h) (by have h:=congrArg (pz (·.2.2)) (MF w os);rw[nc]at h;exact h) (by have h:=congrArg (pz (·.2.2.2.2)) (Jp w os);rw[nc]at h;exact h)
def Om(w:World)(os:OsState):(SK.q1 dt.row.prog kq ["FIGURES"] 8806 (ip (gm dt.row)) kas (gq w "special-get-raises" qz) os).map (λy=>(y.1,y.2.2))=qv (qz,(kK (gq w "special-get-raises" qz).params).map λp=>qv p.2):=by
 have _:=SK.zzq;rw[PySem.W.Fast.te11324695928718235439]
 kernel_rfl
def Jq(w:World)(os:OsState):(SK.q2 dt.row.prog kq ["FIGURES"] 8806 (ip (gm dt.row)) (gq w "special-get-raises" qz) os).map (λy=>(y.1,y.2))=qv (qz,qz,qz,qz,qz):=by
 have _:=SK.tg2;rw[PySem.W.Fast.te16697093707657097016]
 kernel_rfl
def Jr(w:World)(os:OsState):(SK.q3 dt.row.prog kq ["FIGURES"] 8806 (gq w "special-get-raises" qz) os).map (λy=>(y.1,y.2.2.1,y.2.1,y.2.2.2.2.2.1,y.2.2.2.2.2.2.2))=qv (expectedOf kq,qz,bltViewBooted,plainGoodD kq ["FIGURES"],clsGoodW kq ["FIGURES"]):=by
 have _:=SK.tg3;rw[PySem.W.Fast.te11787831440603559935]
 kernel_rfl
def MG(w:World)(os:OsState):(SK.q3 dt.row.prog kq ["FIGURES"] 8806 (gq w "special-get-raises" qz) os).map (λy=>(y.2.2.2.1,y.2.2.2.2.1,y.2.2.2.2.2.2.1))=qv (pinGoodD (drecsOf kq),plainGoodE kq (looseW kq ["FIGURES"]),wideGood kq):=by
 have _:=SK.tg3;rw[PySem.W.Fast.te11787831440603559935]
 kernel_rfl
def lk1(w:World)(os:OsState):SK.q1 dt.row.prog kq ["FIGURES"] 8806 (ip (gm dt.row)) kas (gq w "special-get-raises" qz) os=qv (qz,kl kq ["FIGURES"],(kK (gq w "special-get-raises" qz).params).map λp=>qv p.2):=
 SK.q1_of (by have h:=congrArg (pz (·.1)) (Om w os);rw[nc]at h;exact h) (by have h:=congrArg (pz (·.2)) (Om w os);rw[nc]at h;exact h) (by have h:=congrArg (pz (·.1)) (Jq w os);rw[nc]at h;exact h) (by have h:=congrArg (pz (·.2.1)) (Jq w os);rw[nc]at h;exact h) (by have h:=congrArg (pz (·.2.2.1)) (Jq w os);rw[nc]at h;exact h) (by have h:=congrArg (pz (·.2.2.2.1)) (Jq w os);rw[nc]at h;exact h) (by have h:=congrArg (pz (·.2.2.2.2)) (Jq w os);rw[nc]at h;exact h) (by have h:=congrArg (pz (·.1)) (Jr w os);rw[nc]at h;exact h) (by have h:=congrArg (pz (·.2.2.1)) (Jr w os);rw[nc]at h;exact h) (by have h:=congrArg (pz (·.2.1)) (Jr w os);rw[nc]at h;exact h) (by have h:=congrArg (pz (·.1)) (MG w os);rw[nc]at h;exact h) (by have h:=congrArg (pz (·.2.1)) (MG w os);rw[nc]at h;exact h) (by have h:=congrArg (pz (·.2.2.2.1)) (Jr w os);rw[nc]at h;exact h) (by have h:=congrArg (pz (·.2.2)) (MG w os);rw[nc]at h;exact h) (by have h:=congrArg (pz (·.2.2.2.2)) (Jr w os);rw[nc]at h;exact h)
def lk(w:World)(os:OsState):SK.q1 dt.row.prog kq ["FIGURES"] 8806 (ip (gm dt.row)) kas w os=qv (qz,kl kq ["FIGURES"],(kK w.params).map λp=>qv p.2):=by
 have e:=PySem.World.withFollow_self w "special-get-raises"
 cases a:w.params.followText "special-get-raises"<;>rw[a]at e
 ·have h:=lk0 w os
  rwa [e]at h
 ·have h:=lk1 w os
  rwa [e]at h
def left:PySem.W.LeftO dt.row.prog kq ["FIGURES"] (λs=>PySem.W.xlAt kq [] s&&PySem.W.recOk (ip (gm dt.row)) s) (oh.obs (nr kK kas (λ_=>by kernel_rfl))) (oh.val (nr kK kas (λ_=>by kernel_rfl))) 8806:=SK.left_tree (by kernel_rfl) (by kernel_rfl) (λ_=>by kernel_rfl) lk
end SK.k78
namespace L2
open PySem PySem.Spec PyProof.Rows
abbrev Key:=Sum Int Str
noncomputable def xU:Key->Value->Bool
 |.inl k,v=>Value.isInt k v
 |.inr x,v=>Value.isStrOf x v
noncomputable def OO(w:World):Key->Int
 |.inl k=>hashInt k
 |.inr x=>hashStr w x
def bZ: ∀{k:Key} {v:Value},xU k v=qz->(∃i t,k=qr i/\v=qh i t)\/(∃x t,k=qt x/\v=qi x t)
 |.inl i,v,h=>by
  obtain⟨t,e⟩:=Value.isInt_shape (k:=i) (v:=v) h;exact .inl ⟨i,t,rfl,e⟩
 |.inr x,v,h=>by
  obtain⟨t,e⟩:=Value.isStrOf_shape (x:=x) (v:=v) h;exact .inr ⟨x,t,rfl,e⟩
def zM(i:Int)(t:Tok):xU (.inl i) (.int i t)=qz:=by simp[xU,Value.isInt]
def zN(x:Str)(t:Tok):xU (.inr x) (.str x t)=qz:=by simp[xU,Value.isStrOf]
def Js(a b:Int):decide ((qr a:Key)=qr b)=(a==b):=by
 by_cases e:a=b
 ·subst e;simp
 ·have h: ¬(qr a:Key)=qr b:=λq=>e (qr.inj q)
  rw[decide_eq_false h];exact(beq_eq_false_iff_ne.mpr e).symm
def Jt(a b:Str):decide ((qt a:Key)=qt b)=decide (a=b):=by
 by_cases e:a=b
 ·subst e;simp
 ·have h: ¬(qt a:Key)=qt b:=λq=>e (qt.inj q)
  rw[decide_eq_false h,decide_eq_false e]
def Ju(a:Int)(b:Str):decide ((qr a:Key)=qt b)=q4:=decide_eq_false (λq=>nomatch q)
def Jv(a:Str)(b:Int):decide ((qt a:Key)=qr b)=q4:=decide_eq_false (λq=>nomatch q)
def cP(prog:Program)(w:World):PySem.KeyKind prog w Key where
 is:=xU
 hash:=OO w
 inj:=λv a b ha hb=>by
  rcases bZ ha with ⟨i,t,rfl,rfl⟩|⟨x,t,rfl,rfl⟩
  ·rcases bZ hb with ⟨j,u,rfl,e⟩|⟨y,u,rfl,e⟩
   ·injection e with e1 _;rw[e1]
   ·exact nomatch e
  ·rcases bZ hb with ⟨j,u,rfl,e⟩|⟨y,u,rfl,e⟩
   ·exact nomatch e
   ·injection e with e1 _;rw[e1]
 byValue:=λk v h=>by
  rcases bZ h with ⟨i,t,rfl,rfl⟩|⟨x,t,rfl,rfl⟩<;>rfl
 pyHash:=λhv h=>by
  rcases bZ hv with ⟨i,t,rfl,rfl⟩|⟨x,t,rfl,rfl⟩
  ·exact wpAny_pyHash_int h
  ·exact wpAny_pyHash_str h
 eqBool:=λhu hv h=>by
  rcases bZ hu with ⟨i,t,rfl,rfl⟩|⟨x,t,rfl,rfl⟩
  ·rcases bZ hv with ⟨j,u,rfl,rfl⟩|⟨y,u,rfl,rfl⟩
   ·rw[Js]at h;exact wpAny_eqBool_int h
   ·rw[Ju]at h;exact SeqAt.EqAt.int_str i t y u _ _ _ _ h
  ·rcases bZ hv with ⟨j,u,rfl,rfl⟩|⟨y,u,rfl,rfl⟩
   ·rw[Jv]at h;exact SeqAt.EqAt.str_int x t j u _ _ _ _ h
   ·rw[Jt]at h;exact wpAny_eqBool_str h
 «strs»:=λk x t v h=>by
  rcases bZ h with ⟨i,u,rfl,e⟩|⟨y,u,rfl,e⟩
  ·exact nomatch e
  ·injection e with e1 _
   subst e1
   cases v<;>rfl
def tX(prog:Program)(w:World)(i:Int)(t:Tok):(cP prog w).is (.inl i) (.int i t)=qz:=zM i t
def tY(prog:Program)(w:World)(x:Str)(t:Tok):(cP prog w).is (.inr x) (.str x t)=qz:=zN x t
inductive V where
 |non|bl (b:Bool)|int (i:Int)|str (x:Str)|byt (b:Array UInt8)|flt (b:UInt64)|ref (a:Addr)|ty (n:String)
 deriving DecidableEq
def bG:V->Value->Prop
 |.non,u=>u=p3
 |.bl b,u=>u=p4 b
 |.int i,u=>∃t,u=qh i t
 |.str x,u=>∃t,u=qi x t
 |.byt b,u=>∃t,u=Value.bytes b t
 |.flt b,u=>∃t,u=Value.float b t
 |.ref a,u=>u=qj a
 |.ty n,u=>u=qa n
abbrev bQ:List V->List Value->Prop:=Paired bG
theorem bQ.length(r:bQ xs us):xs.length=us.length:=nu r
theorem bQ.get: ∀{xs:List V} {us:List Value} {i:Nat} {x:V},bQ xs us->xs[i]? =qv x->∃u,us[i]? =qv u/\bG x u
 |_,_,_,_,.nil,e=>by simp at e
 |_,_,0,_,.cons r _,e=>by simp at e;subst e;exact⟨_,rfl,r⟩
 |_,_,i+1,x,.cons _ t,e=>by
  obtain⟨u,a,b⟩:=bQ.get (i:=i) (x:=x) t (by simpa using e)
  exact⟨u,by simpa using a,b⟩
theorem bQ.set{x:V}{u:Value}(r:bG x u): ∀{xs:List V} {us:List Value} (i:Nat),bQ xs us->bQ (xs.set i x) (us.set i u)
 |_,_,_,.nil=>.nil
 |_,_,0,.cons _ t=>.cons r t
 |_,_,i+1,.cons q t=>.cons q (bQ.set r i t)
theorem bQ.append: ∀{xs ys:List V} {us ws:List Value},bQ xs us->bQ ys ws->bQ (xs++ys) (us++ws)
 |_,_,_,_,.nil,s=>s
 |_,_,_,_,.cons r t,s=>.cons r (bQ.append t s)
theorem bQ.take: ∀{xs:List V} {us:List Value} (n:Nat),bQ xs us->bQ (xs.take n) (us.take n)
 |_,_,0,_=>.nil
 |_,_,_+1,.nil=>.nil
 |_,_,n+1,.cons r t=>.cons r (bQ.take n t)
theorem bQ.drop: ∀{xs:List V} {us:List Value} (n:Nat),bQ xs us->bQ (xs.drop n) (us.drop n)
 |_,_,0,r=>r
 |_,_,_+1,.nil=>.nil
 |_,_,n+1,.cons _ t=>bQ.drop n t
def p5:Option V->Option Value->Prop
 |some v,qv u=>bG v u
 |none,qw=>True
 |_,_=>False
def KV{κ:Type}:List (κ×V)->List (κ×Value)->Prop:=Paired λ(p:κ×V) (q:κ×Value)=>p.1=q.1/\bG p.2 q.2
noncomputable def kV:Key->V
 |.inl i=>.int i
 |.inr x=>.str x
inductive HO where
 /-- a list -/
 |lst (xs:List V)
 /-- a tuple (never changes) -/
 |tup (xs:List V)
 /-- a dict whose keys are ints and texts;one whose keys are tuples of ints and texts (the empty one is both) -/
 |dK (kvs:List (Key×V))|dT (kvs:List (List Key×V))
 /-- a set of ints:its members,its size -/
 |set (S:Int->Bool) (n:Nat)
 /-- an instance of the class at C,its dict at dx,its attributes -/
 |ins (C dx:Addr) (fs:List (Str×V))
 /-- the dict of the instance at x -/
 |own (x:Addr)
 /-- the dict of an exception -/
 |xd (fs:List (Str×V))
 /-- a bound method,f of x -/
 |met (f x:Addr)
 /-- a range object lo,lo+1,.. below hi -/
 |rng (lo hi:Int)
 /-- a thing that is known to the object (the script;a dict while a loop walks it):read,never written while it is so -/
 |frz (o:Obj) (u:HO)
 /-- a code object's table -/
 |tbl (ps:Array Value)
 /-- any other thing,by what is qz of its one object (a def of one's own:SetO a S n:=HO.ext λh=>..) -/
 |ext (φ:Heap->Prop)
abbrev Hp:=Addr->Option HO
noncomputable def upd(H:Hp)(a:Addr)(o:HO):Hp:=λb=>if b=a then qv o else H b
def aG:upd H a o a=qv o:=by unfold upd;rw[if_pos rfl]
def aD(h:b≠a):upd H a o b=H b:=by unfold upd;rw[if_neg h]
def MH{H:Hp}(h:H a=qv o)(h':H b=qv u)(d:o≠u):a≠b:=by
 intro e;subst e;rw[h]at h';exact d (lz h')
def aY{H:Hp}(h:H a=qv o)(h':H b=qw):a≠b:=by
 intro e;subst e;rw[h]at h';cases h'
def Jw(h:Heap)(a:Addr):Prop:= ∃o,h.get? a=qv o/\o.dict=qw
section
variable (P:Program) (w:World)
def ObjOk(H:Hp)(h:Heap)(a:Addr):HO->Prop
 |.lst xs=>xs.length<=sizeLine/\∃(its:List Value) (n:Nat),bQ xs its/\h.get? a=qv {cls:=.type "list",data:=.seq its.toArray n}
 |.tup xs=>xs.length<=sizeLine/\∃its:List Value,bQ xs its/\IsTup h a its.toArray/\Jw h a
 |.dK kvs=>kvs.length<=sizeLine/\(a==sysModules)=q4/\∃vs,KV kvs vs/\h.DictOf (cP P w) a vs
 |.dT kvs=>kvs.length<=sizeLine/\(a==sysModules)=q4/\∃xs:List (List Key×Addr×Value),
   Paired (λ(p:List Key×V) (q:List Key×Addr×Value)=>p.1=q.1/\H q.2.1=qv (.tup (p.1.map kV))/\bG p.2 q.2.2) kvs xs/\
   ∃o es ep,h.get? a=qv o/\o.ExactDict/\o.data= .dict es ep/\es.toList=xs.map (entryOfKey (tupleKind (cP P w)))/\(xs.map (·.1)).Nodup
 |.set S n=>h.SetOf (intKind P w) a S n
 |.ins C dx fs=>H dx=qv (.own a)/\fs.length<=1000/\dx≠a/\h.get? a=qv (l0 C dx)/\
   ∃mA,h.Ns1 dx mA/\(∀f,p5 (fs.lookup f) (mA f))/\oj mA (fs.map (·.1))
 |.own _=>∃o,h.get? a=qv o
 |.xd fs=>∃mA,h.Ns1 a mA/\∀f,p5 (fs.lookup f) (mA f)
 |.rng lo hi=>∃t u v,h.get? a=qv {cls:=.type "range",data:=.fields #[.int lo t,.int hi u,.int 1 v]}
 |.frz o u=>h.get? a=qv o/\ObjOk H h a u
 |.tbl ps=>h.get? a=qv {cls:=.none,data:=.fields ps}
 |.met f x=>h.get? a=qv (jo (.ref f) (.ref x))
 |.ext φ=>φ h/\(∃o,h.get? a=qv o)/\∀h1 h2:Heap,φ h1->(∀o,h1.get? a=qv o->h2.get? a=qv o)->φ h2
def HOk(H:Hp)(h:Heap):Prop:= ∀a o,H a=qv o->ObjOk P w H h a o
end
section
variable{a:Addr}
theorem ObjOk.lt(x:ObjOk P w H h a o):a<h.objs.size:=by
 cases o with
 |lst c=>obtain⟨_,_,_,_,e⟩:=x;exact ah e
 |tup c=>obtain⟨_,_,_,p,_⟩:=x;exact p.lt
 |dK b=>obtain⟨_,_,_,_,o,_,_,e,_⟩:=x;exact ah e
 |dT b=>obtain⟨_,_,_,_,o,_,_,e,_⟩:=x;exact ah e
 |set S n=>obtain⟨o,_,_,_,e,_⟩:=x;exact ah e
 |ins C g fs=>obtain⟨_,_,_,e,_⟩:=x;exact ah e
 |own y=>obtain⟨_,e⟩:=x;exact ah e
 |xd fs=>obtain⟨_,⟨_,_,_,e,_⟩,_⟩:=x;exact ah e
 |rng i d=>obtain⟨_,_,_,e⟩:=x;exact ah e
 |frz j u=>obtain⟨e,_⟩:=x;exact ah e
 |tbl m=>exact ah (show h.get? a=qv _ from x)
 |met f y=>exact ah (show h.get? a=qv _ from x)
 |ext l=>obtain⟨_,⟨_,e⟩,_⟩:=x;exact ah e
theorem Paired.mapP{α β:Type}{F G:α->β->Prop}: ∀{l₁:List α} {l₂:List β},Paired F l₁ l₂->(∀a b,F a b->G a b)->Paired G l₁ l₂
 |_,_,.nil,_=>.nil
 |_,_,.cons r t,f=>.cons (f _ _ r) (Paired.mapP t f)
def ObjOk.stay(x:ObjOk P w H h a o)(k: ∀b u,(b=a\/H b=qv (.own a))->h.get? b=qv u->h'.get? b=qv u)(ho: ∀b,H b=qv (.own a)->H' b=qv (.own a))(ht: ∀b xs,H b=qv (.tup xs)->H' b=qv (.tup xs)):ObjOk P w H' h' a o:=by
 induction o with
 |lst xs=>obtain⟨z,j,n,r,e⟩:=x;exact⟨z,j,n,r,k _ _ (.inl rfl) e⟩
 |tup xs=>obtain⟨z,j,r,⟨g,e,c⟩,l,I,d⟩:=x;exact⟨z,j,r,⟨g,k _ _ (.inl rfl) e,c⟩,l,k _ _ (.inl rfl) I,d⟩
 |dK s=>obtain⟨z,y,G,r,g,es,i,e,c⟩:=x;exact⟨z,y,G,r,g,es,i,k _ _ (.inl rfl) e,c⟩
 |dT s=>
  obtain⟨z,y,xs,r,g,es,i,e,c⟩:=x;exact⟨z,y,xs,Paired.mapP r λp q z=>⟨z.1,ht _ _ z.2.1,z.2.2⟩,g,es,i,k _ _ (.inl rfl) e,c⟩
 |set S n=>obtain⟨g,es,i,t,e,c⟩:=x;exact⟨g,es,i,t,k _ _ (.inl rfl) e,c⟩
 |ins C L fs=>
  obtain⟨d,z,J,e,m,⟨l,es,i,B,c⟩,r⟩:=x;exact⟨ho _ d,z,J,k _ _ (.inl rfl) e,m,⟨l,es,i,k _ _ (.inr d) B,c⟩,r⟩
 |own y=>obtain⟨g,e⟩:=x;exact⟨g,k _ _ (.inl rfl) e⟩
 |xd fs=>obtain⟨m,⟨l,es,i,e,c⟩,r⟩:=x;exact⟨m,⟨l,es,i,k _ _ (.inl rfl) e,c⟩,r⟩
 |rng M K=>obtain⟨t,u,v,e⟩:=x;exact⟨t,u,v,k _ _ (.inl rfl) e⟩
 |frz g u E=>obtain⟨e,q⟩:=x;exact⟨k _ _ (.inl rfl) e,E q⟩
 |tbl A=>
  have e:h.get? a=qv {cls:=.none,data:=.fields A}:=x
  show h'.get? a=qv {cls:=.none,data:=.fields A};exact k a _ (.inl rfl) e
 |met f y=>
  have e:h.get? a=qv (jo (.ref f) (.ref y)):=x
  show h'.get? a=qv (jo (.ref f) (.ref y));exact k a _ (.inl rfl) e
 |ext N=>obtain⟨p,⟨o,e⟩,st⟩:=x;exact⟨st _ _ p λo q=>k _ _ (.inl rfl) q,⟨o,k _ _ (.inl rfl) e⟩,st⟩
theorem HOk.lt(x:HOk P w H h)(e:H a=qv o):a<h.objs.size:=(x a o e).lt
def HOk.fresh(x:HOk P w H h)(e:h.objs.size<=a):H a=qw:=by
 cases q:H a with
 |none=>rfl
 |some u=>exact absurd (bh (x.lt q) e) (nv _)
def HOk.kept(x:HOk P w H h)(k: ∀b u,h.get? b=qv u->h'.get? b=qv u):HOk P w H h':=λa o e=>
 (x a o e).stay (λb u _ q=>k b u q) (λ_ q=>q) λ_ _ q=>q
def HOk.laid(x:HOk P w H h)(k: ∀b u,h.get? b=qv u->h'.get? b=qv u)(hp:h.objs.size<=a)(new:ObjOk P w (upd H a o) h' a o):HOk P w (upd H a o) h':=λb u e=>by
 have d:=x.fresh hp
 by_cases f:b=a
 ·subst f;rw[aG]at e;cases e;exact new
 ·rw[aD f]at e;exact(x b u e).stay (λc v _ q=>k c v q) (λc q=>by rw[aD (aY q d)];exact q) λc g q=>by rw[aD (aY q d)];exact q
end
def Rd(H:Hp)(a:Addr)(u:HO):Prop:=H a=qv u\/∃o,H a=qv (.frz o u)
def Rd.ok(r:Rd H a u)(x:HOk P w H h):ObjOk P w H h a u:=by
 rcases r with r|⟨o,r⟩
 ·exact x a u r
 ·obtain⟨_,q⟩:=x a _ r;exact q
def Mut:Option HO->Prop
 |some (.lst _)=>True
 |some (.dK _)=>True
 |some (.dT _)=>True
 |some (.set _ _)=>True
 |some (.ins _ _ _)=>True
 |some (.ext _)=>True
 |_=>False
def HOk.write(ok:HOk P w H h)(mu:Mut (H x))(he:e=x\/H e=qv (.own x))(k: ∀b u,b≠e->h.get? b=qv u->h'.get? b=qv u)(heo: ∃u,h'.get? e=qv u)(new:ObjOk P w (upd H x o') h' x o'):HOk P w (upd H x o') h':=λb u q=>by
 have d: ∀c y,H c=qv (.own y)->c≠x:=λc y r z=>by subst z;rw[r]at mu;exact mu
 have f: ∀c i,H c=qv (.tup i)->c≠x:=λc i r z=>by subst z;rw[r]at mu;exact mu
 by_cases j:b=x
 ·subst j;rw[aG]at q;cases q;exact new
 ·rw[aD j]at q
  by_cases a:b=e
  ·have l:H b=qv (.own x):=by
    rcases he with z|z
    ·exact absurd (a.trans z) j
    ·rw[a];exact z
   rw[q]at l;cases l;obtain⟨v,m⟩:=heo;exact⟨v,by rw[a];exact m⟩
  ·refine(ok b u q).stay (λc v g r=>k c v ?_ r) (λc r=>by rw[aD (d c b r)];exact r) λc i r=>by rw[aD (f c i r)];exact r
   rcases g with rfl|g
   ·exact a
   ·rintro rfl;rcases he with z|z
    ·exact d c b g z
    ·rw[g]at z;cases z;exact j rfl
structure Un(fs ex:List Addr)(H H':Hp)(h h':Heap):Prop where
 keep: ∀b o,h.get? b=qv o->H b=qw->b∉fs->b∉ex->h'.get? b=qv o
 slot: ∀b o,h.get? b=qv o->H b=qw->b∈fs->b∉ex->∃sl,h'.get? b=qv {o with slots:=sl}
 free: ∀b o,h.get? b=qv o->H b=qw->b∉ex->H' b=qw
 there: ∀b o,h.get? b=qv o->b∉ex->∃o',h'.get? b=qv o'
 tups: ∀b xs,H b=qv (.tup xs)->H' b=qv (.tup xs)
 frzs: ∀b o u,H b=qv (.frz o u)->H' b=qv (.frz o u)
 tbls: ∀b ps,H b=qv (.tbl ps)->∃more,H' b=qv (.tbl (ps++more))
section
variable{h:Heap}{a:Addr}
def Un.any(u:Un fs ex H H1 h h1)(q:h.get? b=qv ob)(n:H b=qw)(hx:b∉ex): ∃sl,h1.get? b=qv {ob with slots:=sl}:=by
 by_cases a:b∈fs
 ·exact u.slot b ob q n a hx
 ·exact⟨ob.slots,u.keep b ob q n a hx⟩
def Un.kept(k: ∀b u,h.get? b=qv u->h'.get? b=qv u):Un fs ex H H h h':=
 ⟨λb a q _ _ _=>k b a q,λb a q _ _ _=>⟨a.slots,k b a q⟩,λ_ _ _ n _=>n,λb a q _=>⟨a,k b a q⟩,λ_ _ q=>q,λ_ _ _ q=>q,λ_ c q=>⟨#[],by rw[q];simp⟩⟩
def Un.refl:Un fs ex H H h h:=Un.kept λ_ _ q=>q
def Un.laid(k: ∀b u,h.get? b=qv u->h'.get? b=qv u)(hp:h.objs.size<=a)(hn:H a=qw):Un fs ex H (upd H a o) h h' where
 keep:=λb u q _ _ _=>k b u q
 slot:=λb u q _ _ _=>⟨u.slots,k b u q⟩
 free:=λb u q n _=>by rw[aD (bj (bh (ah q) hp))];exact n
 there:=λb u q _=>⟨u,k b u q⟩
 tups:=λb c q=>by rw[aD (aY q hn)];exact q
 frzs:=λb u c q=>by rw[aD (aY q hn)];exact q
 tbls:=λb d q=>⟨#[],by rw[aD (aY q hn),q];simp⟩
def Un.write(mu:Mut (H x))(he:e=x\/H e=qv (.own x))(k: ∀b u,b≠e->h.get? b=qv u->h'.get? b=qv u)(heo: ∃u,h'.get? e=qv u):Un fs ex H (upd H x o) h h':=by
 have f: ∀b,H b=qw->b≠x:=λb n z=>by subst z;rw[n]at mu;exact mu
 have d: ∀b,H b=qw->b≠e:=λb n z=>by
  subst z;rcases he with r|r
  ·exact f b n r
  ·rw[n]at r;cases r
 have c: ∀b u,H b=qv u->¬Mut (qv u)->b≠x:=λb u q nm z=>by subst z;rw[q]at mu;exact nm mu
 refine⟨λb u q n _ _=>k b u (d b n) q,λb u q n _ _=>⟨u.slots,k b u (d b n) q⟩,λb u q n _=>by rw[aD (f b n)];exact n,λb u q _=>?_,
  λb g q=>by rw[aD (c b _ q λz=>z)];exact q,λb u g q=>by rw[aD (c b _ q λz=>z)];exact q,λb i q=>⟨#[],by rw[aD (c b _ q λz=>z),q];simp⟩⟩
 by_cases a:b=e
 ·subst a;exact heo
 ·exact⟨u,k b u a q⟩
end
noncomputable def trk(h:Heap)(H:Hp):List Addr:=(pw h.objs.size).filter λa=>(H a).isSome
def CH(h:Heap)(H:Hp):Heap:=PySem.W.hideAll h (trk h H)
def zO(h:Heap)(H:Hp):(CH h H).objs.size=h.objs.size:=PySem.W.hideAll_size _ _
def CI(e:h.get? b=qv o)(n:H b=qw):(CH h H).get? b=qv o:=
 PySem.W.hideAll_get _ e λa=>by
  have q:(H b).isSome=qz:=(l8.mp a).2
  rw[n]at q;simp at q
def FI(e:(CH h H).get? b=qv o):h.get? b=qv o/\H b=qw:=by
 have a:h.get? b=qv o:=PySem.W.of_hideAll (trk h H) e
 refine⟨a,?_⟩
 cases q:H b with
 |none=>rfl
 |some x=>
  have c:b∈trk h H:=l8.mpr ⟨zPd (ah a),by simp[q]⟩
  have z:(CH h H).get? b=qw:=PySem.W.hideAll_none (trk h H) c
  rw[z]at e;cases e
noncomputable def FJ(g h:Heap)(L:Addr):ci:=(pw h.objs.size).filterMap λa=>if a=L\/(g.get? a).isSome=qz then qw else(h.get? a).map λo=>(a,o)
def eU(g h:Heap)(L d:Addr):ci:=(FJ g h L).filter λp=>decide (p.1≠d)
structure Mod(K:og)(mg:Str->Option Value)(base:Heap):Prop where
 kin:K.In base
 glob:base.Ns mainGlobals mg
 blt: ∃mb,base.Ns builtinsNs mb/\∀x:Str,x≠"__name__"->mb x=bootBuiltins x
 nolimit:base.NoLimit
structure Cx where
 prog:Program
 w:World
 K:og
 mg:Str->Option Value
 base:Heap
 A:Around
 N:List Str
 s₀:Shared
 H₀:Hp
 env:Env
 outer:List Env
 stack:List Env
 ex:List Addr
 fn:Str->Bool
 calm:Bool
 pn:ci
 xe:Value->Shared->Prop
noncomputable def frs(l:List Env):List Addr:=l.filterMap (·.frame)
abbrev Cx.fs(X:Cx):List Addr:=frs X.outer
def Vis(sc:Scope)(x:Str):Prop:=sc.names.lookup x=qv .local\/sc.names.lookup x=qv .cell\/sc.names.lookup x=qv .free
def Loc(sc:Scope)(x:Str):Prop:=sc.names.lookup x=qv .local\/sc.names.lookup x=qv .cell
def OP(env:Env)(h:Heap)(m:Str->Option Value)(x:Str)(u:Value):Prop:=
 (env.kindOf x=qv .local/\m x=qv u)\/((env.kindOf x=qv .cell\/env.kindOf x=qv .free)/\∃c,env.cells.lookup x=qv c/\h.IsCell c (qv u))
structure Cx.Ok(X:Cx):Prop where
 mod:Mod X.K X.mg X.base
 kind:X.env.scope.kind= .function
 glob:X.env.globals=mainGlobals
 blt:X.env.builtins=builtinsNs
 above:X.s₀.heap.objs.size<=X.env.locals
 inj: ∀x y c,X.env.cells.lookup x=qv c->X.env.cells.lookup y=qv c->x=y
 has: ∀x,(X.env.kindOf x=qv .cell\/X.env.kindOf x=qv .free)->∃c,X.env.cells.lookup x=qv c
 cab: ∀x c,X.fn x=qz->X.env.cells.lookup x=qv c->X.s₀.heap.objs.size<=c
 hd:X.calm=qz->X.A.handled=qw
 frames:X.A.frames=qv X.stack
 stk:X.stack=X.outer\/(X.stack=X.env::X.outer/\X.env.frame=qv X.env.locals)
 exf: ∀b∈X.ex,b≠X.env.locals/\∀x c,X.env.cells.lookup x=qv c->c≠b
 bs: ∀b o,X.base.get? b=qv o->X.s₀.heap.get? b=qv o/\X.H₀ b=qw
 bsz:X.base.objs.size<=X.s₀.heap.objs.size
 noex: ∀b o,X.base.get? b=qv o->b∉X.ex
 exfs: ∀b∈X.ex,b∉X.fs
 funs:X.s₀.heap.FunFrames X.base X.outer
 frf: ∀b∈X.fs,X.H₀ b=qw
structure Inv(X:Cx)(cf:ci)(σ:List (Option V))(H:Hp)(s:Shared):Prop where
 ok:X.Ok
 os:s.os=X.s₀.os
 bare:AllBare s.gens
 base:Un X.fs X.ex X.H₀ H X.s₀.heap s.heap
 loc: ∃m,s.heap.Ns X.env.locals m/\∀(i:Nat) (x:Str) (v:V),X.N[i]? =qv x->σ[i]? =qv (qv v)->Vis X.env.scope x->∃u,bG v u/\OP X.env s.heap m x u
 cell: ∀x c,X.env.cells.lookup x=qv c->∃v,s.heap.IsCell c v
 free:H X.env.locals=qw
 freeC: ∀x c,X.env.cells.lookup x=qv c->H c=qw
 pin: ∀p∈X.pn++cf,s.heap.get? p.1=qv p.2/\H p.1=qw/\p.1≠X.env.locals/\p.1∉X.fs/\∀v,p.2.data≠ .cell v
 hok:HOk X.prog X.w H s.heap
 len:σ.length=X.N.length
section
variable{X:Cx}{cf:ci}{σ:List (Option V)}{H:Hp}{s:Shared}
def Cx.Ok.nofr(ok:X.Ok)(e:X.base.get? b=qv o):b∉X.fs:=λa=>by
 have:=(ok.funs.mem a).1
 rw[e]at this;cases this
theorem Inv.bs(I:Inv X cf σ H s): ∀b o,X.base.get? b=qv o->s.heap.get? b=qv o/\H b=qw:=λb o e=>
 ⟨I.base.keep b o (I.ok.bs b o e).1 (I.ok.bs b o e).2 (I.ok.nofr e) (I.ok.noex b o e),I.base.free b o (I.ok.bs b o e).1 (I.ok.bs b o e).2 (I.ok.noex b o e)⟩
def Inv.bk(I:Inv X cf σ H s): ∀b o,X.base.get? b=qv o->s.heap.get? b=qv o:=λb o e=>(I.bs b o e).1
theorem Inv.mod(I:Inv X cf σ H s):Mod X.K X.mg X.base:=I.ok.mod
def Inv.kIn(I:Inv X cf σ H s):X.K.In s.heap:=I.ok.mod.kin.keeps I.bk
theorem Inv.lt(I:Inv X cf σ H s):X.env.locals<s.heap.objs.size:=let ⟨_,hn,_⟩:=I.loc;hn.lt
def Inv.sz(I:Inv X cf σ H s):X.s₀.heap.objs.size<=s.heap.objs.size:=ol I.ok.above (om I.lt)
def Inv.nofs(I:Inv X cf σ H s){a:Addr}(h:s.heap.objs.size<=a):a∉X.fs:=λc=>by
 obtain⟨_,o,b,_⟩:=I.ok.funs.mem c;exact absurd (bh (ah b) (ol I.sz h)) (nv _)
def Inv.cne(I:Inv X cf σ H s): ∀x c,X.env.cells.lookup x=qv c->c≠X.env.locals:=λx c e z=>by
 obtain⟨v,o,d,f⟩:=I.cell x c e;obtain⟨m,⟨g,es,h,b,a,_⟩,_⟩:=I.loc;rw[z,b]at d;cases d;rw[a]at f;cases f
theorem Inv.funs(I:Inv X cf σ H s):s.heap.FunFrames X.base X.outer:=by
 have all: ∀(l:List Env),(∀b∈frs l,b∈X.fs)->X.s₀.heap.FunFrames X.base l->s.heap.FunFrames X.base l:=by
  intro l
  induction l with
  |nil=>intro _ _;trivial
  |cons m r h=>
   intro f g;obtain⟨hk,⟨L,o,d,n,p,j⟩,i⟩:=g;have a:L∈X.fs:=f L (by unfold frs;rw[ix,d];exact jc)
   obtain⟨q,e⟩:=I.base.slot L o p (I.ok.frf L a) a λz=>I.ok.exfs L z a
   exact⟨hk,⟨L,_,d,n,e,j⟩,h (λb c=>f b (by unfold frs;rw[ix,d];exact iq _ c)) i⟩
 exact all X.outer (λ_ c=>c) I.ok.funs
theorem Inv.stack(I:Inv X cf σ H s):s.heap.FunFrames X.base X.stack:=by
 rcases I.ok.stk with e|⟨e,hf⟩
 ·rw[e];exact I.funs
 ·rw[e];obtain⟨m,a,_⟩:=I.loc;refine .cons (by rw[I.ok.kind];decide) hf a ?_ I.funs
  exact Heap.get?_none_of_le (ol I.ok.bsz I.ok.above)
def Inv.stkSub(I:Inv X cf σ H s): ∀b∈frs X.stack,b∈X.env.locals::X.fs:=λb a=>by
 rcases I.ok.stk with e|⟨e,hf⟩
 ·rw[e]at a;exact iq _ a
 ·rw[e]at a;unfold frs at a;rw[ix,hf]at a;exact a
def Inv.stkFree(I:Inv X cf σ H s): ∀b∈frs X.stack,H b=qw:=λb a=>by
 rcases au.mp (I.stkSub b a)with e|a
 ·rw[e];exact I.free
 ·obtain⟨_,o,c,_⟩:=I.ok.funs.mem a;exact I.base.free b o c (I.ok.frf b a) λz=>I.ok.exfs b z a
def Inv.step{ch:List Addr}(I:Inv X cf σ H s)(hch: ∀b∈ch,(b∈X.ex\/X.s₀.heap.objs.size<=b)/\b≠X.env.locals/\(∀x c,X.env.cells.lookup x=qv c->c≠b)/\∀p∈X.pn++cf,p.1≠b)(keep: ∀b o,b≠X.env.locals->b∉X.fs->b∉ch->s.heap.get? b=qv o->H b=qw->h'.get? b=qv o)(slot: ∀b o,b≠X.env.locals->b∈X.fs->b∉ch->s.heap.get? b=qv o->H b=qw->∃sl,h'.get? b=qv {o with slots:=sl})(free: ∀b o,b∉ch->s.heap.get? b=qv o->H b=qw->H' b=qw)(there: ∀b o,b∉ch->s.heap.get? b=qv o->∃o',h'.get? b=qv o')(tups: ∀b xs,H b=qv (.tup xs)->H' b=qv (.tup xs))(frzs: ∀b o u,H b=qv (.frz o u)->H' b=qv (.frz o u))(tbls: ∀b ps,H b=qv (.tbl ps)->∃more,H' b=qv (.tbl (ps++more)))(ns: ∀m,s.heap.Ns X.env.locals m->h'.Ns X.env.locals m)(hok:HOk X.prog X.w H' h')(hg:AllBare g'):
  Inv X cf σ H' {s with heap:=h',gens:=g',drawn:=d',toks:=t'}:=by
 have A: ∀b o,X.s₀.heap.get? b=qv o->b≠X.env.locals:=λb o e=>bj (bh (ah e) I.ok.above)
 have j: ∀b o,X.s₀.heap.get? b=qv o->b∉X.ex->b∉ch:=λb o e a t=>by
  rcases(hch b t).1 with z|z
  ·exact a z
  ·exact absurd (bh (ah e) z) (nv _)
 have f: ∀x c,X.env.cells.lookup x=qv c->∀v,s.heap.IsCell c v->h'.IsCell c v:=λx c e v ⟨o,y,E⟩=>by
  have g:c∉ch:=λz=>(hch c z).2.2.1 x c e rfl
  by_cases G:c∈X.fs
  ·obtain⟨sl,q⟩:=slot c o (I.cne x c e) G g y (I.freeC x c e);exact⟨_,q,E⟩
  ·exact⟨o,keep c o (I.cne x c e) G g y (I.freeC x c e),E⟩
 refine⟨I.ok,I.os,hg,⟨λb o e n t a=>?_,λb o e n t a=>?_,λb o e n a=>?_,λb o e a=>?_,λb xs e=>tups b xs (I.base.tups b xs e),λb o xs e=>frzs b o xs (I.base.frzs b o xs e),λb ps e=>?_⟩,?_,λx c e=>?_,?_,λx c e=>?_,λp J=>?_,hok,I.len⟩
 ·exact keep b o (A b o e) t (j b o e a) (I.base.keep b o e n t a) (I.base.free b o e n a)
 ·obtain⟨sl,h⟩:=I.base.slot b o e n t a;obtain⟨C,B⟩:=slot b _ (A b o e) t (j b o e a) h (I.base.free b o e n a);exact⟨C,B⟩
 ·obtain⟨o',h⟩:=I.base.there b o e a;exact free b o' (j b o e a) h (I.base.free b o e n a)
 ·obtain⟨o',h⟩:=I.base.there b o e a;exact there b o' (j b o e a) h
 ·obtain⟨P,h⟩:=I.base.tbls b ps e;obtain⟨N,B⟩:=tbls b _ h;exact⟨P++N,by rw[B,Array.append_assoc]⟩
 ·obtain⟨m,O,M⟩:=I.loc;refine⟨m,ns m O,λi x v h B Q=>?_⟩
  obtain⟨u,r,l⟩:=M i x v h B Q;refine⟨u,r,?_⟩;rcases l with l|⟨k,c,e,z⟩
  ·exact .inl l
  ·exact .inr ⟨k,c,e,f x c e _ z⟩
 ·obtain⟨v,z⟩:=I.cell x c e;exact⟨v,f x c e v z⟩
 ·obtain⟨m,⟨o,_,_,y,_⟩,_⟩:=I.loc;exact free _ o (λz=>(hch _ z).2.1 rfl) y I.free
 ·obtain⟨v,o,y,E⟩:=I.cell x c e;exact free c o (λz=>(hch c z).2.2.1 x c e rfl) y (I.freeC x c e)
 ·obtain⟨e,n,K,L,d⟩:=I.pin p J;have g:p.1∉ch:=λz=>(hch p.1 z).2.2.2 p J rfl
  exact⟨keep p.1 p.2 K L g e n,free p.1 p.2 g e n,K,L,d⟩
def Inv.un(I:Inv X cf σ H s)(u:Un X.fs [] H H' s.heap h')(hok:HOk X.prog X.w H' h'):Inv X cf σ H' {s with heap:=h',toks:=t'}:=by
 obtain⟨m,⟨o,es,p,g,r⟩,_⟩:=id I.loc;obtain⟨q,h⟩:=u.any g I.free (by simp)
 exact I.step (g':=s.gens) (d':=s.drawn) (ch:=[]) (λ_ z=>nomatch z) (λb o _ d _ e n=>u.keep b o e n d (by simp)) (λb o _ d _ e n=>u.slot b o e n d (by simp)) (λb o _ e n=>u.free b o e n (by simp)) (λb o _ e=>u.there b o e (by simp)) u.tups u.frzs u.tbls (λl i=>by
  obtain⟨t,c,f,a,j⟩:=i;rw[g]at a;cases a;exact⟨_,c,f,h,j⟩) hok I.bare
def Inv.call(I:Inv X cf σ H s)(u:Un (frs X.stack) ch H H' s.heap h')(hok:HOk X.prog X.w H' h')(hg:AllBare g')(hch: ∀b∈ch,(b∈X.ex\/X.s₀.heap.objs.size<=b)/\b≠X.env.locals/\(∀x c,X.env.cells.lookup x=qv c->c≠b)/\∀p∈X.pn++cf,p.1≠b):
  Inv X cf σ H' {s with heap:=h',gens:=g',drawn:=d',toks:=t'}:=by
 obtain⟨m,⟨o,es,v,i,r⟩,_⟩:=id I.loc;obtain⟨y,g⟩:=u.any i I.free λz=>(hch _ z).2.1 rfl
 exact I.step (ch:=ch) hch (λb o g l a e n=>u.keep b o e n (λz=>(au.mp (I.stkSub b z)).elim g l) a) (λb o _ _ a e n=>u.any e n a) (λb o a e n=>u.free b o e n a) (λb o a e=>u.there b o e a) u.tups u.frzs u.tbls (λt j=>by
  obtain⟨A,f,h,d,q⟩:=j;rw[i]at d;cases d;exact⟨_,f,h,g,q⟩) hok hg
def Inv.turned(I:Inv X cf σ H s)(k: ∀b o,b≠it->s.heap.get? b=qv o->h'.get? b=qv o)(hn:H it=qw)(hL:it≠X.env.locals)(h1:it∈X.ex\/X.s₀.heap.objs.size<=it)(h2: ∀x c,X.env.cells.lookup x=qv c->c≠it)(h3: ∀p∈X.pn++cf,p.1≠it):Inv X cf σ H {s with heap:=h',toks:=t'}:=by
 have d: ∀b u,H b=qv u->b≠it:=λb u e z=>by rw[z,hn]at e;cases e
 refine I.step (g':=s.gens) (d':=s.drawn) (ch:=[it]) (λb h=>?_) (λb o _ _ a e _=>k b o (λz=>a (by simp[z])) e) (λb o _ _ a e _=>⟨o.slots,k b o (λz=>a (by simp[z])) e⟩) (λ_ _ _ _ n=>n)
  (λb o a e=>⟨o,k b o (λz=>a (by simp[z])) e⟩) (λ_ _ e=>e) (λ_ _ _ e=>e) (λb j e=>⟨#[],by rw[e];simp⟩) (λm g=>?_) (λb u e=>?_) I.bare
 ·have e:b=it:=by simpa using h
  subst e;exact⟨h1,hL,h2,h3⟩
 ·obtain⟨o,es,f,i,r⟩:=g;exact⟨o,es,f,k _ o (qu hL) i,r⟩
 ·refine(I.hok b u e).stay (λc v a q=>k c v ?_ q) (λ_ q=>q) λ_ _ q=>q
  rcases a with z|z
  ·rw[z];exact d b u e
  ·exact d c _ z
def Inv.tok(I:Inv X cf σ H s)(t:Nat):Inv X cf σ H {s with toks:=t}:=I.un (h':=s.heap) (t':=t) Un.refl I.hok
theorem Inv.kept(I:Inv X cf σ H s)(k: ∀b u,s.heap.get? b=qv u->h'.get? b=qv u):Inv X cf σ H {s with heap:=h',toks:=t'}:=I.un (Un.kept k) (I.hok.kept k)
theorem Inv.laid{a:Addr}(I:Inv X cf σ H s)(k: ∀b u,s.heap.get? b=qv u->h'.get? b=qv u)(hp:s.heap.objs.size<=a)(new:ObjOk X.prog X.w (upd H a o) h' a o):
  Inv X cf σ (upd H a o) {s with heap:=h',toks:=t'}:=I.un (Un.laid k hp (I.hok.fresh hp)) (I.hok.laid k hp new)
theorem Inv.write(I:Inv X cf σ H s)(mu:Mut (H x))(he:e=x\/H e=qv (.own x))(k: ∀b u,b≠e->s.heap.get? b=qv u->h'.get? b=qv u)(heo: ∃u,h'.get? e=qv u)(new:ObjOk X.prog X.w (upd H x o) h' x o):Inv X cf σ (upd H x o) {s with heap:=h',toks:=t'}:=I.un (Un.write mu he k heo) (I.hok.write mu he k heo new)
def Inv.pins_of(I:Inv X cf σ H s)(h: ∀p∈pins',s.heap.get? p.1=qv p.2/\H p.1=qw/\p.1≠X.env.locals/\p.1∉X.fs/\∀v,p.2.data≠ .cell v):Inv X pins' σ H s:=
 ⟨I.ok,I.os,I.bare,I.base,I.loc,I.cell,I.free,I.freeC,λp a=>(md.mp a).elim (λz=>I.pin p (List.mem_append_left _ z)) (h p),I.hok,I.len⟩
def vE{N:List Str}(hN:N.Nodup){i j:Nat}(a:N[i]? =qv x)(b:N[j]? =qv x):i=j:=by
 obtain⟨e,c⟩:=ax.mp a;obtain⟨f,d⟩:=ax.mp b;exact(List.getElem_inj hN).mp (c.trans d.symm)
def p9{M:Model}{A:Around}{E:cg}{i:Nat}{x:Str}{v:V}{u:Value}{Q:Unit->Shared->Prop}(I:Inv X cf σ H s)(hN:X.N.Nodup)(hi:X.N[i]? =qv x)(hx:Loc X.env.scope x)(r:bG v u)
  (h: ∀s',Inv X cf (σ.set i (qv v)) H s'->(∃a,oo a s.heap s'.heap/\(a=X.env.locals\/X.env.cells.lookup x=qv a))->Q () s') (hf:X.fn x=qz\/X.env.scope.names.lookup x=qv .local:=by first|exact .inl rfl|exact .inr rfl|assumption):wpAny M A (storeName X.env x u) Q E s:=by
 obtain⟨m,hn,hl⟩:=id I.loc
 have W:(X.env.scope.kind== .class||(X.env.scope.kind== .module&&X.env.locals != X.env.globals))=q4:=by rw[I.ok.kind];rfl
 have G:i<σ.length:=by rw[I.len];exact(ax.mp hi).1
 have cne:=I.cne
 have l: ∀{a:Addr} {O:Heap},(∃o,s.heap.get? a=qv o/\H a=qw)->oo a s.heap O->HOk X.prog X.w H O:=λ{a O} ha f b ob e=>by
  obtain⟨_,_,B⟩:=ha;refine(I.hok b ob e).stay (λc w' t q=>(f.2 c ?_).trans q) (λ_ q=>q) λ_ _ q=>q
  rintro rfl;rcases t with rfl|t
  ·rw[B]at e;cases e
  ·rw[B]at t;cases t
 rcases hx with hk|hk
 ·refine wpAny_storeName_local hk hn (λO ac f=>?_) W
  obtain⟨oL,_,_,ab,_⟩:=id hn;refine h _ ⟨I.ok,I.os,I.bare,⟨λb o e n J hx=>?_,λb o e n J hx=>?_,I.base.free,λb o e hx=>?_,I.base.tups,I.base.frzs,I.base.tbls⟩,⟨_,ac,λj y v' g C e3=>?_⟩,λy c e=>?_,I.free,I.freeC,λp hp=>?_,l ⟨oL,ab,I.free⟩ f,by simpa using I.len⟩ ⟨_,f,.inl rfl⟩
  ·exact(f.2 b (bj (bh (ah e) I.ok.above))).trans (I.base.keep b o e n J hx)
  ·obtain⟨sl,g⟩:=I.base.slot b o e n J hx;exact⟨sl,(f.2 b (bj (bh (ah e) I.ok.above))).trans g⟩
  ·obtain⟨o',g⟩:=I.base.there b o e hx;exact⟨o',(f.2 b (bj (bh (ah e) I.ok.above))).trans g⟩
  ·by_cases L:j=i
   ·subst L;rw[hi]at g;cases g;rw[bn G]at C;cases C;exact⟨u,r,.inl ⟨hk,by simp⟩⟩
   ·rw[ba (qu L)]at C;obtain⟨u',r',q⟩:=hl j y v' g C e3;refine⟨u',r',?_⟩;rcases q with ⟨k,e⟩|⟨k,c,e,z⟩
    ·refine .inl ⟨k,?_⟩
     have:y≠x:=λe=>L (vE hN g (e▸hi))
     simp[this,e]
    ·exact .inr ⟨k,c,e,z.sameBut f (cne y c e)⟩
  ·obtain⟨w',z⟩:=I.cell y c e;exact⟨w',z.sameBut f (cne y c e)⟩
  ·obtain⟨e,n,Z,nf,d⟩:=I.pin p hp;exact⟨(f.2 p.1 Z).trans e,n,Z,nf,d⟩
 ·have K:X.fn x=qz:=by
   rcases hf with z|z
   ·exact z
   ·rw[z]at hk;cases hk
  obtain⟨c,t⟩:=I.ok.has x (.inl hk);obtain⟨w',z⟩:=I.cell x c t;refine wpAny_storeName_cell I.ok.kind hk t z (λO P f=>?_)
  obtain⟨oc,S,U⟩:=id z;refine h {s with heap:=O} ⟨I.ok,I.os,I.bare,⟨λb o e n J hx=>?_,λb o e n J hx=>?_,I.base.free,λb o e hx=>?_,I.base.tups,I.base.frzs,I.base.tbls⟩,⟨m,hn.sameBut f (qu (cne x c t)),λj y v' g C e3=>?_⟩,λy Y e=>?_,I.free,I.freeC,λp hp=>?_,l ⟨oc,S,I.freeC x c t⟩ f,by simpa using I.len⟩ ⟨c,f,.inr t⟩
  ·exact(f.2 b (bj (bh (ah e) (I.ok.cab x c K t)))).trans (I.base.keep b o e n J hx)
  ·obtain⟨sl,g⟩:=I.base.slot b o e n J hx;exact⟨sl,(f.2 b (bj (bh (ah e) (I.ok.cab x c K t)))).trans g⟩
  ·obtain⟨o',g⟩:=I.base.there b o e hx;exact⟨o',(f.2 b (bj (bh (ah e) (I.ok.cab x c K t)))).trans g⟩
  ·by_cases L:j=i
   ·subst L;rw[hi]at g;cases g;rw[bn G]at C;cases C;exact⟨u,r,.inr ⟨.inl hk,c,t,P⟩⟩
   ·rw[ba (qu L)]at C;obtain⟨u',r',q⟩:=hl j y v' g C e3;refine⟨u',r',?_⟩;rcases q with q|⟨k,Y,e,z'⟩
    ·exact .inl q
    ·refine .inr ⟨k,Y,e,z'.sameBut f ?_⟩;rintro rfl;exact L (vE hN g (I.ok.inj _ _ _ e t▸hi))
  ·by_cases T:Y=c
   ·subst T;exact⟨_,P⟩
   ·obtain⟨w2,z2⟩:=I.cell y Y e;exact⟨w2,z2.sameBut f T⟩
  ·obtain⟨e,n,Z,nf,d⟩:=I.pin p hp;refine⟨(f.2 p.1 ?_).trans e,n,Z,nf,d⟩;intro q;rw[q,S]at e
   have q':oc=p.2:=lz e
   exact d w' (by rw[<-q'];exact U)
def vF{M:Model}{A:Around}{E:cg}{i:Nat}{x:Str}{v:V}{u:Value}{Q:Unit->Shared->Prop}(I:Inv X cf σ H s)(hN:X.N.Nodup)(hi:X.N[i]? =qv x)(hx:Loc X.env.scope x)(r:bG v u)
  (h: ∀s',Inv X cf (σ.set i (qv v)) H s'->Q () s') (hf:X.fn x=qz\/X.env.scope.names.lookup x=qv .local:=by first|exact .inl rfl|exact .inr rfl|assumption):wpAny M A (storeName X.env x u) Q E s:=
 p9 I hN hi hx r (λs' a _=>h s' a) hf
def Inv.call'(I:Inv X cf σ H s)(ho:s'.os=s.os)(u:Un (frs X.stack) ch H H' s.heap s'.heap)(hok:HOk X.prog X.w H' s'.heap)(hg:AllBare s'.gens)(hch: ∀b∈ch,(b∈X.ex\/X.s₀.heap.objs.size<=b)/\b≠X.env.locals/\(∀x c,X.env.cells.lookup x=qv c->c≠b)/\∀p∈X.pn++cf,p.1≠b):Inv X cf σ H' s':=by
 obtain⟨d,g',d',t',a⟩:=s'
 have e:a=s.os:=ho
 subst e;exact I.call (g':=g') (t':=t') (d':=d') u hok hg hch
end
abbrev XK:=Value->Option Addr->Hp->Prop
abbrev St:=List (Option V)
abbrev VK:=V->Hp->Prop
abbrev TE:=St->Hp->VK->Prop
noncomputable abbrev TT:=St->Hp->(Bool->Hp->Prop)->Prop
abbrev TA:=St->Hp->(List V->Hp->Prop)->Prop
structure Ends where
 nx:St->Hp->Prop
 rt:VK
 bk:St->Hp->Prop:=λ_ _=>False
 ct:St->Hp->Prop:=λ_ _=>False
abbrev TS:=Ends->St->Hp->Prop
def EP(X:Cx)(cf:ci)(σ:St)(Q:VK)(u:Value)(s':Shared):Prop:= ∃v H',Inv X cf σ H' s'/\bG v u/\Q v H'
def TP(X:Cx)(cf:ci)(σ:St)(Q:Bool->Hp->Prop)(b:Bool)(s':Shared):Prop:= ∃H',Inv X cf σ H' s'/\Q b H'
def AP(X:Cx)(cf:ci)(σ:St)(Q:List V->Hp->Prop)(us:List Value)(s':Shared):Prop:= ∃vs H',Inv X cf σ H' s'/\bQ vs us/\Q vs H'
def SP(X:Cx)(cf:ci)(D:Ends)(f:Flow)(s':Shared):Prop:=
 match f with
 |.next=>∃σ' H',Inv X cf σ' H' s'/\D.nx σ' H'
 |.brk=>∃σ' H',Inv X cf σ' H' s'/\D.bk σ' H'
 |.cont=>∃σ' H',Inv X cf σ' H' s'/\D.ct σ' H'
 |.ret u=>∃v σ' H',Inv X cf σ' H' s'/\bG v u/\D.rt v H'
def PE(X:Cx)(e:Expr)(t:TE):Prop:=
 ∀(cf:ci) (s:Shared) (σ:St) (H:Hp) (Q:VK),Inv X cf σ H s->t σ H Q->wpAny (model X.prog X.w) X.A (eval e X.env) (EP X cf σ Q) X.xe s
def PT(X:Cx)(e:Expr)(t:TT):Prop:=
 ∀(cf:ci) (s:Shared) (σ:St) (H:Hp) (Q:Bool->Hp->Prop),Inv X cf σ H s->t σ H Q->wpAny (model X.prog X.w) X.A (isTrue e X.env (eval e X.env)) (TP X cf σ Q) X.xe s
def PW(X:Cx)(e:Expr)(t:TT):Prop:=
 ∀(whole:Sem Value) (cf:ci) (s:Shared) (σ:St) (H:Hp) (Q:Bool->Hp->Prop),Inv X cf σ H s->t σ H Q->wpAny (model X.prog X.w) X.A (isTrue e X.env whole) (TP X cf σ Q) X.xe s
def PW.pt(h:PW X e t):PT X e t:=h _
def PA(X:Cx)(es:List Expr)(t:TA):Prop:=
 ∀(pos:Pos) (cf:ci) (s:Shared) (σ:St) (H:Hp) (Q:List V->Hp->Prop),Inv X cf σ H s->t σ H Q->wpAny (model X.prog X.w) X.A (spliced (backTo pos (starEach es X.env))) (AP X cf σ Q) X.xe s
def PS(X:Cx)(st:Stmt)(t:TS):Prop:=
 ∀(cf:ci) (s:Shared) (σ:St) (H:Hp) (D:Ends),Inv X cf σ H s->t D σ H->wpAny (model X.prog X.w) X.A (exec st X.env) (SP X cf D) X.xe s
def PSs(X:Cx)(st:List Stmt)(t:TS):Prop:=
 ∀(cf:ci) (s:Shared) (σ:St) (H:Hp) (D:Ends),Inv X cf σ H s->t D σ H->wpAny (model X.prog X.w) X.A (execs st X.env) (SP X cf D) X.xe s
def thn{t:Sem α}{Q Q':α->Shared->Prop}{E:cg}(h:wpAny M A t Q E s)(hQ: ∀a s,Q a s->Q' a s):wpAny M A t Q' E s:=wpAny_mono h hQ λ_ _ x=>x
section
variable{X:Cx}{a b:Expr}{ta tb:TE}{pos:Pos}{eU:List Expr}
def Jx(i:Nat):TE:=λσ H Q=>∃v,σ[i]? =qv (qv v)/\Q v H
def tC(v:V):TE:=λ_ H Q=>Q v H
def b9{i:Nat}{x:Str}{pos:Pos}(hN:X.N[i]? =qv x)(hv:Vis X.env.scope x)(hd:(x==("__debug__":Str))=q4:=by decide)(hcd:(x==("__classdict__":Str))=q4:=by decide):PE X (.Name x pos) (Jx i):=by
 intro n s j H Q I h;obtain⟨v,e,h⟩:=h;obtain⟨m,o,f⟩:=I.loc;obtain⟨u,r,l⟩:=f i x v hN e hv;have b:EP X n j Q u s:=⟨v,H,I,r,h⟩;rcases l with ⟨hk,g⟩|⟨hk,c,d,a⟩
 ·exact wpAny_Name (wpAny_loadName_local I.ok.kind hk o g b) hd
 ·rcases hk with hk|hk
  ·exact wpAny_Name (wpAny_loadName_cell I.ok.kind hk d a b) hd
  ·exact wpAny_Name (wpAny_loadName_free I.ok.kind hk d a b hcd) hd
def Jy{i j pos}:PE X (.Constant (.int i) j pos) (tC (.int i)):=λ_ _ _ H _ I h=>wpAny_Constant_int ⟨.int i,H,I.tok _,⟨_,rfl⟩,h⟩
def MJ{b j pos}:PE X (.Constant (.bool b) j pos) (tC (.bl b)):=λ_ _ _ H _ I h=>Constant_bool ⟨.bl b,H,I,rfl,h⟩
def Jz{j pos}:PE X (.Constant .none j pos) (tC .non):=λ_ _ _ H _ I h=>Constant_none ⟨.non,H,I,rfl,h⟩
def Es{x j pos}:PE X (.Constant (.str x) j pos) (tC (.str x)):=λ_ _ _ H _ I h=>Calls.Constant_str ⟨.str x,H,I.tok _,⟨_,rfl⟩,h⟩
def Gl(X:Cx)(x:Str):Prop:=X.env.kindOf x=qv .globalImplicit
def gA{E:cg}{cf:ci}{s:Shared}{σ:St}{H:Hp}{x:Str}{u:Value}{pos:Pos}{Q:cg}(I:Inv X cf σ H s)(hg:Gl X x)(hm:X.mg x=qv u)(h:Q u s)
  (hd:(x==("__debug__":Str))=q4:=by decide):wpAny (model X.prog X.w) X.A (eval (.Name x pos) X.env) Q E s:=
 Calls.Name_function_global I.ok.kind hg (Calls.loadGlobal_global (by rw[I.ok.glob];exact I.mod.glob.keeps I.bk) hm h) hd
def gB{E:cg}{cf:ci}{s:Shared}{σ:St}{H:Hp}{x:Str}{u:Value}{pos:Pos}{Q:cg}(I:Inv X cf σ H s)(hg:Gl X x)(hm:X.mg x=qw)(hv:bootBuiltins x=qv u)(h:Q u s)
  (hn:x≠"__name__":=by decide) (hd:(x==("__debug__":Str))=q4:=by decide):wpAny (model X.prog X.w) X.A (eval (.Name x pos) X.env) Q E s:=by
 obtain⟨c,a,b⟩:=I.mod.blt;exact Calls.Name_function_global I.ok.kind hg (Calls.loadGlobal_builtin (by rw[I.ok.glob];exact I.mod.glob.keeps I.bk) hm (by rw[I.ok.blt];exact a.keeps I.bk) ((b x hn).trans hv) h) hd
def FK{x:Str}{v:V}{u:Value}{pos:Pos}(hg:Gl X x)(hm:X.mg x=qv u)(r:bG v u)(hd:(x==("__debug__":Str))=q4:=by decide):PE X (.Name x pos) (tC v):=
 λ_ _ _ H _ I h=>gA I hg hm ⟨v,H,I,r,h⟩ hd
def PC(X:Cx)(op:CmpOp)(a b:Expr)(t:TE):Prop:=
 ∀(cf:ci) (s:Shared) (σ:St) (H:Hp) (Q:VK),Inv X cf σ H s->t σ H Q->
  wpAny (model X.prog X.w) X.A (eval a X.env) (λv s₁=>wpAny (model X.prog X.w) X.A (eval b X.env) (λu s₂=>wpAny (model X.prog X.w) X.A (compareOp op v u) (EP X cf σ Q) X.xe s₂) X.xe s₁) X.xe s
def tB(t:TE):TT:=λσ H Q=>t σ H λx H1=>∃c,x= .bl c/\Q c H1
def JA{op:CmpOp}{t:TE}(h:PC X op a b t)(h1:behindInMarks op b=q4:=by first|exact nobehind _ (by decide) (by decide)|rfl):PE X (.Compare a [op] [b] pos) t:=λe s c H Q I d=>wpAny_Compare1 (h e s c H Q I d) h1
def JB{e:Expr}{t:TE}(h:PE X e t)(he: ∀whole,isTrue e X.env whole=(do let v<-whole;standAt e.pos;holding [v] (truthy v)):=by intro _;rfl):PT X e (tB t):=by
 intro g s j H Q I i;refine isTrue_plain (thn (h g s j H _ I i) λv l a=>?_) (he _)
 obtain⟨x,c,f,b,q1⟩:=a;obtain⟨d,rfl,q⟩:=q1;cases b;exact wpAny_truthy_bool ⟨c,f,q⟩
def On(t u:TT):TT:=λσ H Q=>t σ H λc H1=>if c=qz then u σ H1 Q else Q q4 H1
def tOr(t u:TT):TT:=λσ H Q=>t σ H λc H1=>if c=qz then Q qz H1 else u σ H1 Q
def Oo(t:TT):TT:=λσ H Q=>t σ H λc H1=>Q (!c) H1
def pw_and1(ha:PT X a tA):PW X (.BoolOp .And [a] pos) tA:=by
 intro f b s d H Q I h;refine isTrue_and (thn (ha b s d H Q I h) λc g e=>?_)
 cases c with
 |true=>exact isTrue_and_nil e
 |false=>exact e
def pw_or1(ha:PT X a tA):PW X (.BoolOp .Or [a] pos) tA:=by
 intro f b s d H Q I h;refine isTrue_or (thn (ha b s d H Q I h) λc g e=>?_)
 cases c with
 |false=>exact isTrue_or_nil e
 |true=>exact e
def pw_and(ha:PT X a tA)(hb:PW X (.BoolOp .And (b::eU) pos) tB'):PW X (.BoolOp .And (a::b::eU) pos) (On tA tB'):=by
 intro j g s i H Q I h;refine isTrue_and (thn (ha g s i H _ I h) λc l d=>?_)
 obtain⟨e,f,q1⟩:=d
 cases c with
 |true=>exact hb j g l i e Q f q1
 |false=>exact⟨e,f,q1⟩
def pw_or(ha:PT X a tA)(hb:PW X (.BoolOp .Or (b::eU) pos) tB'):PW X (.BoolOp .Or (a::b::eU) pos) (tOr tA tB'):=by
 intro j g s i H Q I h;refine isTrue_or (thn (ha g s i H _ I h) λc l d=>?_)
 obtain⟨e,f,q1⟩:=d
 cases c with
 |true=>exact⟨e,f,q1⟩
 |false=>exact hb j g l i e Q f q1
def JC(ha:PT X a tA):PT X (.UnaryOp .Not a pos) (Oo tA):=by
 intro d s e H Q I h;exact isTrue_not (ha d s e H (λc b=>Q (!c) b) I h)
def JD(ta tb:TE):TE:=λσ H Q=>ta σ H λx H1=>∃c,x= .bl c/\if c=qz then tb σ H1 Q else Q (.bl q4) H1
def Op(ta tb:TE):TE:=λσ H Q=>ta σ H λx H1=>∃c,x= .bl c/\if c=qz then Q (.bl qz) H1 else tb σ H1 Q
def MN(ta:TE):TE:=λσ H Q=>ta σ H λx H1=>∃c,x= .bl c/\Q (.bl (!c)) H1
def JE(h:PE X a t):PE X (.BoolOp op [a] pos) t:=λd s b H Q I c=>BoolOp_one (h d s b H Q I c)
def JF(ha:PE X a ta)(hb:PE X (.BoolOp .And (b::eU) pos) tb):PE X (.BoolOp .And (a::b::eU) pos) (JD ta tb):=by
 intro g s i H Q I h;refine BoolOp_and (thn (ha g s i H _ I h) λv l d=>?_)
 obtain⟨x,e,f,j,q1⟩:=d;obtain⟨c,rfl,q1⟩:=q1;cases j;refine wpAny_truthy_bool ?_
 cases c with
 |true=>exact hb g l i e Q f q1
 |false=>exact⟨.bl q4,e,f,rfl,q1⟩
def MP(ha:PE X a ta)(hb:PE X (.BoolOp .Or (b::eU) pos) tb):PE X (.BoolOp .Or (a::b::eU) pos) (Op ta tb):=by
 intro g s i H Q I h;refine BoolOp_or (thn (ha g s i H _ I h) λv l d=>?_)
 obtain⟨x,e,f,j,q1⟩:=d;obtain⟨c,rfl,q1⟩:=q1;cases j;refine wpAny_truthy_bool ?_
 cases c with
 |false=>exact hb g l i e Q f q1
 |true=>exact⟨.bl qz,e,f,rfl,q1⟩
def JG(ha:PE X a ta):PE X (.UnaryOp .Not a pos) (MN ta):=by
 intro g s i H Q I h;refine UnaryOp_ (thn (ha g s i H _ I h) λv j b=>?_)
 obtain⟨x,e,f,d,q1⟩:=b;obtain⟨c,rfl,q1⟩:=q1;cases d;exact not_of (wpAny_truthy_bool ⟨.bl (!c),e,f,rfl,q1⟩)
def tIf(t:TT)(ta tb:TE):TE:=λσ H Q=>t σ H λc H1=>if c=qz then ta σ H1 Q else tb σ H1 Q
def CJ(hc:PT X c tA)(ha:PE X a ta)(hb:PE X b tb):PE X (.IfExp c a b pos) (tIf tA ta tb):=by
 intro e s g H Q I h;refine wpAny_IfExp (thn (hc e s g H _ I h) λd l f=>?_)
 obtain⟨i,j,q1⟩:=f
 cases d with
 |true=>exact ha e l g i Q j q1
 |false=>exact hb e l g i Q j q1
end
def SqL(K:og)(H:Hp)(a:Addr)(xs:List V):Prop:=
 Rd H a (.lst xs)\/
  ∃(o:Obj) (its:Array Value) (n:Nat),K.lookup a=qv o/\o.cls= .type "list"/\o.dict=qw/\o.data= .seq its n/\its.size<=sizeLine/\bQ xs its.toList
def SqT(K:og)(H:Hp)(a:Addr)(xs:List V):Prop:=
 Rd H a (.tup xs)\/
  ∃(o:Obj) (its:Array Value) (n:Nat),K.lookup a=qv o/\o.cls= .type "tuple"/\o.dict=qw/\o.data= .seq its n/\its.size<=sizeLine/\bQ xs its.toList
noncomputable def OQ:Value->Option V
 |.none=>qv .non
 |.bool b=>qv (.bl b)
 |.int i _=>qv (.int i)
 |.str x _=>qv (.str x)
 |.bytes b _=>qv (.byt b)
 |.float b _=>qv (.flt b)
 |.ref a=>qv (.ref a)
 |.type n=>qv (.ty n)
 |_=>qw
def bG.abs(r:bG x u):OQ u=qv x:=by
 cases x with
 |non=>cases r;rfl
 |bl _=>cases r;rfl
 |int _=>obtain⟨t,rfl⟩:=r;rfl
 |str _=>obtain⟨t,rfl⟩:=r;rfl
 |byt _=>obtain⟨t,rfl⟩:=r;rfl
 |flt _=>obtain⟨t,rfl⟩:=r;rfl
 |ref _=>cases r;rfl
 |ty _=>cases r;rfl
def bG.inj(r:bG x u)(q:bG y u):x=y:=lz (r.abs.symm.trans q.abs)
theorem bQ.inj: ∀{xs ys:List V} {us:List Value},bQ xs us->bQ ys us->xs=ys
 |_,_,_,.nil,.nil=>rfl
 |_,_,_,.cons r t,.cons r' t'=>by rw[r.inj r',bQ.inj t t']
section
variable{X:Cx}{cf:ci}{σ:St}{H:Hp}{s:Shared}{a:Addr}{xs:List V}
def SqL.of{K:og}(h:H a=qv (.lst xs)):SqL K H a xs:=.inl (.inl h)
def SqT.of{K:og}(h:H a=qv (.tup xs)):SqT K H a xs:=.inl (.inl h)
def Inv.list(I:Inv X cf σ H s)(h:SqL X.K H a xs): ∃its:List Value,bQ xs its/\PlainL s.heap a its.toArray/\xs.length<=sizeLine:=by
 rcases h with h|⟨o,its,n,hk,hc,hd,hs,hz,r⟩
 ·obtain⟨z,its,n,r,e⟩:=h.ok I.hok;exact⟨its,r,⟨_,n,e,rfl,rfl,rfl⟩,z⟩
 ·refine⟨its.toList,r,⟨o,n,I.kIn a o hk,hc,hd,by simpa using hs⟩,?_⟩
  have e:=r.length;simp only[iy]at e
  lia
def Inv.tuple(I:Inv X cf σ H s)(h:SqT X.K H a xs): ∃its:List Value,bQ xs its/\IsTup s.heap a its.toArray/\xs.length<=sizeLine:=by
 rcases h with h|⟨o,its,n,hk,hc,_,hs,hz,r⟩
 ·obtain⟨z,its,r,p,_⟩:=h.ok I.hok;exact⟨its,r,p,z⟩
 ·refine⟨its.toList,r,⟨o,I.kIn a o hk,hc,n,by simpa using hs⟩,?_⟩
  have e:=r.length;simp only[iy]at e
  lia
def Inv.list_inj(I:Inv X cf σ H s)(h:SqL X.K H a xs)(h':SqL X.K H a ys):xs=ys:=by
 obtain⟨c,r,⟨o,n,e,_,_,d⟩,_⟩:=I.list h;obtain⟨b,i,⟨j,l,f,_,_,g⟩,_⟩:=I.list h';rw[e]at f;cases f;rw[d]at g;injection g with d1 _
 have:c=b:=by simpa using congrArg Array.toList d1
 subst this;exact r.inj i
def Inv.tuple_inj(I:Inv X cf σ H s)(h:SqT X.K H a xs)(h':SqT X.K H a ys):xs=ys:=by
 obtain⟨c,r,⟨o,e,_,n,d⟩,_⟩:=I.tuple h;obtain⟨b,i,⟨j,f,_,l,g⟩,_⟩:=I.tuple h';rw[e]at f;cases f;rw[d]at g;injection g with d1 _
 have:c=b:=by simpa using congrArg Array.toList d1
 subst this;exact r.inj i
end
noncomputable abbrev Cx.wish(X:Cx)(E:cg):Cx:={X with xe:=E}
section
variable{X:Cx}{st:Stmt}{eU:List Stmt}{t u:TS}{e:Expr}{te:TE}{pos:Pos}
def JH:TS:=λD σ H=>D.nx σ H
def OR(t u:TS):TS:=λD σ H=>t {D with nx:=u D} σ H
def zP:PSs X [] JH:=λ_ _ a H _ I h=>wpAny_execs_nil ⟨a,H,I,h⟩
def iW(h1:PS X st t)(h2:PSs X eU u):PSs X (st::eU) (OR t u):=by
 intro b s g H D I h;refine wpAny_execs_cons (thn (h1 b s g H {D with nx:=u D} I h) λf e q=>?_)
 cases f with
 |next=>
  obtain⟨a,c,d,q⟩:=q;exact h2 b e a c D d q
 |ret v=>exact q
 |brk=>exact q
 |cont=>exact q
def tZ(h1:PS X st t):PSs X [st] t:=by
 intro a s b H D I h;refine wpAny_execs_cons (thn (h1 a s b H D I h) λf c q=>?_)
 cases f with
 |next=>exact wpAny_execs_nil q
 |ret v=>exact q
 |brk=>exact q
 |cont=>exact q
def zQ:PS X (.Pass pos) JH:=λ_ _ a H _ I h=>wpAny_Pass ⟨a,H,I,h⟩
def Inv.quiet{σ:St}(I:Inv X cf σ H s):interactive X.env=q4:=by simp[interactive,I.ok.kind]
def JI(te:TE):TS:=λD σ H=>te σ H λ_ H1=>D.nx σ H1
def jL(he:PE X e te)(hs:swapsWith e qw pos.line X.env=pure q4:=by rfl):PS X (.Expr e pos) (JI te):=by
 intro f s b H D I h;exact wpAny_Expr_any (thn (he f s b H _ I h) λv i a=>by obtain⟨x,c,d,g,q1⟩:=a;exact⟨b,c,d,q1⟩) I.quiet hs
def OS(te:TE):TS:=λD σ H=>te σ H D.rt
def vG(he:PE X e te):PS X (.Return (qv e) pos) (OS te):=by
 intro g s b H D I h;exact wpAny_Return_some (thn (he g s b H _ I h) λv i a=>by obtain⟨x,d,f,c,q1⟩:=a;exact⟨x,b,d,f,c,q1⟩)
def OT(c:TT)(t u:TS):TS:=λD σ H=>c σ H λb H1=>if b=qz then t D σ H1 else u D σ H1
def FL(hc:PT X c tc)(ha:PSs X a t)(hb:PSs X b u):PS X (.If c a b pos) (OT tc t u):=by
 intro e s g H D I h;refine wpAny_If (thn (hc e s g H _ I h) λd l f=>?_)
 obtain⟨i,j,q1⟩:=f
 cases d with
 |true=>exact ha e l g i D j q1
 |false=>exact hb e l g i D j q1
end
abbrev TG:=V->St->Hp->(St->Hp->Prop)->Prop
abbrev TGs:=List V->St->Hp->(St->Hp->Prop)->Prop
def PG(X:Cx)(target:Expr)(t:TG):Prop:=
 ∀(cf:ci) (s:Shared) (σ:St) (H:Hp) (v:V) (u:Value) (Q:St->Hp->Prop),Inv X cf σ H s->bG v u->t v σ H Q->
  wpAny (model X.prog X.w) X.A (assign target X.env u) (λ_ s'=>∃σ' H',Inv X cf σ' H' s'/\Q σ' H') X.xe s
def PGs(X:Cx)(ts:List Expr)(t:TGs):Prop:=
 ∀(cf:ci) (s:Shared) (σ:St) (H:Hp) (vs:List V) (us:List Value) (Q:St->Hp->Prop),Inv X cf σ H s->bQ vs us->t vs σ H Q->
  wpAny (model X.prog X.w) X.A (assignInOrder ((assignEach ts X.env).map (·.2)) us) (λ_ s'=>∃σ' H',Inv X cf σ' H' s'/\Q σ' H') X.xe s
abbrev JJ:=V->V->V->Hp->(Hp->Prop)->Prop
def JK(X:Cx)(t:JJ):Prop:=
 ∀(cf:ci) (s:Shared) (σ:St) (H:Hp) (o i v:V) (ov iv u:Value) (Q:Hp->Prop),Inv X cf σ H s->bG o ov->bG i iv->bG v u->t o i v H Q->
  wpAny (model X.prog X.w) X.A (setItem ov iv u) (λ_ s'=>∃H',Inv X cf σ H' s'/\Q H') X.xe s
abbrev TIp:=V->V->Hp->VK->Prop
def PIp(X:Cx)(op:Operator)(t:TIp):Prop:=
 ∀(cf:ci) (s:Shared) (σ:St) (H:Hp) (x y:V) (v u:Value) (Q:VK),Inv X cf σ H s->bG x v->bG y u->t x y H Q->
  wpAny (model X.prog X.w) X.A (inplaceOp op v u) (EP X cf σ Q) X.xe s
section
variable{X:Cx}{pos:Pos}
def kN(i:Nat):TG:=λv σ H Q=>Q (σ.set i (qv v)) H
def lD{i:Nat}{x:Str}(hN:X.N.Nodup)(hi:X.N[i]? =qv x)(hx:Loc X.env.scope x)(hf:X.fn x=qz\/X.env.scope.names.lookup x=qv .local:=by first|exact .inl rfl|exact .inr rfl|assumption):PG X (.Name x pos) (kN i):=by
 intro b s d H v u Q I r h;exact wpAny_assign_Name (vF I hN hi hx r (λc a=>⟨_,H,a,h⟩) hf)
def MQ:TGs:=λvs σ H Q=>vs=[]/\Q σ H
def FN(t:TG)(u:TGs):TGs:=λvs σ H Q=>∃v r,vs=v::r/\t v σ H λσ' H'=>u r σ' H' Q
def zR:PGs X [] MQ:=by
 intro b s a H c d Q I r h;obtain⟨e,h⟩:=h;subst e;cases r;exact assignInOrder_nil ⟨a,H,I,h⟩
def vH{e:Expr}{es:List Expr}{t:TG}{u:TGs}(h1:PG X e t)(h2:PGs X es u)
  (hs:(assignEach (e::es) X.env).map (·.2)=assign e X.env::(assignEach es X.env).map (·.2):=by rfl):PGs X (e::es) (FN t u):=by
 intro c s g H m n Q I r h;obtain⟨v,o,d,h⟩:=h;subst d
 cases r with
 |cons r i=>
  rw[hs];refine assignInOrder_cons (thn (h1 c s g H _ _ _ I r h) λ_ f a=>?_)
  obtain⟨b,j,l,q1⟩:=a;exact h2 c f b j _ _ Q l i q1
def JL(K:og)(n:Nat)(t:TGs):TG:=λv σ H Q=>∃a xs,v= .ref a/\SqT K H a xs/\xs.length=n/\t xs σ H Q
def Et{es:List Expr}{k:Nat}{t:TGs}{n:Nat}(hc:X.calm=qz)(h:PGs X es t)
  (hn:(assignEach es X.env).length=n:=by rfl) (hst:(assignEach es X.env).findIdx? (·.1)=qw:=by rfl):PG X (.Tuple es k pos) (JL X.K n t):=by
 intro g s f H v u Q I r c;obtain⟨a,l,i,x,j,c⟩:=c;subst i;cases r;obtain⟨m,d,q,A⟩:=I.tuple x;refine assign_Tuple_tuple (I.ok.hd hc) q (by simp[hn, <-j,d.length]) hst λy z=>?_
 have p:Inv X g f H {s with heap:=y}:=I.kept (t':=s.toks) λb o e=>z b o (bj (ah e)) e
 exact h g _ f H l _ Q p (by simpa using d) c
def OU(to ti:TE)(t:JJ):TG:=λv σ H Q=>to σ H λo H1=>ti σ H1 λi H2=>t o i v H2 λH3=>Q σ H3
def JM{o i:Expr}{to ti:TE}{t:JJ}(ho:PE X o to)(hi:PE X i ti)(hs:JK X t)
  (ha: ∀v,assign (.Subscript o i pos) X.env v=(do
   let ov<-holding [v] (eval o X.env);let iv<-holding [v,ov] (eval i X.env)
   standAt pos
   holding [v,ov,iv] (setItem ov iv v)
   release [v,ov,iv] []):=by intro _;rfl):PG X (.Subscript o i pos) (OU to ti t):=by
 intro c s b H v u Q I r h;rw[ha];refine aa (wpAny_holding (thn (ho c s b H _ I h) λov j a=>?_))
 obtain⟨x,l,m,d,q1⟩:=a;refine aa (wpAny_holding (thn (hi c j b l _ m q1) λiv g a=>?_))
 obtain⟨y,H2,e,f,q2⟩:=a;refine aa (wpAny_standAt (aa (wpAny_holding (thn (hs c g b H2 x y v ov iv u _ e d f r q2) λ_ p a=>?_))))
 obtain⟨H3,n,q3⟩:=a;exact wpAny_release ⟨b,H3,n,q3⟩
def FO(te:TE)(g:TG):TS:=λD σ H=>te σ H λx H1=>g x σ H1 D.nx
def zS{tg e:Expr}{te:TE}{g:TG}(he:PE X e te)(hg:PG X tg g)(hs:swapsWithSole [tg] e pos.line X.env=pure q4:=by rfl)(hw:swappedStores [tg] e X.env=pure qw:=by rfl)
  (h1:(assignEach [tg] X.env).map (·.2)=[assign tg X.env]:=by rfl):PS X (.Assign [tg] e pos) (FO te g):=by
 intro b s c H D I h;refine wpAny_Assign_stores (thn (he b s c H _ I h) λv j a=>?_) hs hw
 obtain⟨x,f,i,d,q1⟩:=a;rw[h1];exact thn (hg b j c f x v _ i d q1) λ_ l q=>q
def nF{i:Nat}{x:Str}{e:Expr}{te:TE}{pos':Pos}(hN:X.N.Nodup)(hi:X.N[i]? =qv x)(hx:Loc X.env.scope x)(he:PE X e te)(hs:swapsWith e (qv (.Name x pos')) pos.line X.env=pure q4:=by rfl)(hf:X.fn x=qz\/X.env.scope.names.lookup x=qv .local:=by first|exact .inl rfl|exact .inr rfl|assumption):
  PS X (.Assign [.Name x pos'] e pos) (FO te (kN i)):=by
 intro g s j H D I h;refine wpAny_Assign_Name (thn (he g s j H _ I h) λv m a=>?_) hs
 obtain⟨y,c,f,b,q1⟩:=a;exact vF f hN hi hx b (λl d=>⟨_,c,d,q1⟩) hf
def MR(to ti te:TE)(tget:V->V->Hp->VK->Prop)(tip:TIp)(tset:JJ):TS:=λD σ H=>to σ H λo H1=>ti σ H1 λi H2=>tget o i H2 λx H3=>te σ H3 λy H4=>tip x y H4 λz H5=>tset o i z H5 λH6=>D.nx σ H6
def Oq(X:Cx)(t:V->V->Hp->VK->Prop):Prop:=
 ∀(cf:ci) (s:Shared) (σ:St) (H:Hp) (o i:V) (ov iv:Value) (Q:VK),Inv X cf σ H s->bG o ov->bG i iv->t o i H Q->
  wpAny (model X.prog X.w) X.A (getItem ov iv) (EP X cf σ Q) X.xe s
def FP{o i e:Expr}{to ti te:TE}{tget:V->V->Hp->VK->Prop}{tip:TIp}{tset:JJ}{op:Operator}{tpos:Pos}(ho:PE X o to)(hi:PE X i ti)(hg:Oq X tget)(he:PE X e te)(hp:PIp X op tip)(hs:JK X tset)
  (ha: ∀ov iv new,augStore i ov iv new=(do holding [new,ov,iv] (setItem ov iv new);release [new,ov,iv] [];pure .next):=by intros;rfl):PS X (.AugAssign (.Subscript o i tpos) op e pos) (MR to ti te tget tip tset):=by
 intro d s c H D I h;refine wpAny_AugAssign_SubscriptAny (thn (ho d s c H _ I h) λov K b=>?_) ha
 obtain⟨g,L,M,l,q1⟩:=b;refine thn (hi d K c L _ M q1) λiv J a=>?_
 obtain⟨j,H2,G,m,q2⟩:=a;refine thn (hg d J c H2 g j ov iv _ G l m q2) λf u a=>?_
 obtain⟨x,H3,C,q,q3⟩:=a;refine thn (he d u c H3 _ C q3) λv y a=>?_
 obtain⟨n,H4,t,N,r⟩:=a;refine thn (hp d y c H4 x n f v _ t q N r) λnew z a=>?_
 obtain⟨A,H5,E,p,q5⟩:=a;exact thn (hs d z c H5 g j A ov iv new _ E l m p q5) λ_ O b=>by obtain⟨H6,B,q6⟩:=b;exact⟨c,H6,B,q6⟩
def ipI(f:Int->Int->Int):TIp:=λx y H Q=>∃i j,x= .int i/\y= .int j/\Q (.int (f i j)) H
def JN:PIp X .Add (ipI λi j=>i+j):=by
 intro g s e H x y v u Q I b d h;obtain⟨i,j,a,c,q⟩:=h;subst a;subst c;obtain⟨t,rfl⟩:=b;obtain⟨f,rfl⟩:=d;exact iadd_int ⟨.int _,H,I.tok _,⟨_,rfl⟩,q⟩
end
structure It where
 go:Nat->Hp->Prop
 yld:Nat->Hp->V->Hp->Prop
 stop:Nat->Hp->Prop
def t3(X:Cx)(cf:ci)(H:Hp)(b:Addr):Prop:=
 H b=qw/\b≠X.env.locals/\b∉X.fs/\(b∈X.ex\/X.s₀.heap.objs.size<=b)/\(∀x c,X.env.cells.lookup x=qv c->c≠b)/\∀p∈X.pn++cf,p.1≠b
def Inv.fpOk{σ:St}{b:Addr}(I:Inv X cf σ H s)(hb:s.heap.objs.size<=b)(hn:H' b=qw):t3 X cf H' b:=by
 refine⟨hn,oq (bh I.lt hb),I.nofs hb,.inr (ol I.sz hb),λx c e z=>?_,λp a z=>?_⟩
 ·obtain⟨v,q⟩:=I.cell x c e;exact absurd (bh q.lt (by rw[z];exact hb)) (nv _)
 ·exact absurd (bh (ah (I.pin p a).1) (by rw[z];exact hb)) (nv _)
structure Turn(P:Program)(w:World)(K:og)(tg:Expr)(J:It)(fp:List Addr)(it:Addr)(tn:Nat->Heap->Prop):Prop where
 mem:it∈fp
 obj: ∀i h,tn i h->∀b∈fp, ∃o,h.get? b=qv o/\∀v,o.data≠ .cell v
 keep: ∀i h h',tn i h->(∀b∈fp, ∀o,h.get? b=qv o->h'.get? b=qv o)->tn i h'
 item: ∀(X:Cx),X.prog=P->X.w=w->X.K=K->X.calm=qz->∀(i:Nat) (cf:ci) (s:Shared) (σ:St) (H:Hp) (E:cg),Inv X cf σ H s->(∀b∈fp,t3 X cf H b)->tn i s.heap->J.go i H->
  wpAny (model P w) X.A (pyNext (.ref it)) (λr s1=>∃u,r=qv u/\
   wpAny (model P w) X.A (letOwnedTupleGo tg (.ref it) u) (λ_ s2=>∃x H',Inv X cf σ H' s2/\bG x u/\J.yld i H x H'/\tn (i+1) s2.heap/\∀b∈fp,H' b=qw) E s1) E s
 done: ∀(X:Cx),X.prog=P->X.w=w->X.K=K->X.calm=qz->∀(i:Nat) (cf:ci) (s:Shared) (σ:St) (H:Hp) (E:cg),Inv X cf σ H s->(∀b∈fp,t3 X cf H b)->tn i s.heap->J.stop i H->
  wpAny (model P w) X.A (pyNext (.ref it)) (λr s1=>r=qw/\Inv X cf σ H s1) E s
 self: ∀(A:Around) (i:Nat) (s:Shared) (Q:cg) (E:cg),tn i s.heap->Q (.ref it) s->wpAny (model P w) A (pyIter (.ref it)) Q E s
abbrev TI:=St->Hp->(It->Hp->Prop)->Prop
def PIE(X:Cx)(cf:ci)(σ:St)(tg:Expr)(R:It->Hp->Prop)(itv:Value)(s2:Shared):Prop:=
 ∃(it:Addr) (fp:List Addr) (tn:Nat->Heap->Prop) (J:It) (H':Hp),itv= .ref it/\Inv X cf σ H' s2/\Turn X.prog X.w X.K tg J fp it tn/\tn 0 s2.heap/\(∀b∈fp,t3 X cf H' b)/\R J H'
def PI(X:Cx)(tg iter:Expr)(wi:TI):Prop:=
 ∀(cf:ci) (s:Shared) (σ:St) (H:Hp) (R:It->Hp->Prop),Inv X cf σ H s->wi σ H R->
  wpAny (model X.prog X.w) X.A (eval iter X.env) (λv s1=>wpAny (model X.prog X.w) X.A (pyIter v) (PIE X cf σ tg R) X.xe s1) X.xe s
def zT{E:cg}(ho:s.heap.get? it=qv o)(hc:o.cls= .type n)(hd:o.data= .fields vs)(hn:["enumerate","zip","dict_itemiterator","dict_reverseitemiterator","odict_iterator","itertools.zip_longest","itertools.pairwise"].contains n=q4)(hQ:Q () s):wpAny M A (letOwnedTupleGo tg (.ref it) u) Q E s:=by
 unfold letOwnedTupleGo
 cases tg<;>first
  |exact ae hQ
  |(cases u<;>first
    |exact ae hQ
    | (refine aa (wpAny_load ho ?_)
       rw[hc,hd];show wpAny M A (if(["enumerate","zip","dict_itemiterator","dict_reverseitemiterator","odict_iterator","itertools.zip_longest","itertools.pairwise"].contains n&&vs[0]? ==qv (rawInt _))=qz then _ else _) Q E s
       rw[if_neg (by intro h;rw[hn,Bool.false_and]at h;cases h)]
       exact ae hQ))
noncomputable def Itl(K:og)(a:Addr):It:=
 ⟨λi H=>∃xs x,SqL K H a xs/\xs[i]? =qv x,λi H x H'=>H'=H/\∀xs,SqL K H a xs->xs[i]? =qv x,λi H=>∃xs,SqL K H a xs/\xs.length<=i⟩
noncomputable def Itt(K:og)(a:Addr):It:=
 ⟨λi H=>∃xs x,SqT K H a xs/\xs[i]? =qv x,λi H x H'=>H'=H/\∀xs,SqT K H a xs->xs[i]? =qv x,λi H=>∃xs,SqT K H a xs/\xs.length<=i⟩
noncomputable def Itr(lo:Int)(n:Nat):It:=⟨λi _=>i<n,λi H x H'=>H'=H/\x= .int (lo+i),λi _=>n<=i⟩
def qA{K:og}(a it:Addr):Turn P w K tg (Itl K a) [it] it (λi h=>h.IsListIter it a i) where
 mem:=by simp
 obj:=λi h st b f=>by
  have e:b=it:=by simpa using f
  subst e;obtain⟨o,e,c,d⟩:=st;exact⟨o,e,λv z=>by rw[d]at z;cases z⟩
 keep:=λi h l st k=>st.at λo e=>k it (by simp) o e
 item:=by
  intro X M G J N i O s Q H E I m st t;subst M G J;obtain⟨Y,x,j,A⟩:=t;obtain⟨r,C,p,Z⟩:=I.list j;obtain⟨u,hu,U⟩:=C.get A;obtain⟨y,B,f2,L,n,q⟩:=m it (by simp)
  refine wpAny_pyNext_list_item st p.isList (x:=u) (by simpa using hu) λl g T=>?_
  have I1:Inv X O Q H {s with heap:=l}:=I.turned (t':=s.toks) (λb o f e=>(T.2 b f).trans e) y B L n q
  obtain⟨o,e,c,d⟩:=id g;exact⟨u,rfl,zT (s:={s with heap:=l}) e c d (by decide) ⟨x,H,I1,U,⟨rfl,λys S=>by rw[I.list_inj S j];exact A⟩,g,λb f=>(m b f).1⟩⟩
 done:=by
  intro X M G J N i O s Q H E I m st t;subst M G J;obtain⟨Y,j,A⟩:=t;obtain⟨r,C,p,Z⟩:=I.list j;obtain⟨y,B,f2,L,n,q⟩:=m it (by simp)
  have hl:=C.length;exact wpAny_pyNext_list_end (I.ok.hd N) st p.isList (by simp;lia) λl eb=>⟨rfl,I.turned (t':=s.toks) (λb o f e=>eb b o f e) y B L n q⟩
 self:=λ_ _ _ _ _ st h=>wpAny_pyIter_listiter st h
def nG{K:og}(a it:Addr):Turn P w K tg (Itt K a) [it] it (λi h=>h.IsTupleIter it a i) where
 mem:=by simp
 obj:=λi h st b g=>by
  have e:b=it:=by simpa using g
  subst e;obtain⟨o,e,c,d⟩:=st;exact⟨o,e,λv z=>by rw[d]at z;cases z⟩
 keep:=λi h m st k=>st.at λo e=>k it (by simp) o e
 item:=by
  intro X M G J N i O s Q H E I n st t;subst M G J;obtain⟨Y,x,l,A⟩:=t;obtain⟨f,C,p,Z⟩:=I.tuple l;obtain⟨u,hu,U⟩:=C.get A;obtain⟨y,B,f2,L,q,r⟩:=n it (by simp)
  refine wpAny_pyNext_tuple_item st (show s.heap.IsTuple a f.toArray from p) (x:=u) (by simpa using hu) λm j T=>?_
  have I1:Inv X O Q H {s with heap:=m}:=I.turned (t':=s.toks) (λb o g e=>(T.2 b g).trans e) y B L q r
  obtain⟨o,e,c,d⟩:=id j;exact⟨u,rfl,zT (s:={s with heap:=m}) e c d (by decide) ⟨x,H,I1,U,⟨rfl,λys S=>by rw[I.tuple_inj S l];exact A⟩,j,λb g=>(n b g).1⟩⟩
 done:=by
  intro X M G J N i O s Q H E I n st t;subst M G J;obtain⟨Y,l,A⟩:=t;obtain⟨f,C,p,Z⟩:=I.tuple l;obtain⟨y,B,f2,L,q,r⟩:=n it (by simp)
  have hl:=C.length;exact wpAny_pyNext_tuple_end (I.ok.hd N) st (show s.heap.IsTuple a f.toArray from p) (by simp;lia) λm eb=>⟨rfl,I.turned (t':=s.toks) (λb o g e=>eb b o g e) y B L q r⟩
 self:=λ_ _ _ _ _ st h=>wpAny_pyIter_tupleiter st h
def xV{K:og}(it:Addr)(lo:Int)(n:Nat):Turn P w K tg (Itr lo n) [it] it (λi h=>IsRangeIter h it (lo+(i:Nat)*1) ((n:Int)-(i:Nat)) 1) where
 mem:=by simp
 obj:=λi h st b a=>by
  have e:b=it:=by simpa using a
  subst e
  exact⟨_,st,λv z=>by
   have M:Data.fields _=Data.cell v:=z
   cases M⟩
 keep:=λi h d st k=>k it (by simp) _ st
 item:=by
  intro X y r u g i B s C H E I f st m;subst y r u;obtain⟨p,q,N,x,j,l⟩:=f it (by simp)
  have W:=Walks.range (prog:=X.prog) (w:=X.w) (I.ok.hd g) it lo 1 n;refine W.item i s _ _ m st λv d A G c L=>?_
  obtain⟨t,rfl⟩:=G;have O:Inv X B C H {s with heap:=d,toks:=A}:=I.turned (λb o a e=>L b o (by simpa using a) e) p q x j l
  refine⟨_,rfl,zT (s:={s with heap:=d,toks:=A}) (n:="range_iterator") c rfl rfl (by decide) ⟨.int (lo+i),H,O,⟨t,?_⟩,⟨rfl,rfl⟩,c,λb a=>(f b a).1⟩⟩
  rw[Int.mul_one]
 done:=by
  intro X y r u g i B s C H E I f st m;subst y r u;obtain⟨p,q,N,x,j,l⟩:=f it (by simp)
  exact wpAny_pyNext_range_end (I.ok.hd g) st (by have:n<=i:=m;lia) λd J=>⟨rfl,I.turned (t':=s.toks) (λb o a e=>J b o a e) p q x j l⟩
 self:=λ_ _ _ _ _ st h=>wpAny_pyIter_rangeiter st h
section
variable{X:Cx}{tg:Expr}
def CK{σ:St}{E:cg}{lo hi:Int}(I:Inv X cf σ H s)(h1: -(2^62)<=lo)(h2:lo<2^62)(h3: -(2^62)<=hi)(h4:hi<2^62)(q:R (Itr lo (hi-lo).toNat) H):wpAny (model X.prog X.w) X.A (pyIter (.ref s.heap.objs.size)) (PIE X cf σ tg R) E {s with heap:=s.heap.push {cls:=.type "range",data:=.fields #[.int lo t,.int hi u,.int 1 v]},toks:=tk}:=by
 refine wpAny_pyIter_range (IsRange.new ..) (small_one h1 h2 h3 h4) ?_;have a:Inv X cf σ H {s with heap:=s.heap.push {cls:=.type "range",data:=.fields #[.int lo t,.int hi u,.int 1 v]},toks:=tk}:=I.kept λb o e=>af _ e
 refine⟨(s.heap.push {cls:=.type "range",data:=.fields #[.int lo t,.int hi u,.int 1 v]}).objs.size,[(s.heap.push {cls:=.type "range",data:=.fields #[.int lo t,.int hi u,.int 1 v]}).objs.size],_,_,H,rfl,
  a.kept (t':=tk) λb o e=>af _ e,xV _ lo (hi-lo).toNat,?_,λb f=>?_,q⟩
 ·have c:lo+((0:Nat):Int)*1=lo:=by simp
  have d:(((hi-lo).toNat:Nat):Int)-((0:Nat):Int)=Builtin.Range.rangeSize lo hi 1:=by rw[rangeSize_one];split<;>lia
  show IsRangeIter _ _ (lo+((0:Nat):Int)*1) ((((hi-lo).toNat:Nat):Int)-((0:Nat):Int)) 1;rw[c,d];exact ag _ rfl
 ·have e:b=(s.heap.push {cls:=.type "range",data:=.fields #[.int lo t,.int hi u,.int 1 v]}).objs.size:=by simpa using f
  subst e;exact a.fpOk (aj _) (a.hok.fresh (aj _))
def MU(ta:TA):TI:=λσ H R=>ta σ H λvs H1=>∃j:Int,vs=[.int j]/\ -(2^62)<=j/\j<2^62/\R (Itr 0 j.toNat) H1
def qB{a:Expr}{ta:TA}{p pos:Pos}(hg:Gl X "range")(hm:X.mg "range"=qw)(ha:PA X [a] ta)(hs:starEach [a] X.env=[(q4,eval a X.env)]:=by rfl):PI X tg (.Call (.Name "range" p) [a] [] pos) (MU ta):=by
 intro f s c H R I h;refine Call_ (gB I hg hm boot_range (d8 (thn (ha pos f s c H _ I h) λm l ⟨i,n,g,b,q1⟩=>?_) hs rfl))
 obtain⟨j,e,q1,q2,q⟩:=q1;subst e
 cases b with
 |cons r d=>
  cases d;obtain⟨t,rfl⟩:=r;exact call_range_1 (CK g (by lia) (by lia) q1 q2 (by simpa using q))
def OV(wi:TI)(g:TG)(tb:TS):TS:=λD σ H=>wi σ H λJ H1=>∃W:Nat->Nat->St->Hp->Prop,(∃m,W 0 m σ H1)/\∀i m σ H,W i m σ H->
 (J.stop i H/\D.nx σ H)\/(J.go i H/\∃N:St->Hp->Prop,(∀σ' H',N σ' H'->∃m',m'<m/\W (i+1) m' σ' H')/\∀x H',J.yld i H x H'->g x σ H' λσ2 H2=>tb {D with nx:=N,ct:=N,bk:=D.nx} σ2 H2)
noncomputable def nH(fp:List Addr)(h:Heap):ci:=fp.filterMap λb=>(h.get? b).map λo=>(b,o)
def gM(hb:b∈fp)(e:h.get? b=qv o):(b,o)∈nH fp h:=jd.mpr ⟨b,hb,by rw[e];rfl⟩
def zU(hp:p∈nH fp h):p.1∈fp/\h.get? p.1=qv p.2:=by
 obtain⟨b,a,e⟩:=jd.mp hp
 cases q:h.get? b with
 |none=>rw[q]at e;cases e
 |some o=>
  rw[q]at e
  have c:(b,o)=p:=lz e
  subst c;exact⟨a,q⟩
def Inv.pinned{σ:St}(I:Inv X cf σ H s)(hf: ∀b∈fp,t3 X cf H b)(ho: ∀b∈fp, ∃o,s.heap.get? b=qv o/\∀v,o.data≠ .cell v):Inv X (cf++nH fp s.heap) σ H s:=
 I.pins_of λp i=>(md.mp i).elim (λz=>I.pin p (bz _ z)) λz=>by
  obtain⟨c,e⟩:=zU z;obtain⟨h,f,g,_⟩:=hf p.1 c;obtain⟨o,a,d⟩:=ho p.1 c;rw[e]at a;cases a;exact⟨e,h,f,g,d⟩
def Inv.unpinned{σ:St}(I:Inv X (cf++pl) σ H s):Inv X cf σ H s:=I.pins_of λp a=>I.pin p (bz _ (List.mem_append_left _ a))
def JO{iter:Expr}{body:List Stmt}{wi:TI}{g:TG}{tb:TS}{pos:Pos}(hp:PassesOwn (model X.prog X.w) X.A X.env X.xe)(hc:X.calm=qz)(hi:PI X tg iter wi)(hg:PG X tg g)(hb:PSs X body tb)
  (hs: ∀x,foldedSetIterable iter X.env x=pure x:=by intro _;rfl):PS X (.For tg iter body [] pos) (OV wi g tb):=by
 intro B s σ H D I h;refine wpAny_For (thn (hi B s σ H _ I h) λv s1 h1=>thn h1 λab s2 h2=>?_) hs
 obtain⟨it,C,tn,J,H2,e,I2,T,U,Z,W,⟨m0,w0⟩,E⟩:=h2;subst e
 -- what stays qz of the iterator's objects through the loop
 have q: ∀{H':Hp},(∀b∈C,H' b=qw)->∀b∈C,t3 X B H' b:=λhn b hb=>⟨hn b hb,(Z b hb).2⟩
 refine codeAny_forLoop_any (λn s'=>∃i σ' H',Inv X B σ' H' s'/\tn i s'.heap/\(∀b∈C,H' b=qw)/\W i n σ' H') ?_ m0 ⟨0,σ,H2,I2,U,λb hb=>(Z b hb).1,w0⟩
 rintro n s3 ⟨i,l,H3,I3,G,M,w3⟩;rcases E i n l H3 w3 with ⟨L,qn⟩|⟨go,N,hN,step⟩
 ·refine wpAny_passesOwn hp (thn (T.done X rfl rfl rfl hc i B s3 l H3 X.xe I3 (q M) G L) λr s4 c=>?_)
  obtain⟨O,I4⟩:=c;subst O;exact wpAny_execs_nil ⟨l,H3,I4,qn⟩
 ·refine wpAny_passesOwn hp (thn (T.item X rfl rfl rfl hc i B s3 l H3 X.xe I3 (q M) G go) λr s4 c=>?_)
  obtain⟨u,O,h4⟩:=c;subst O;refine wpAny_passesOwn hp (thn h4 λ_ Y c=>?_)
  obtain⟨x,H5,I5,r5,y5,z,S⟩:=c;have P:=I5.pinned (q S) (T.obj _ _ z);refine wpAny_passesOwn hp (thn (hg _ Y l H5 x u _ P r5 (step x H5 y5)) λ_ s6 c=>?_)
  obtain⟨Q,H6,I6,q6⟩:=c;refine wpAny_passesOwn hp (thn (hb _ s6 Q H6 _ I6 q6) λf s7 y=>?_)
  have j: ∀{a:St} {p:Hp},Inv X (B++nH C Y.heap) a p s7->N a p->∃m,m<n/\∃i σ' H',Inv X B σ' H' s7/\tn i s7.heap/\(∀b∈C,H' b=qw)/\W i m σ' H':=λ{a p} t K=>by
   obtain⟨m',hm,w7⟩:=hN a p K;refine⟨m',hm,i+1,a,p,t.unpinned,T.keep _ _ _ z λb hb o e=>(t.pin (b,o) (bz _ (bz _ (gM hb e)))).1,λb hb=>?_,w7⟩
   obtain⟨o,e,d⟩:=T.obj _ _ z b hb;exact(t.pin (b,o) (bz _ (bz _ (gM hb e)))).2.1
  cases f with
  |next=>obtain⟨a,p,t,K⟩:=y;exact j t K
  |cont=>obtain⟨a,p,t,K⟩:=y;exact j t K
  |brk=>obtain⟨a,p,t,y⟩:=y;exact⟨a,p,t.unpinned,y⟩
  |ret v=>obtain⟨x7,a,p,t,r7,y⟩:=y;exact⟨x7,a,p,t.unpinned,r7,y⟩
end
abbrev R2:=V->V->Hp->VK->Prop
def OpR(X:Cx)(f:Value->Value->Sem Value)(r:R2):Prop:=
 ∀(cf:ci) (s:Shared) (σ:St) (H:Hp) (x y:V) (v u:Value) (Q:VK),Inv X cf σ H s->bG x v->bG y u->r x y H Q->
  wpAny (model X.prog X.w) X.A (f v u) (EP X cf σ Q) X.xe s
def UnR(X:Cx)(f:Value->Sem Value)(r:V->Hp->VK->Prop):Prop:=
 ∀(cf:ci) (s:Shared) (σ:St) (H:Hp) (x:V) (v:Value) (Q:VK),Inv X cf σ H s->bG x v->r x H Q->
  wpAny (model X.prog X.w) X.A (f v) (EP X cf σ Q) X.xe s
def qC(X:Cx)(f:Value)(r:List V->Hp->VK->Prop):Prop:=
 ∀(cf:ci) (s:Shared) (σ:St) (H:Hp) (xs:List V) (us:List Value) (Q:VK),Inv X cf σ H s->bQ xs us->r xs H Q->
  wpAny (model X.prog X.w) X.A (call f us) (EP X cf σ Q) X.xe s
def tOp(r:R2)(ta tb:TE):TE:=λσ H Q=>ta σ H λx H1=>tb σ H1 λy H2=>r x y H2 Q
def tUn(r:V->Hp->VK->Prop)(ta:TE):TE:=λσ H Q=>ta σ H λx H1=>r x H1 Q
def rI(C:Int->Int->Prop)(g:Int->Int->V):R2:=λx y H Q=>∃i j,x= .int i/\y= .int j/\C i j/\Q (g i j) H
def rI0(g:Int->Int->V):R2:=λx y H Q=>∃i j,x= .int i/\y= .int j/\Q (g i j) H
def rU(g:Int->V):V->Hp->VK->Prop:=λx H Q=>∃i,x= .int i/\Q (g i) H
def MV(ho:UnR X (unaryOp op) r)(ha:PE X a ta):PE X (.UnaryOp op a pos) (tUn r ta):=by
 intro c s d H Q I h;exact UnaryOp_ (thn (ha c s d H _ I h) λv i b=>by obtain⟨x,f,g,e,q1⟩:=b;exact ho c i d f x v Q g e q1)
def opI{g:Int->Int->Int}(rule: ∀(i j:Int) (t u:Tok) (s:Shared) (Q:cg) (E:cg),C i j->Q (.int (g i j) s.toks) {s with toks:=s.toks+1}->wpAny (model X.prog X.w) X.A (f (.int i t) (.int j u)) Q E s):
  OpR X f (rI C λi j=>.int (g i j)):=by
 intro l s e H x y v u Q I b c h;obtain⟨i,j,rfl,rfl,a,q⟩:=h;obtain⟨t,rfl⟩:=b;obtain⟨d,rfl⟩:=c;exact rule i j t d s _ _ a ⟨.int (g i j),H,I.tok _,⟨_,rfl⟩,q⟩
def JP{g:Int->Int->Int}(rule: ∀(i j:Int) (t u:Tok) (s:Shared) (Q:cg) (E:cg),Q (.int (g i j) s.toks) {s with toks:=s.toks+1}->wpAny (model X.prog X.w) X.A (f (.int i t) (.int j u)) Q E s):
  OpR X f (rI0 λi j=>.int (g i j)):=by
 intro e s d H x y v u Q I a b h;obtain⟨i,j,rfl,rfl,q⟩:=h;obtain⟨t,rfl⟩:=a;obtain⟨c,rfl⟩:=b;exact rule i j t c s _ _ ⟨.int (g i j),H,I.tok _,⟨_,rfl⟩,q⟩
def Mi{g:Int->Int->Bool}(rule: ∀(i j:Int) (t u:Tok) (s:Shared) (Q:cg) (E:cg),Q (.bool (g i j)) s->wpAny (model X.prog X.w) X.A (f (.int i t) (.int j u)) Q E s):
  OpR X f (rI0 λi j=>.bl (g i j)):=by
 intro e s d H x y v u Q I a b h;obtain⟨i,j,rfl,rfl,q⟩:=h;obtain⟨t,rfl⟩:=a;obtain⟨c,rfl⟩:=b;exact rule i j t c s _ _ ⟨.bl (g i j),H,I,rfl,q⟩
def OW(i j:Int):Prop:=0<j/\j<1073741824
def OX(i j:Int):Prop:=0<=j/\j<=1000000/\i.natAbs<2^64
def MX(i j:Int):Prop:=(-(2^64)<i/\i<2^64)\/(-(2^64)<j/\j<2^64)
def MX.ok(h:MX i j):IntMulOk i j:=by
 rcases h with ⟨a,b⟩|⟨a,b⟩
 ·exact .of_left (intBits_le_64 a b)
 ·exact .of_right (intBits_le_64 a b)
def xW(k:Nat):(0:Int)<=2^k:=by
 rw[two_pow_cast];exact Int.natCast_nonneg _
def JQ:OpR X (binaryOp .Add) (rI0 λi j=>.int (i+j)):=JP λ_ _ _ _ _ _ _ q=>add_int q
def JR:OpR X (binaryOp .Sub) (rI0 λi j=>.int (i-j)):=JP λ_ _ _ _ _ _ _ q=>sub_int q
def JS:OpR X (binaryOp .Mult) (rI MX λi j=>.int (i*j)):=opI λ_ _ _ _ _ _ _ a q=>mul_int q a.ok
def FQ:OpR X (binaryOp .FloorDiv) (rI OW λi j=>.int (i/j)):=opI λi j _ _ _ _ _ a q=>by
 have c:(0:Int)<j:=a.1;have b:j<1073741824:=a.2;exact floordiv_int (by lia) (by rw[Int.fdiv_eq_ediv_of_nonneg i (by lia)];exact q) (.inl (PyProof.noPylong_small (by lia)))
def JT:OpR X (binaryOp .Mod) (rI (λ_ j=>0<j) λi j=>.int (i % j)):=opI λi j _ _ _ _ _ a q=>by
 have b:(0:Int)<j:=a;exact mod_int' (by lia) (by rw[Int.fmod_eq_emod_of_nonneg i (by lia)];exact q)
def JU:OpR X (binaryOp .LShift) (rI OX λi j=>.int (i*2^j.toNat)):=opI λ_ _ _ _ _ _ _ a q=>lshift_int_small a.1 a.2.1 a.2.2 q
def JV:OpR X (binaryOp .RShift) (rI (λ_ j=>0<=j) λi j=>.int (i/2^j.toNat)):=opI λi j _ _ _ _ _ a q=>
 rshift_int a (by rw[Int.fdiv_eq_ediv_of_nonneg i (xW _)];exact q)
def JW:OpR X (binaryOp .BitAnd) (rI0 λi j=>.int (Builtin.bitAnd i j)):=JP λ_ _ _ _ _ _ _ q=>and_int q
def MY:OpR X (binaryOp .BitOr) (rI0 λi j=>.int (Builtin.bitOr i j)):=JP λ_ _ _ _ _ _ _ q=>or_int q
def JX:OpR X (binaryOp .BitXor) (rI0 λi j=>.int (Builtin.bitXor i j)):=JP λ_ _ _ _ _ _ _ q=>xor_int q
def unI{g:Int->Int}(rule: ∀(i:Int) (t:Tok) (s:Shared) (Q:cg) (E:cg),Q (.int (g i) s.toks) {s with toks:=s.toks+1}->wpAny (model X.prog X.w) X.A (f (.int i t)) Q E s):
  UnR X f (rU λi=>.int (g i)):=by
 intro b s c H x v Q I a h;obtain⟨i,rfl,q⟩:=h;obtain⟨t,rfl⟩:=a;exact rule i t s _ _ ⟨.int (g i),H,I.tok _,⟨_,rfl⟩,q⟩
def JY:UnR X (unaryOp .USub) (rU λi=>.int (-i)):=unI λ_ _ _ _ _ q=>neg_int q
def Eu{σ:St}(I:Inv X cf σ H s)(q:Q (.bl k) H)(e:k=k'):EP X cf σ Q (.bool k') s:=by
 subst e;exact⟨.bl k,H,I,rfl,q⟩
def MZ:OpR X (compareOp .Lt) (rI0 λi j=>.bl (decide (i<j))):=Mi λ_ _ _ _ _ _ _ q=>lt_int q
def M2:OpR X (compareOp .LtE) (rI0 λi j=>.bl (decide (i<=j))):=Mi λ_ _ _ _ _ _ _ q=>le_int q
def M3:OpR X (compareOp .Gt) (rI0 λi j=>.bl (decide (j<i))):=Mi λ_ _ _ _ _ _ _ q=>gt_int q
def M4:OpR X (compareOp .GtE) (rI0 λi j=>.bl (decide (j<=i))):=Mi λ_ _ _ _ _ _ _ q=>ge_int q
def JZ:OpR X (compareOp .Is) (λx y H Q=>y= .non/\Q (.bl (decide (x= .non))) H):=by
 intro d s c H x y v u Q I a b h;obtain⟨rfl,q⟩:=h;cases b;refine is_none_gen (Eu I q ?_)
 cases x<;>first
  |(cases a;rfl)
  |(obtain⟨t,rfl⟩:=a;rfl)
def FT:OpR X (compareOp .IsNot) (λx y H Q=>y= .non/\Q (.bl (!decide (x= .non))) H):=by
 intro d s c H x y v u Q I a b h;obtain⟨rfl,q⟩:=h;cases b;refine isnot_none_gen (Eu I q ?_)
 cases x<;>first
  |(cases a;rfl)
  |(obtain⟨t,rfl⟩:=a;rfl)
def M5(t:TE):TT:=λσ H Q=>t σ H λx H'=>∃k,x= .bl k/\Q k H'
def FU(ho:OpR X (compareOp op) r)(ha:PE X a ta)(hb:PE X b tb)(hm:behindInMarks op b=q4):PT X (.Compare a [op] [b] pos) (M5 (tOp r ta tb)):=by
 intro f s d H Q I h
 refine wpAny_isTrue_Compare1 (thn (ha f s d H _ I h) λv n ⟨x,o,p,g,q1⟩=>thn (hb f n d o _ p q1) λu m ⟨y,H2,i,j,q2⟩=>
  thn (ho f m d H2 x y v u _ i g j q2) λc t ⟨z,H3,q,l,k,e,q3⟩=>?_) hm
 subst e;cases l;exact wpAny_truthy_bool ⟨H3,q,q3⟩
def nI:(sizeLine:Nat)<2^63:=by rw[sizeLine_eq];decide
def xX:OpR X (binaryOp .Add) (λx y H Q=>∃i j,x= .str i/\y= .str j/\i.length+j.length<=sizeLine/\Q (.str (i++j)) H):=by
 intro g s f H x y v u Q I a b h;obtain⟨i,j,rfl,rfl,d,q⟩:=h;obtain⟨t,rfl⟩:=a;obtain⟨c,rfl⟩:=b;exact add_str (λc e=>⟨.str (i++j),H,I.tok _,⟨_,rfl⟩,q⟩) d
def mU(r:bQ [x] us): ∃u,us=[u]/\bG x u:=by
 cases r with
 |cons a b=>cases b;exact⟨_,rfl,a⟩
def qD:qC X (.type "int") (λxs H Q=>(∃i,xs=[.int i]/\Q (.int i) H)\/∃k,xs=[.bl k]/\Q (.int (if k then 1 else 0)) H):=by
 intro d s c H xs b Q I r h;rcases h with ⟨i,rfl,q⟩|⟨k,rfl,q⟩
 ·obtain⟨u,rfl,t,rfl⟩:=mU r;exact call_int_int ⟨.int i,H,I,⟨_,rfl⟩,q⟩
 ·obtain⟨u,rfl,a⟩:=mU r;cases a;exact call_int_bool ⟨.int (if k then 1 else 0),H,I.tok _,⟨_,rfl⟩,q⟩
def qE:qC X (.type "str") (λxs H Q=>∃i,xs=[.int i]/\i.natAbs.log2<1920/\Q (.str (toString i)) H):=by
 intro d s c H xs b Q I r h;obtain⟨i,rfl,a,q⟩:=h;obtain⟨u,rfl,t,rfl⟩:=mU r;exact PySem.P.str_of_int a ⟨.str _,H,I.tok _,⟨_,rfl⟩,q⟩
structure ObjM(h:Heap)(x dx C:Addr)(mA:Str->Option Value):Prop where
 obj:h.get? x=qv (l0 C dx)
 ns:h.Ns1 dx mA
 ne:dx≠x
def zV{h:Heap}(n:h.Ns1 dx mA): ∃od,h.get? dx=qv od/\∀name,ng name od=qv (mA name):=by
 obtain⟨o,es,j,d,i,hk,_,g⟩:=n;refine⟨o,d,λname=>?_⟩
 have e:=g name;unfold nsFind findBy at e;rw[<-Array.find?_toList]at e;unfold ng;rw[i]
 dsimp only
 split
 ·rename_i y q;rw[q]at e;exact congrArg qv e
 ·rename_i q;rw[q]at e
  have a:es.toList.any (·.refKey)=q4:=by
   rw[List.any_eq_false];intro y c;obtain⟨z,t,b⟩:=hk y (Array.mem_toList_iff.mp c);simp[DictEntry.refKey,b]
  have f: ¬es.toList.any (·.refKey)=qz:=by rw[a];exact bg
  rw[if_neg f];exact congrArg qv e
def ObjM.look(I:ObjM h x dx C mA): ∃od,PySem.W.InstAt h x (l0 C dx) C (qv od)/\∀name,ng name od=qv (mA name):=
 let ⟨od,ho,hl⟩:=zV I.ns
 ⟨od,⟨I.obj,rfl,rfl,ho⟩,hl⟩
section
variable{E:cg}{s:Shared}{K:og}
def FV{Q:cg}(X:K.In s.heap)(I:ObjM s.heap x dx C mA)(hg:km K C name=qz)(hh:jp K C=qz)(ha:nh K (.ref C) name=qv qw)(hv:mA name=qv v)(hv':PySem.W.handedIn v=qz)(h:Q v {s with toks:=s.toks+1}):
  wpAny (model prog w) A (getAttr (.ref x) name expr) Q E s:=by
 obtain⟨b,J,a⟩:=I.look;exact PySem.W.get_value X J (iz hg).1 (PySem.W.findObj_own hh ha rfl (by rw[a,hv])) hv' h
def CL(X:K.In s.heap)(I:ObjM s.heap x dx C mA)(hg:km K C name=qz)(hf:nh K (.ref C) name=qv (qv (.ref f)))(ht:ot K (.ref f)=qz)(hv:mA name=qw)(h:Q (.ref f,[.ref x]) s):
  wpAny (model prog w) A (getMethod (.ref x) name pl) Q E s:=by
 obtain⟨b,J,a⟩:=I.look;exact PySem.W.method_fn X J (iz hg).1 (iz hg).2 hf (beq_iff_eq.mp ht) (by show(ng name b).map (·.isSome)=qv q4;rw[a,hv];rfl) h
def FW(X:K.In s.heap)(I:ObjM s.heap x dx C mA)(hs:nh K (.ref C) "__setattr__"=qv (qv (.builtin "object.__setattr__")))(hp:jq K C=qz)(ht:PySem.W.takerIn K C name=qv qw)(hh:jp K C=qz)(hw:oj mA ns)(hsz:ns.length<=sizeLine)(h: ∀h',ObjM h' x dx C (λy=>if y=name then qv v else mA y)->oo dx s.heap h'->Q () {s with heap:=h',toks:=s.toks+2}):
  wpAny (model prog w) A (setAttr (.ref x) name v) Q E s:=by
 obtain⟨p,J,o⟩:=I.look;refine PySem.W.set_plain X J hs (PySem.W.osa_open (s:={s with toks:=s.toks+1}) (r:=qw) X J hp ht λb=>?_)
 obtain⟨t,l,e⟩:=PySem.W.any_some hh
 have j:s.heap.get? x=qv ⟨.ref C,qv dx,.plain, #[]⟩:=I.obj
 refine aa (ae (aa (aa (wpAny_loadPart j (aa (PySem.W.Looks.here (s:={s with toks:=s.toks+1}) (PySem.W.looks_clsIn X l) ?_))))))
 rw[e];refine ae (a:=qv dx) (aa (ae (aa ?_)));refine wpAny_nsSet1 (s:={s with toks:=s.toks+1}) I.ns λh' c d=>?_
 obtain⟨q,n,m,i,g,f⟩:=c.count (oj.cons name v hw);refine aa (wpAny_lookBehind i (by rw[g];exact pastItsLine_dict (ol f (by rw[bu];lia))) ?_)
 exact ae (h _ ⟨(d.2 _ (qu I.ne)).trans I.obj,c,I.ne⟩ d)
def CM(X:K.In s.heap)(hm:PySem.W.makesIn K C=qz)(hi:nh K (.ref C) "__init__"=qv (qv (.ref f)))(hf:PySem.W.typeIn K (.ref f)=qv (.type "function"))(h:codeAny (model prog w) (A.under (.builtin "type.__call__" ⟨.ref C::vs,kw⟩)) (.call (.ref f) ⟨.ref (s.heap.objs.size+1)::vs,kw⟩) (PySem.W.InitBack (s.heap.objs.size+1) R)
   {s with heap:=(s.heap.push jr).push (l0 C s.heap.objs.size)}):
  codeAny (model prog w) A (.call (.ref C) ⟨vs,kw⟩) R s:=by
 obtain⟨c,g,d,t,b⟩:=s;exact PySem.W.make_core (PySem.W.makes_of X hm) (PySem.W.looks_findIn X hi) (λa=>PySem.W.bind_fn X a hf) (.inl rfl) h
end
noncomputable def tP(f:Str)(v:V):List (Str×V)->List (Str×V)
 |[]=>[(f,v)]
 |(g,x)::r=>if g=f then(g,v)::r else(g,x)::tP f v r
theorem lE(f g:Str)(v:V): ∀fs:List (Str×V),(tP f v fs).lookup g=if g=f then qv v else fs.lookup g
 |[]=>by
  show pf g [(f,v)]=_
  by_cases h:g=f
  ·have a:(g==f)=qz:=beq_iff_eq.mpr h
   simp only[pf,a,if_pos h]
  ·have a:(g==f)=q4:=beq_eq_false_iff_ne.mpr h
   simp only[pf,a,if_neg h]
 |(k,x)::r=>by
  have b:=lE f g v r;rw[show tP f v ((k,x)::r)=(if k=f then(k,v)::r else(k,x)::tP f v r) from rfl]
  by_cases hk:k=f
  ·rw[if_pos hk]
   by_cases h:g=k
   ·have a:(g==k)=qz:=beq_iff_eq.mpr h
    simp only[pf,a,if_pos (h.trans hk)]
   ·have a:(g==k)=q4:=beq_eq_false_iff_ne.mpr h
    simp only[pf,a,if_neg (λe:g=f=>h (e.trans hk.symm))]
  ·rw[if_neg hk]
   by_cases h:g=k
   ·have a:(g==k)=qz:=beq_iff_eq.mpr h
    simp only[pf,a,if_neg (λe:g=f=>hk (h.symm.trans e))]
   ·have a:(g==k)=q4:=beq_eq_false_iff_ne.mpr h
    simp only[pf,a];exact b
theorem lF(f:Str)(v:V): ∀fs:List (Str×V),f∈(tP f v fs).map (·.1)/\∀g,g∈fs.map (·.1)->g∈(tP f v fs).map (·.1)
 |[]=>⟨by simp[tP],λg h=>by simp at h⟩
 |(k,x)::r=>by
  obtain⟨a,b⟩:=lF f v r;rw[show tP f v ((k,x)::r)=(if k=f then(k,v)::r else(k,x)::tP f v r) from rfl]
  by_cases hk:k=f
  ·rw[if_pos hk];subst hk;exact⟨by simp,λg h=>by simpa using h⟩
  ·rw[if_neg hk];refine⟨?_,λg h=>?_⟩
   ·rw[ny];exact iq _ a
   ·rw[ny]at h ⊢;rcases au.mp h with e|e
    ·exact au.mpr (.inl e)
    ·exact iq _ (b g e)
theorem lG(f:Str)(v:V): ∀fs:List (Str×V),(tP f v fs).length<=fs.length+1
 |[]=>by simp[tP]
 |(k,x)::r=>by
  have a:=lG f v r;rw[show tP f v ((k,x)::r)=(if k=f then(k,v)::r else(k,x)::tP f v r) from rfl]
  by_cases hk:k=f
  ·rw[if_pos hk,bu,bu];lia
  ·rw[if_neg hk,bu,bu];lia
def p5.some_of(r:p5 (qv v) o): ∃u,o=qv u/\bG v u:=by
 cases o with
 |none=>exact(show False from r).elim
 |some u=>exact⟨u,rfl,r⟩
def p5.none_of(r:p5 qw o):o=qw:=by
 cases o with
 |none=>rfl
 |some u=>exact(show False from r).elim
def zW(r:bG v u):PySem.W.handedIn u=qz:=by
 cases v with
 |non=>cases (show u=p3 from r);rfl
 |bl b=>cases (show u=p4 b from r);rfl
 |int i=>obtain⟨t,e⟩:=(show ∃t,u=qh i t from r);cases e;rfl
 |str x=>obtain⟨t,e⟩:=(show ∃t,u=qi x t from r);cases e;rfl
 |byt b=>obtain⟨t,e⟩:=(show ∃t,u=Value.bytes b t from r);cases e;rfl
 |flt b=>obtain⟨t,e⟩:=(show ∃t,u=Value.float b t from r);cases e;rfl
 |ref a=>cases (show u=qj a from r);rfl
 |ty n=>cases (show u=qa n from r);rfl
def t6(hok:HOk P w H h)(e:H a=qv (.ins C dx fs)): ∃mA,ObjM h a dx C mA/\(∀f,p5 (fs.lookup f) (mA f))/\oj mA (fs.map (·.1))/\fs.length<=1000/\H dx=qv (.own a):=by
 obtain⟨d,z,c,b,mA,n,r,q⟩:=(show ObjOk P w H h a (.ins C dx fs) from hok a _ e)
 exact⟨mA,⟨b,n,c⟩,r,q,z,d⟩
structure Cls(K:og)(C:Addr):Prop where
 pg:km K C qk=qz
 hd:jp K C=qz
 po:jq K C=qz
 sa:nh K (.ref C) "__setattr__"=qv (qv (.builtin "object.__setattr__"))
def Cls.get{K:og}(c:Cls K C)(f:Str):km K C f=qz:=c.pg
def iA(K:og)(C:Addr)(f:Str):Prop:=nh K (.ref C) f=qv qw
def iA.taker{K:og}(n:iA K C f):PySem.W.takerIn K C f=qv qw:=by
 unfold PySem.W.takerIn;rw[show nh K (.ref C) f=qv qw from n]
 rfl
structure Meth(K:og)(C:Addr)(m:Str)(f:Addr):Prop where
 at_:nh K (.ref C) m=qv (qv (.ref f))
 fn:ot K (.ref f)=qz
 kp:ni K (.ref f)=qz
section
variable{σ:St}{E:cg}
def xY{Q:cg}(I:Inv X cf σ H s)(e:H a=qv (.ins C dx fs))(c:Cls X.K C)(n:iA X.K C f)(l:fs.lookup f=qv v)(h: ∀u s',Inv X cf σ H s'->bG v u->Q u s'):wpAny (model X.prog X.w) A (getAttr (.ref a) f b) Q E s:=by
 obtain⟨g,O,r,_,_,_⟩:=t6 I.hok e;obtain⟨u,i,d⟩:=p5.some_of (v:=v) (o:=g f) (by rw[<-l];exact r f)
 exact FV I.kIn O (c.get f) c.hd n i (zW d) (h u _ (I.tok _) d)
def nJ(I:Inv X cf σ H s)(e:H a=qv (.ins C dx fs))(c:Cls X.K C)(k:Meth X.K C m g)(l:fs.lookup m=qw)(h:Q (.ref g,[.ref a]) s):wpAny (model X.prog X.w) A (getMethod (.ref a) m pl) Q E s:=by
 obtain⟨b,O,r,_,_,_⟩:=t6 I.hok e
 have d:b m=qw:=p5.none_of (by rw[<-l];exact r m)
 exact CL I.kIn O (c.get m) k.at_ k.fn d h
def xZ(I:Inv X cf σ H s)(e:H a=qv (.ins C dx fs))(c:Cls X.K C)(n:iA X.K C f)(hl:fs.length<1000)(ry:bG y u)(h: ∀s',Inv X cf σ (upd H a (.ins C dx (tP f y fs))) s'->Q () s'):wpAny (model X.prog X.w) A (setAttr (.ref a) f u) Q E s:=by
 obtain⟨i,O,r,j,_,l⟩:=t6 I.hok e
 have B:(fs.map (·.1)).length<=sizeLine:=by rw[ao,sizeLine_eq];lia
 refine FW I.kIn O c.sa c.po n.taker c.hd j B λt d p=>h _ ?_
 have hd: ∃o,t.get? dx=qv o:=let ⟨o,_,_,e',_⟩:=d.ns;⟨o,e'⟩
 refine I.write (x:=a) (e:=dx) (by rw[e];exact qb) (.inr l) (λb q v z=>(p.2 b v).trans z) hd ?_
 refine⟨by rw[aD O.ne];exact l,?_,O.ne,d.obj,_,d.ns,λg=>?_,λg m=>?_⟩
 ·have:=lG f y fs;lia
 ·show p5 ((tP f y fs).lookup g) (if g=f then qv u else i g)
  rw[lE]
  by_cases q:g=f
  ·rw[if_pos q,if_pos q];exact ry
  ·rw[if_neg q,if_neg q];exact r g
 ·by_cases q:g=f
  ·rw[q];exact(lF f y fs).1
  ·refine(lF f y fs).2 g (j g λz=>m ?_)
   show(if g=f then qv u else i g)=qw
   rw[if_neg q];exact z
def Inv.made(I:Inv X cf σ H s):Inv X cf σ (upd (upd H s.heap.objs.size (.own (s.heap.objs.size+1))) (s.heap.objs.size+1) (.ins C s.heap.objs.size []))
  {s with heap:=(s.heap.push jr).push (l0 C s.heap.objs.size)}:=by
 have c:(s.heap.push jr).get? s.heap.objs.size=qv jr:=ag s.heap rfl
 have f:((s.heap.push jr).push (l0 C s.heap.objs.size)).get? (s.heap.objs.size+1)=qv (l0 C s.heap.objs.size):=by
  have:=ag (s.heap.push jr) (o:=l0 C s.heap.objs.size) rfl
  rwa [ai]at this
 have j:(s.heap.push jr).Ns s.heap.objs.size (λ_=>qw):=⟨jr, #[],_,c,rfl,(λe i=>absurd i (by simp)),λ_=>rfl⟩
 have h:=I.laid (a:=s.heap.objs.size) (o:=.own (s.heap.objs.size+1)) (h':=s.heap.push jr) (t':=s.toks) (λb u q=>af _ q) (aj _) ⟨_,c⟩
 refine h.laid (a:=s.heap.objs.size+1) (o:=.ins C s.heap.objs.size []) (t':=s.toks) (λb u q=>af _ q) (Nat.le_of_eq (ai _ _)) ?_
 have d:s.heap.objs.size≠s.heap.objs.size+1:=bj (kn _);refine⟨by rw[aD d,aG],cb _,d,f,λ_=>qw,(Heap.Ns1.of_empty j).at λo q=>af _ q,λ_=>qb,λy g=>absurd rfl g⟩
def FX{Q:cg}(hb:attributeBase e f env (eval e env)=eval e env)(h:wpAny (model prog w) A (eval e env) (λo s₁=>wpAny (model prog w) A (getAttr o f qz) Q E s₁) E s):wpAny (model prog w) A (eval (.Attribute e f pos) env) Q E s:=
 Attribute_any_ h (by rw[arm_eval_Attribute,hb])
end
def Mj(K:og)(ta:TE)(f:Str):TE:=λσ H Q=>ta σ H λx H1=>∃a C dx fs v,x= .ref a/\H1 a=qv (.ins C dx fs)/\Cls K C/\iA K C f/\fs.lookup f=qv v/\Q v H1
def OY(K:og)(ta tv:TE)(f:Str):TS:=λD σ H=>tv σ H λy H1=>ta σ H1 λx H2=>∃a C dx fs,x= .ref a/\H2 a=qv (.ins C dx fs)/\Cls K C/\iA K C f/\fs.length<1000/\
 D.nx σ (upd H2 a (.ins C dx (tP f y fs)))
def iX(he:PE X e ta)(hb:attributeBase e f X.env (eval e X.env)=eval e X.env):PE X (.Attribute e f pos) (Mj X.K ta f):=by
 intro t s m H Q I h;refine FX hb (thn (he t s m H _ I h) λu B b=>?_)
 obtain⟨x,p,r,o,a,C,y,fs,v,g,d,c,n,l,q⟩:=b;subst g;obtain rfl:u=qj a:=o;exact xY r d c n l λz A i j=>⟨v,p,i,j,q⟩
def vI(ha:PE X o ta)(hv:PE X value tv)(hs:swapsWith value (qv (.Attribute o f pos')) pos.line X.env=pure q4):PS X (.Assign [.Attribute o f pos'] value pos) (OY X.K ta tv f):=by
 intro d s b H D I h;refine plainObj_wpAny_Assign_Attribute (thn (hv d s b H _ I h) λu m ⟨y,t,v,r,q⟩=>thn (ha d m b t _ v q) λg B ⟨x,H2,j,p,a,C,A,fs,i,e,c,n,l,q2⟩=>?_) hs
 subst i;obtain rfl:g=qj a:=p;exact xZ j e c n l r λE z=>⟨b,_,z,q2⟩
structure Room(k:Nat)(A:Around):Prop where
 hd:A.handled=qw
 dp:A.depth+3*k+5<recursionLimit
 un:A.units+16*k+200<cLine
def Room.mono(r:Room k A)(h:j<=k):Room j A:=⟨r.hd,by have:=r.dp;lia,by have:=r.un;lia⟩
theorem Room.deeper(r:Room (k+1) A)(env:Env):Room k (A.deeper env):=
 ⟨r.hd,by have:=r.dp;show A.depth+1+3*k+5<_;lia,by have:=r.un;show A.units+3+16*k+200<_;lia⟩
def x6{A:Around}:(A.under (.builtin "type.__call__" ⟨.ref C::us,kw⟩)).depth=A.depth+1:=by
 first|rfl|simp[Around.under,Code.weight,Code.isCreation,Code.isGuard,Code.isCaller,Code.frames,Code.isFrame,guardIds]
def x8{A:Around}:(A.under (.builtin "type.__call__" ⟨.ref C::us,kw⟩)).units=A.units+1:=by
 first|rfl|simp[Around.under,Code.cUnits,Code.frames,Code.isFrame]
def Room.make(r:Room (k+1) A)(C:Addr)(us:List Value)(kw:List (Str×Value)):Room k (A.under (.builtin "type.__call__" ⟨.ref C::us,kw⟩)):=
 ⟨r.hd,by have:=r.dp;rw[x6];lia,by have:=r.un;rw[x8];lia⟩
theorem Room.depth(r:Room k A):A.depth<recursionLimit:=by have:=r.dp;lia
theorem Room.units(r:Room k A):A.units+64<cLine:=by have:=r.un;lia
def Ev:TA:=λ_ H Q=>Q [] H
def oQ(ta:TE)(tr:TA):TA:=λσ H Q=>ta σ H λx H1=>tr σ H1 λxs H2=>Q (x::xs) H2
section
variable{X:Cx}{e:Expr}{es:List Expr}{te:TE}{t:TA}
def cZ:PA X [] Ev:=λ_ _ _ _ H Q I h=>jt ⟨[],H,I,.nil,h⟩
def b8(ha:PE X e te)(hr:PA X es t)(hs:starEach (e::es) X.env=(q4,eval e X.env)::starEach es X.env:=by rfl):PA X (e::es) (oQ te t):=by
 intro pos d s c H Q I h;rw[hs];show wpAny _ _ (spliced ((q4,eval e X.env)::backTo pos (starEach es X.env))) _ _ s;refine je (thn (ha d s c H _ I h) λu l a=>?_)
 obtain⟨x,m,n,f,q1⟩:=a;exact thn (hr pos d l c m _ n q1) λp o b=>by obtain⟨j,H2,g,i,q2⟩:=b;exact⟨x::j,H2,g,.cons f i,q2⟩
def OZ(t:TA):TE:=λσ H Q=>t σ H λxs H1=>xs.length<=sizeLine/\∀p,H1 p=qw->Q (.ref p) (upd H1 p (.tup xs))
def O0(t:TA):TE:=λσ H Q=>t σ H λxs H1=>xs.length<=sizeLine/\∀p,H1 p=qw->Q (.ref p) (upd H1 p (.lst xs))
def Ew(h:PA X es t):PE X (.Tuple es x1 pos) (OZ t):=by
 intro j s i H Q I m;refine wpAny_Tuple_spliced (thn (h pos j s i H _ I m) λg a ⟨f,c,d,r,z,q⟩=>⟨by rw[<-r.length];exact z,?_⟩)
 have l:c a.heap.objs.size=qw:=d.hok.fresh (aj _)
 refine⟨.ref a.heap.objs.size,upd c a.heap.objs.size (.tup f),d.laid (t':=a.toks) (λb u e=>af _ e) (aj _) ?_,rfl,q _ l⟩
 exact⟨z,g,r,⟨_,ag _ rfl,rfl,_,rfl⟩,⟨_,ag _ rfl,rfl⟩⟩
def vJ(h:PA X es t):PE X (.List es pos) (O0 t):=by
 intro j s i H Q I m;refine wpAny_List_spliced (thn (h pos j s i H _ I m) λg a ⟨f,c,d,r,z,q⟩=>⟨by rw[<-r.length];exact z,?_⟩)
 have l:c a.heap.objs.size=qw:=d.hok.fresh (aj _)
 refine⟨.ref a.heap.objs.size,upd c a.heap.objs.size (.lst f),d.laid (t':=a.toks) (λb u e=>af _ e) (aj _) ?_,rfl,q _ l⟩
 exact⟨z,g,0,r,ag _ rfl⟩
end
abbrev Sp:=List V->Hp->VK->XK->Prop
abbrev CXT:=List Env->Hp->Shared->XK->Value->Shared->Prop
structure Env0(P:Program)(w:World)(K:og)(mg:Str->Option Value)(base:Heap)(A:Around)(outer:List Env)(s:Shared)(H:Hp):Prop where
 frames:A.frames=qv outer
 mod:Mod K mg base
 bs: ∀b o,base.get? b=qv o->s.heap.get? b=qv o/\H b=qw
 bsz:base.objs.size<=s.heap.objs.size
 funs:s.heap.FunFrames base outer
 frf: ∀b∈frs outer,H b=qw
 hok:HOk P w H s.heap
 bare:AllBare s.gens
def CE(outer:List Env)(P:Program)(w:World)(H:Hp)(s:Shared)(Q:VK)(u:Value)(s':Shared):Prop:=
 ∃v H',s'.os=s.os/\AllBare s'.gens/\Un (frs outer) [] H H' s.heap s'.heap/\HOk P w H' s'.heap/\bG v u/\Q v H'
def CR(CX:CXT)(outer:List Env)(P:Program)(w:World)(H:Hp)(s:Shared)(Q:VK)(E:XK)(r:Result)(s':Shared):Prop:=
 match r with
 |.ok (.ret u)=>CE outer P w H s Q u s'
 |.ok _=>False
 |.error e=>CX outer H s E e s'
structure FnOk(P:Program)(w:World)(K:og)(mg:Str->Option Value)(base:Heap)(CX:CXT)(k:Nat)(f:Addr)(fd:FuncData)(ps:List Str)(sp:Sp):Prop where
 len: ∀vs H Q E,sp vs H Q E->vs.length=ps.length
 run: ∀(A:Around) (outer:List Env) (s:Shared) (H:Hp) (args:Args) (us:List Value) (vs:List V) (Q:VK) (E:XK),Room k A->Env0 P w K mg base A outer s H->BindsTo s fd args (ps.zip us)->bQ vs us->sp vs H Q E->
  codeAny (model P w) A (.call (.ref f) args) (CR CX outer P w H s Q E) s
def FnOk.imp{K:og}(F:FnOk P w K mg base CX k f fd ps sp)(h: ∀vs H Q E,sp' vs H Q E->sp vs H Q E):FnOk P w K mg base CX k f fd ps sp':=
 ⟨λvs H Q E q=>F.len vs H Q E (h _ _ _ _ q),λA a s H args d vs Q E c g e b i=>F.run A a s H args d vs Q E c g e b (h _ _ _ _ i)⟩
def Env0.make{K:og}(e:Env0 P w K mg base A outer s H)(C:Addr)(us:List Value)(kw:List (Str×Value)):
  Env0 P w K mg base (A.under (.builtin "type.__call__" ⟨.ref C::us,kw⟩)) outer s H:=⟨by first|exact e.frames|(simpa[Around.under,Code.envs,Code.isFrame,pushEnvs]using e.frames),e.mod,e.bs,e.bsz,e.funs,e.frf,e.hok,e.bare⟩
section
variable{σ:St}
def Inv.env0(I:Inv X cf σ H s):Env0 X.prog X.w X.K X.mg X.base X.A X.stack s H:=
 ⟨I.ok.frames,I.ok.mod,I.bs,ol I.ok.bsz I.sz,I.stack,I.stkFree,I.hok,I.bare⟩
def Inv.after(I:Inv X cf σ H s)(h:CE X.stack X.prog X.w H s Q u s'):EP X cf σ Q u s':=by
 obtain⟨v,i,os,a,un,c,r,q⟩:=h;obtain⟨f,g,d,t,e⟩:=s';obtain rfl:e=s.os:=os;exact⟨v,i,I.call (h':=f) (g':=g) (d':=d) (t':=t) (ch:=[]) un c a (λb z=>absurd z (by simp)),r,q⟩
end
def M6(C:Addr)(sp:Sp)(dvs:List V)(E:XK)(t:TA):TE:=λσ H Q=>t σ H λvs H1=>∀x dx,H1 x=qw->H1 dx=qw->dx≠x->
 sp (.ref x::(vs++dvs)) (upd (upd H1 dx (.own x)) x (.ins C dx [])) (λv H2=>v= .non/\Q (.ref x) H2) E
def fB(K:og)(fd:FuncData)(ps:List Str)(ds:List Value):Prop:=
 ∀(s:Shared) (us:List Value),K.In s.heap->(us++ds).length=ps.length->BindsTo s fd ⟨us,[]⟩ (ps.zip (us++ds))
def fB.all{K:og}(h: ∀us:List Value,us.length=ps.length->bindArgs fd ⟨us,[]⟩=pure (ps.zip us)):fB K fd ps []:=λs us _ a=>by
 rw[mf]at a ⊢;exact .of_eq (h us a)
def Ey(CX:CXT)(X:Cx)(E:XK):Prop:= ∀(cf:ci) (σ:St) (H:Hp) (s:Shared) (e:Value) (s':Shared),Inv X cf σ H s->CX X.stack H s E e s'->X.xe e s'
section
variable{X:Cx}{CX:CXT}{k:Nat}{f C:Addr}{fd:FuncData}{ps:List Str}{sp:Sp}{dvs:List V}{ds:List Value}{E:XK}{x:Str}{p pos:Pos}
structure Mk(K:og)(C f:Addr):Prop where
 makes:PySem.W.makesIn K C=qz
 init:nh K (.ref C) "__init__"=qv (qv (.ref f))
 fn:ot K (.ref f)=qz
 kp:ni K (.ref C)=qz
def CN{cf:ci}{σ:St}{H:Hp}{s:Shared}{Q:VK}{us:List Value}{vs:List V}(M:Mk X.K C f)(F:FnOk X.prog X.w X.K X.mg X.base CX k f fd ps sp)(hr:Room (k+1) X.A)(hb:fB X.K fd ps ds)(hd:bQ dvs ds)(hx:Ey CX X E)(I:Inv X cf σ H s)(r:bQ vs us)(h: ∀x dx,H x=qw->H dx=qw->dx≠x->sp (.ref x::(vs++dvs)) (upd (upd H dx (.own x)) x (.ins C dx [])) (λv H2=>v= .non/\Q (.ref x) H2) E):
  wpAny (model X.prog X.w) X.A (call (.ref C) us) (EP X cf σ Q) X.xe s:=by
 have d:=h (s.heap.objs.size+1) s.heap.objs.size (I.hok.fresh (ph _)) (I.hok.fresh (aj _)) (bj (kn _));have b:=Inv.made (C:=C) I;have c:bQ (V.ref (s.heap.objs.size+1)::(vs++dvs)) (qj (s.heap.objs.size+1)::(us++ds)):=.cons rfl (r.append hd)
 have g:(qj (s.heap.objs.size+1)::us++ds).length=ps.length:=by
  have e:=c.length;rw[F.len _ _ _ _ d]at e;exact e.symm
 refine wpAny_call (CM (f:=f) I.kIn M.makes M.init (beq_iff_eq.mp M.fn) (codeAny_mono (F.run _ X.stack _ _ ⟨qj (s.heap.objs.size+1)::us,[]⟩ (qj (s.heap.objs.size+1)::(us++ds)) _ _ E (hr.make C us [])
  (b.env0.make C us []) (hb _ (qj (s.heap.objs.size+1)::us) b.kIn g) c d) λr i a=>?_))
 cases r with
 |error e=>exact hx cf σ _ _ e i b a
 |ok l=>
  cases l with
  |ret u=>
   obtain⟨v,m,n,j,ev,q3⟩:=b.after a;subst ev;exact⟨j,⟨V.ref (s.heap.objs.size+1),m,n,rfl,q3⟩⟩
  |next=>exact az a
  |brk=>exact az a
  |cont=>exact az a
def vK(M:Mk X.K C f)(F:FnOk X.prog X.w X.K X.mg X.base CX k f fd ps sp)(hr:Room (k+1) X.A)(hg:Gl X x)(hm:X.mg x=qv (.ref C))(hb:fB X.K fd ps ds)(hd:bQ dvs ds)(hx:Ey CX X E)
  (hdb:(x==("__debug__":Str))=q4:=by decide):PE X (.Call (.Name x p) [] [] pos) (M6 C sp dvs E Ev):=by
 intro b s a H Q I h;refine wpAny_Call_Name_kw (gA I hg hm ?_ hdb);exact PySem.W.callWith_K0 I.kIn M.kp (CN (us:=[]) M F hr hb hd hx I .nil h)
end
noncomputable def PK(X:Cx)(kws:List Keyword)(t:TA):Prop:=
 ∀(pos:Pos) (cf:ci) (s:Shared) (σ:St) (H:Hp) (Q:List V->Hp->Prop),Inv X cf σ H s->t σ H Q->wpAny (model X.prog X.w) X.A (evalAll ((backToKw pos (keywordEach kws X.env)).map (·.2))) (AP X cf σ Q) X.xe s
structure FnScope(N P:List Str)(sc:Scope):Prop where
 kind:sc.kind= .function
 co:sc.isCoroutine=q4
 gen:sc.isGenerator=q4
 nd:N.Nodup
 pre:N.take P.length=P
 par: ∀x∈P,sc.names.lookup x=qv .local\/sc.names.lookup x=qv .cell
 nofree: ∀y∈sc.names,y.2≠ .free
theorem qF{kindOf:Str->Option NameKind}{x:Str}: ∀{binds:List (Str×Value)} {m:Str->Option Value},(∀v,(x,v)∉binds)->bindL kindOf binds m x=m x
 |[],_,_=>rfl
 |(n,v)::r,m,h=>by
  unfold bindL;rw[qF λw a=>h w (iq _ a)]
  split
  ·have:x≠n:=by rintro rfl;exact h v jc
   simp[this]
  ·rfl
theorem qG{kindOf:Str->Option NameKind}{x:Str}: ∀{binds:List (Str×Value)} {m:Str->Option Value},(∀v,(x,v)∉binds)->bindC kindOf binds m x=m x
 |[],_,_=>rfl
 |(n,v)::r,m,h=>by
  unfold bindC;rw[qG λw a=>h w (iq _ a)]
  split
  ·rfl
  ·have:x≠n:=by rintro rfl;exact h v jc
   simp[this]
theorem qH{kindOf:Str->Option NameKind}{x:Str}{v:Value}: ∀{P:List Str} {vs:List Value} {i:Nat} {m:Str->Option Value},P.Nodup->P[i]? =qv x->vs[i]? =qv v->kindOf x=qv .local->
  bindL kindOf (P.zip vs) m x=qv v
 |[],_,_,_,_,h,_,_=>by simp at h
 |_::_,[],_,_,_,_,h,_=>by simp at h
 |p::P,w::vs,0,m,nd,h1,h2,hk=>by
  simp at h1 h2;subst h1;subst h2
  show bindL kindOf ((p,w)::P.zip vs) m p=_;unfold bindL;rw[qF λv a=>(mh.mp nd).1 (mm a).1,if_pos hk]
  simp
 |p::P,w::vs,i+1,m,nd,h1,h2,hk=>by
  show bindL kindOf ((p,w)::P.zip vs) m x=_;unfold bindL;exact qH (i:=i) (mh.mp nd).2 (by simpa using h1) (by simpa using h2) hk
theorem qI{kindOf:Str->Option NameKind}{x:Str}{v:Value}: ∀{P:List Str} {vs:List Value} {i:Nat} {m:Str->Option Value},P.Nodup->P[i]? =qv x->vs[i]? =qv v->kindOf x≠qv .local->
  bindC kindOf (P.zip vs) m x=qv v
 |[],_,_,_,_,h,_,_=>by simp at h
 |_::_,[],_,_,_,_,h,_=>by simp at h
 |p::P,w::vs,0,m,nd,h1,h2,hk=>by
  simp at h1 h2;subst h1;subst h2
  show bindC kindOf ((p,w)::P.zip vs) m p=_;unfold bindC;rw[qG λv a=>(mh.mp nd).1 (mm a).1,if_neg hk]
  simp
 |p::P,w::vs,i+1,m,nd,h1,h2,hk=>by
  show bindC kindOf ((p,w)::P.zip vs) m x=_;unfold bindC;exact qI (i:=i) (mh.mp nd).2 (by simpa using h1) (by simpa using h2) hk
noncomputable def start(N:List Str)(vs:List V):St:=vs.map qv++ak (N.length-vs.length) qw
noncomputable def p6(CX:CXT)(P:Program)(w:World)(K:og)(mg:Str->Option Value)(base:Heap)(N:List Str)(qual:Str)(scope:Scope)(f:Addr)(cd:Value)(A:Around)(outer:List Env)(s:Shared)(H:Hp)(E:XK):Cx where
 prog:=P
 w:=w
 K:=K
 mg:=mg
 base:=base
 A:=A.deeper (envOfC qual scope s.heap.objs.size f cd)
 N:=N
 s₀:=s
 H₀:=H
 env:=envOfC qual scope s.heap.objs.size f cd
 outer:=outer
 stack:=envOfC qual scope s.heap.objs.size f cd::outer
 ex:=[]
 calm:=qz
 fn:=λ_=>qz
 pn:=[]
 xe:=λe s'=>wpAny (model P w) (A.deeper (envOfC qual scope s.heap.objs.size f cd)) (leaving (envOfC qual scope s.heap.objs.size f cd) e) (λ_ s''=>CX outer H s E e s'') (λe' s''=>CX outer H s E e' s'') s'
def vL{sc:Scope}(h:sc.names.lookup x=qv .cell): ∃c,(cellsFrom n sc.names []).lookup x=qv c:=by
 have q:=PySem.W.cellsFrom_some sc.names n [] (.inl h);exact e7.mp q
def zX{K:og}(S:FnScope N ps scope)(hd:A.handled=qw)(e0:Env0 P w K mg base A outer s H)(hl:vs.length=ps.length)(r:bQ vs us)(x:InCallC s s.heap.objs.size (bindL (envOfC qual scope s.heap.objs.size f cd).kindOf (ps.zip us) λ_=>qw) (cellsFrom (s.heap.objs.size+1) scope.names []) (bindC (envOfC qual scope s.heap.objs.size f cd).kindOf (ps.zip us) λ_=>qw) s1):
  Inv (p6 CX P w K mg base N qual scope f cd A outer s H E) [] (start N vs) H s1:=by
 have G:ps.length<=N.length:=by have:=congrArg pi S.pre;rw[ko]at this;lia
 obtain⟨t,J,rfl,hk⟩:=x.done;have j: ∀b:Addr,b∉(p6 CX P w K mg base N qual scope f cd A outer s H E).ex:=λb z=>absurd (show b∈([]:List Addr) from z) (by simp)
 refine⟨⟨e0.mod,S.kind,rfl,rfl,aj _,λy z c t d=>?_,λy g=>?_,λy c _ h=>?_,λ_=>hd,Around.frames_deeper e0.frames,.inr ⟨rfl,rfl⟩,λb z=>absurd z (j b),e0.bs,e0.bsz,λb _ _=>j b,λb z=>absurd z (j b),e0.funs,e0.frf⟩,
  rfl,e0.bare,Un.kept hk,⟨_,x.toInCall.ns,λi y v t d L=>?_⟩,λy c h=>⟨_,x.cell y c h⟩,e0.hok.fresh (aj _),λy c h=>?_,λp l=>absurd (show p∈([]:ci) from l) (by simp),e0.hok.kept hk,?_⟩
 ·exact name_of_addr x.apart (i0 t) (i0 d)
 ·have g:scope.names.lookup y=qv .cell\/scope.names.lookup y=qv .free:=g
  rcases g with g|g
  ·exact vL g
  ·exact absurd rfl (S.nofree _ (i0 g))
 ·exact om (x.above y c (i0 h))
 ·have o:i<vs.length:=by
   unfold start at d
   by_cases o:i<vs.length
   ·exact o
   ·rw[bo (by simpa using o)]at d
    rw[fy]at d;split at d<;>cases d
  have I:vs[i]? =qv v:=by
   unfold start at d;rw[cc (by simpa using o),ju]at d
   cases e:vs[i]? with
   |none=>rw[e]at d;cases d
   |some a=>rw[e]at d;cases d;rfl
  obtain⟨u,B,C⟩:=r.get I
  have l:ps[i]? =qv y:=by
   rw[<-S.pre,List.getElem?_take_of_lt (by lia)];exact t
  have m:ps.Nodup:=by rw[<-S.pre];exact S.nd.sublist (List.take_sublist _ _)
  refine⟨u,C,?_⟩;rcases S.par y (List.mem_of_getElem? l)with k|k
  ·exact .inl ⟨k,qH m l B k⟩
  ·obtain⟨c,e⟩:=vL (n:=s.heap.objs.size+1) k;refine .inr ⟨.inl k,c,e,?_⟩;have q:=x.cell y c e;rw[qI m l B (by show scope.names.lookup y≠_;rw[k];decide)]at q
   exact q
 ·exact e0.hok.fresh (om (x.above y c (i0 h)))
 ·unfold start;show _=N.length;rw[bq,ao,ic]
  lia
def zY{K:og}{dV kV doc pm cdv ct oc:Value}(lk:K.lookup f=qv ⟨oc,od,.func (ou name qual params body scope dV kV doc pm an cdv ct),osl⟩)(hcd:PySem.W.codeIn K cdv qual=qz)(S:FnScope N ps scope)(len: ∀vs H Q E,sp vs H Q E->vs.length=ps.length)(hbody: ∀(A:Around) (outer:List Env) (s:Shared) (H:Hp) (vs:List V) (Q:VK) (E:XK),Room k (A.deeper (envOfC qual scope s.heap.objs.size f cdv))->sp vs H Q E->
   ∃t,PSs (p6 CX P w K mg base N qual scope f cdv A outer s H E) body t/\t {nx:=λ_ H'=>Q .non H',rt:=Q} (start N vs) H):
  FnOk P w K mg base CX (k+1) f (ou name qual params body scope dV kV doc pm an cdv ct) ps sp:=by
 refine⟨len,λA outer s H args L vs Q E m g T r h=>?_⟩
 have B:=len _ _ _ _ h;have z:K.In s.heap:=g.mod.kin.keeps λb o e=>(g.bs b o e).1
 have lim:s.heap.NoLimit:=g.mod.nolimit.keeps λb o e=>(g.bs b o e).1
 have c: ∀y∈ps.zip L,scope.names.lookup y.1=qv .local\/(scope.names.lookup y.1=qv .cell/\((cellsFrom (s.heap.objs.size+1) scope.names []).lookup y.1).isSome=qz):=λ⟨n,v⟩ C=>by
  rcases S.par n (mm C).1 with q|q
  ·exact .inl q
  ·exact .inr ⟨q,PySem.W.cellsFrom_some _ _ _ (.inl q)⟩
 refine codeAny_call_function m.depth (z _ _ lk) rfl S.co S.gen rfl (PySem.W.codeRec_of z hcd) (T _ _ _ _ ?_);refine wpAny_newFunctionEnv_cells S.kind c λU M p x=>?_
 subst M;refine⟨lim.keeps x.toInCall.keep,codeAny_func ?_⟩;obtain⟨t,X,O⟩:=hbody A outer s H vs Q E (m.deeper _) h;have I:Inv (p6 CX P w K mg base N qual scope f cdv A outer s H E) [] (start N vs) H p:=zX S m.hd g B r x;refine wpAny_mono (X [] p (start N vs) H _ I O) (λG j d=>?_) λe j d=>d
 have i: ∀{a:St} {H':Hp} {v:V} {u:Value},Inv (p6 CX P w K mg base N qual scope f cdv A outer s H E) [] a H' j->bG v u->Q v H'->CE outer P w H s Q u j:=
  λ{a H' v u} J l q=>⟨v,H',J.os,J.bare,J.base,J.hok,l,q⟩
 cases G with
 |ret u=>
  obtain⟨v,a,H',J,l,q⟩:=d;exact i J l q
 |next=>
  obtain⟨a,H',J,q⟩:=d;exact i (v:=V.non) (u:=p3) J rfl q
 |brk=>
  obtain⟨_,_,_,q⟩:=d;exact az q
 |cont=>
  obtain⟨_,_,_,q⟩:=d;exact az q
section
variable{X:Cx}{x:Str}{p pos:Pos}{e:Expr}{es:List Expr}{t:TA}{id:String}{r:List V->Hp->VK->Prop}
def tCB(r:List V->Hp->VK->Prop)(t:TA):TE:=λσ H Q=>t σ H λvs H1=>r vs H1 Q
def CO(hc:qC X (.builtin id) r)(hg:Gl X x)(hm:X.mg x=qw)(hv:bootBuiltins x=qv (.builtin id))(ha:PA X (e::es) t)(hn:x≠"__name__":=by decide)(hdb:(x==("__debug__":Str))=q4:=by decide)
  (he:starEach (e::es) X.env=(q4,eval e X.env)::starEach es X.env:=by rfl) (hpl:(backTo pos (starEach es X.env)).any (·.1)=q4:=by rfl):PE X (.Call (.Name x p) (e::es) [] pos) (tCB r t):=by
 intro b s c H Q I h;refine wpAny_Call_Name_kw (gB I hg hm hv ?_ hn hdb);exact dy (thn (ha pos b s c H _ I h) λl j a=>by obtain⟨i,f,g,d,q1⟩:=a;exact hc b j c f i l Q g d q1) he hpl
end
end L2
namespace HT
open PySem PyProof.Rows
section
open PySem.SeqAt
open PySem.AutoSeq1 (wpAny_loadPart')
open PySem.MeetsSeq PySem.MeetsSeq2 PySem.MeetsSeq3
end
section
variable{prog:Program}{w:World}{A:Around}{E:cg}{s:Shared}
def cat_tup{Q:cg}(ht:IsTup s.heap t vs.toArray)(hb:IsTup s.heap b ws.toArray)(hv:vs≠[])(h1:ws=[]->Q (.ref t) s)(h2:ws≠[]->Q (.ref s.heap.objs.size) {s with heap:=s.heap.push {cls:=.type "tuple",data:=.seq (vs++ws).toArray} })(hsz:vs.length+ws.length<=sizeLine):wpAny (model prog w) A (binaryOp .Add (.ref t) (.ref b)) Q E s:=by
 obtain⟨⟨cls,dd,data,p⟩,h,l,n,q⟩:=id ht;obtain⟨⟨o,f,j,g⟩,a,c,m,d⟩:=id hb
 simp only at l q c d
 subst l q c d
 have e:vs.toArray++ws.toArray=(vs++ws).toArray:=by simp
 by_cases i:ws=[]
 ·exact concat_meets ⟨_,h,rfl⟩ ⟨_,a,rfl⟩ noFill_tuple_add seq_tuple_add gr fz (fg _ _)
   (tuple_addW1 t b vs.toArray ws.toArray n m dd f p g (by simpa using hv) (by simp[i])) ⟨h,a,h1 i⟩
 ·refine concat_meets ⟨_,h,rfl⟩ ⟨_,a,rfl⟩ noFill_tuple_add seq_tuple_add gr fz (fg _ _)
   (tuple_addW2 t b vs.toArray ws.toArray n m dd f p g (by simpa using hv) (by simpa using i) (by rw[aw,aw];exact hsz)) ⟨h,a,?_⟩
  rw[e];exact h2 i
noncomputable def sIx(n d:Nat):Option Int->Nat
 |none=>d
 |some v=>if v<0 then(v+(n:Int)).toNat else min v.toNat n
def J0(n d:Nat)(hd:d<=n)(o:Option Int):sIx n d o<=n:=by
 cases o with
 |none=>exact hd
 |some v=>
  show(if v<0 then(v+(n:Int)).toNat else min v.toNat n)<=n
  by_cases a:v<0
  ·rw[if_pos a];lia
  ·rw[if_neg a];exact Nat.min_le_right _ _
def zZ(v:Int)(n d:Nat):(if v<0 then max (v+(n:Int)) 0 else min v (n:Int))=((sIx n d (qv v):Nat):Int):=by
 show(if v<0 then max (v+(n:Int)) 0 else min v (n:Int))=(((if v<0 then(v+(n:Int)).toNat else min v.toNat n):Nat):Int)
 by_cases a:v<0
 ·simp only[if_pos a];lia
 ·simp only[if_neg a];lia
def x9(lo hi:Option Int)(n:Nat):er lo hi 1 (n:Int)=(((sIx n 0 lo:Nat):Int),((sIx n n hi:Nat):Int)):=by
 have a: ¬((1:Int)<0):=by lia
 unfold er;simp only[a,if_false];refine qo ?_ ?_
 ·cases lo with
  |none=>rfl
  |some v=>exact zZ v n 0
 ·cases hi with
  |none=>rfl
  |some v=>exact zZ v n n
def yA(i j:Nat):et (i:Int) (j:Int) 1=j-i:=by
 unfold et;have a:(1:Int) > 0:=by lia
 simp only[a,if_true,Int.ediv_one]
 split<;>lia
def nK(p:IsPart v o)(h:Q o s):wpAny (model prog w) A (Builtin.Slice.slicePartIndex v) Q E s:=by
 cases p with
 |none=>exact slicePart_none h
 |int i t=>exact slicePart_int h
def sliceApplied_gen{sl:Addr}{vl vu:Value}{lo hi:Option Int}{n:Nat}{Q:Int×Int×Nat->Shared->Prop}(hs:s.heap.IsSliceOf sl vl vu .none)(pl:IsPart vl lo)(pu:IsPart vu hi)
  (h:Q (((sIx n 0 lo:Nat):Int),1,sIx n n hi-sIx n 0 lo) s):wpAny (model prog w) A (Builtin.Slice.sliceApplied (.ref sl) (pure (n:Int))) Q E s:=by
 obtain⟨d,a,c,b⟩:=id hs;unfold Builtin.Slice.sliceApplied Builtin.Slice.sliceFields;refine aa (aa (wpAny_field a b (x:=vl) rfl (aa (wpAny_field a b (x:=vu) rfl (aa (wpAny_field a b (x:=.none) rfl (ae ?_)))))));refine aa (slicePart_none ?_);show wpAny _ _ (if((1:Int)==0)=qz then _ else _) _ _ s
 rw[if_neg (by decide)]
 refine aa (nK pl (aa (nK pu (aa (ae ?_)))));show wpAny _ _ (match er lo hi 1 (n:Int)with|(lo,hi)=>pure (lo,(1:Int),et lo hi 1)) _ _ s
 rw[x9 lo hi n];show wpAny _ _ (pure (((sIx n 0 lo:Nat):Int),(1:Int),et ((sIx n 0 lo:Nat):Int) ((sIx n n hi:Nat):Int) 1)) _ _ s;rw[yA];exact ae h
def CP(xs:Array Value)(i k:Nat):((pw k).filterMap λ(m:Nat)=>xs[((i:Int)+(m:Int)*1).toNat]?).toArray=((xs.toList.drop i).take k).toArray:=by
 have e:(λ(m:Nat)=>xs[((i:Int)+(m:Int)*1).toNat]?)=λm=>xs[i+m]? :=by
  funext m
  have:((i:Int)+(m:Int)*1).toNat=i+m:=by lia
  rw[this]
 rw[e]
 have:=pick_run xs i k
 rw[List.filterMap_map]at this
 have a:((λx=>xs[x]?) ∘ λx=>i+x)=λm=>xs[i+m]? :=rfl
 rw[a]at this;rw[this]
def getItem_tuple_cut{lo hi:Option Int}{Q:cg}(ht:IsTup s.heap t items)(hs:s.heap.IsSliceOf sl vl vu .none)(pl:IsPart vl lo)(pu:IsPart vu hi)(hw: ¬(sIx items.size 0 lo=0/\sIx items.size items.size hi=items.size))(h:Q (.ref s.heap.objs.size) {s with heap:=s.heap.push {cls:=.type "tuple",data:=.seq ((items.toList.drop (sIx items.size 0 lo)).take (sIx items.size items.size hi-sIx items.size 0 lo)).toArray} })(hsz:items.size<=sizeLine):wpAny (model prog w) A (getItem (.ref t) (.ref sl)) Q E s:=by
 have a:sizeOk (.seq ((items.toList.drop (sIx items.size 0 lo)).take (sIx items.size items.size hi-sIx items.size 0 lo)).toArray):=by
  show((items.toList.drop (sIx items.size 0 lo)).take (sIx items.size items.size hi-sIx items.size 0 lo)).toArray.size<=sizeLine
  rw[aw,ko,List.length_drop,iy]
  lia
 have i:sIx items.size items.size hi<=items.size:=J0 _ _ (aj _) hi
 obtain⟨f,c,b,g⟩:=id hs;have e:s.TypeIs (.ref sl) "slice":=⟨f,c,b⟩;unfold getItem
 try with_reducible refine wpAny_holding ?_
 first|refine aa (ae ?_)|skip
 refine aa (wpAny_sequenceKey ht.typeIs (by decide) ?_)
 refine aa (wpAny_callSpecial?_slot (name:=ox "__getitem__") ht.typeIs dw
  (wpAny_call_entry dw ht.typeIs entry_tuple_getitem ?_ (args_tuple_getitem _ _)))
 show wpAny _ _ (ef (.ref t) >>= _) _ _ s;refine aa (tupleItemsOf_ ht ?_);refine aa (wpAny_typeOf e ?_);rw[if_pos (by decide)]
 refine aa (sliceApplied_gen hs pl pu ?_)
 have d: ¬((((sIx items.size 0 lo:Nat):Int)==0&&(1:Int)==1&&(sIx items.size items.size hi-sIx items.size 0 lo)==items.size)=qz):=by
  intro q;rw[av,av]at q
  have q1:((sIx items.size 0 lo:Nat):Int)=0:=eq_of_beq q.1.1
  have q2:sIx items.size items.size hi-sIx items.size 0 lo=items.size:=eq_of_beq q.2
  exact hw ⟨by lia,by lia⟩
 show wpAny _ _ (if(((sIx items.size 0 lo:Nat):Int)==0&&(1:Int)==1&&(sIx items.size items.size hi-sIx items.size 0 lo)==items.size)=qz then _ else _) _ _ s
 rw[if_neg d,CP]
 first
  |exact aa (m:=fj _) (wpAny_newObj_type (ae ⟨_,rfl,ae h⟩) a)
  |exact aa (m:=fj _) (wpAny_newObj_type (aa (ae (ae ⟨_,rfl,ae h⟩))) a)
  |exact aa (aa (m:=fj _) (wpAny_newObj_type (ae (ae ⟨_,rfl,ae h⟩)) a))
  |exact aa (aa (m:=fj _) (wpAny_newObj_type (ae ⟨_,rfl,ae h⟩) a))
end
end HT
namespace L2
open PySem PySem.Spec PyProof.Rows
abbrev TO:=St->Hp->(Option Int->Hp->Prop)->Prop
def yB: ∀{us:List Value},bQ (ns.map V.int) us->IntsAre us ns:=by
 induction ns with
 |nil=>intro us r;rw[oy]at r;cases r;exact .nil
 |cons n ns b=>
  intro us r;rw[ny]at r
  cases r with
  |cons a c=>
   obtain⟨t,e⟩:=a;subst e;exact .cons n t (b c)
section
variable{X:Cx}{lo hi:Option Expr}
def SlR(X:Cx)(r:V->Option Int->Option Int->Hp->VK->Prop):Prop:=
 ∀(cf:ci) (s:Shared) (σ:St) (H:Hp) (x:V) (v vl vu:Value) (lo hi:Option Int) (sl:Addr) (Q:VK),Inv X cf σ H s->bG x v->s.heap.IsSliceOf sl vl vu .none->IsPart vl lo->IsPart vu hi->r x lo hi H Q->
  ∃T id,typeLookup (.type T) "__getitem__"=pure (qv (.builtin id))/\s.TypeIs v T/\wpAny (model X.prog X.w) X.A (getItem v (.ref sl)) (EP X cf σ Q) X.xe s
noncomputable def CB(xs:List V)(lo hi:Option Int):List V:=(xs.drop (HT.sIx xs.length 0 lo)).take (HT.sIx xs.length xs.length hi-HT.sIx xs.length 0 lo)
def lH(xs:List V)(lo hi:Option Int):(CB xs lo hi).length<=xs.length:=by
 unfold CB;rw[ko,List.length_drop]
 lia
def O1(K:og):V->Option Int->Option Int->Hp->VK->Prop:=λx lo hi H Q=>∃a xs,x= .ref a/\SqT K H a xs/\
 ¬(HT.sIx xs.length 0 lo=0/\HT.sIx xs.length xs.length hi=xs.length)/\∀p,H p=qw->Q (.ref p) (upd H p (.tup (CB xs lo hi)))
def J1:SlR X (O1 X.K):=by
 intro C s B H x v z y e f E Q I n p l t h;obtain⟨a,d,rfl,u,m,q⟩:=h;cases n;obtain⟨g,r,i,j⟩:=I.tuple u
 have c:g.toArray.size=d.length:=by rw[aw];exact r.length.symm
 refine⟨"tuple",_,dw.lookup,i.typeIs,?_⟩;refine HT.getItem_tuple_cut i p l t (by rw[c];exact m) ?_ (by rw[c];exact j)
 rw[c];refine⟨.ref s.heap.objs.size,_,I.laid (t':=s.toks) (o:=.tup (CB d e f)) (λb A q=>af _ q) (aj _) ?_,rfl,q _ (I.hok.fresh (aj _))⟩
 exact⟨ol (lH d e f) j,_,(r.drop (HT.sIx d.length 0 e)).take (HT.sIx d.length d.length f-HT.sIx d.length 0 e),IsTup.new _ _,⟨_,ag _ rfl,rfl⟩⟩
def M7(K:og):R2:=λx y H Q=>∃a b xs ys,x= .ref a/\y= .ref b/\SqT K H a xs/\SqT K H b ys/\xs≠[]/\xs.length+ys.length<=sizeLine/\
 (ys=[]->Q (.ref a) H)/\(ys≠[]->∀p,H p=qw->Q (.ref p) (upd H p (.tup (xs++ys))))
def bQ.nil_iff(r:bQ xs us):us=[]↔xs=[]:=by
 cases r with
 |nil=>simp
 |cons _ _=>simp
def FY:OpR X (binaryOp .Add) (M7 X.K):=by
 intro E s C H x y v u Q I j l h;obtain⟨a,b,g,t,rfl,rfl,m,i,A,f,q1,q2⟩:=h;cases j;cases l;obtain⟨n,d,r,_⟩:=I.tuple m;obtain⟨e,c,p,_⟩:=I.tuple i;refine HT.cat_tup r p (λz=>A (d.nil_iff.mp z)) (λz=>⟨.ref a,H,I,rfl,q1 (c.nil_iff.mp z)⟩) (λz=>?_) (by rw[<-d.length, <-c.length];exact f)
 refine⟨.ref s.heap.objs.size,_,I.laid (t':=s.toks) (o:=.tup (g++t)) (λb B q=>af _ q) (aj _) ?_,rfl,q2 (λw=>z (c.nil_iff.mpr w)) _ (I.hok.fresh (aj _))⟩
 exact⟨by rw[bq];exact f,_,d.append c,IsTup.new _ _,⟨_,ag _ rfl,rfl⟩⟩
end
noncomputable def ixN(n:Nat)(i:Int):Option Nat:=if 0<=i then(if i<n then qv i.toNat else qw)else if -(n:Int)<=i then qv (i+n).toNat else qw
noncomputable def atI{α:Type}(xs:List α)(i:Int):Option α:=(ixN xs.length i).bind λj=>xs[j]?
def z9(h:ixN n i=qv j):seqIndex? i n=qv j/\j<n/\ -(n:Int)<=i/\i<n:=by
 unfold ixN at h
 by_cases b:0<=i
 ·rw[if_pos b]at h
  by_cases a:i<n
  ·rw[if_pos a]at h
   have e:i.toNat=j:=lz h
   exact⟨by rw[seqIndex_of b a,e],by lia,by lia,a⟩
  ·rw[if_neg a]at h;cases h
 ·rw[if_neg b]at h
  by_cases a: -(n:Int)<=i
  ·rw[if_pos a]at h
   have e:(i+n).toNat=j:=lz h
   exact⟨by rw[seqIndex_neg (by lia) a,e],by lia,a,by lia⟩
  ·rw[if_neg a]at h;cases h
def t7{xs:List α}{v:α}(h:atI xs i=qv v): ∃j,seqIndex? i xs.length=qv j/\xs[j]? =qv v/\j<xs.length/\ -(xs.length:Int)<=i/\i<xs.length:=by
 unfold atI at h
 cases e:ixN xs.length i with
 |none=>rw[e]at h;cases h
 |some j=>
  rw[e]at h;obtain⟨d,b,c,a⟩:=z9 e;exact⟨j,d,h,b,c,a⟩
def Aa(b:Expr):Prop:= ∀o i,subscripted b q4 o i=operate [o,i] (getItem o i)
def IxR(X:Cx)(r:R2):Prop:=
 ∀(value slice:Expr) (cf:ci) (s:Shared) (σ:St) (H:Hp) (x y:V) (v u:Value) (Q:VK),Inv X cf σ H s->bG x v->bG y u->r x y H Q->
  subscripted slice q4 v u=operate [v,u] (getItem v u)->wpAny (model X.prog X.w) X.A (subscriptTail value slice v u) (EP X cf σ Q) X.xe s
def MtR(X:Cx)(id:String)(r:V->List V->Hp->VK->Prop):Prop:=
 ∀(cf:ci) (s:Shared) (σ:St) (H:Hp) (x:V) (xs:List V) (v:Value) (us:List Value) (Q:VK),Inv X cf σ H s->bG x v->bQ xs us->r x xs H Q->
  wpAny (model X.prog X.w) X.A (call (.builtin id) (v::us)) (EP X cf σ Q) X.xe s
section
variable{X:Cx}{a b o e:Expr}{es:List Expr}{to:TE}{t:TA}{name:Str}{apos cpos:Pos}{T id:String}{r:V->List V->Hp->VK->Prop}
def M8(K:og):R2:=λx y H Q=>∃p xs i v,x= .ref p/\y= .int i/\SqL K H p xs/\atI xs i=qv v/\Q v H
def Os(K:og):R2:=λx y H Q=>∃p xs i v,x= .ref p/\y= .int i/\SqT K H p xs/\atI xs i=qv v/\Q v H
def O2:R2:=λx y H Q=>∃z i c,x= .str z/\y= .int i/\z.length<=sizeLine/\atI z.cps.toList i=qv c/\Q (.str ⟨#[c]⟩) H
def FZ:IxR X (M8 X.K):=by
 intro c e m s o H x y v u Q I E O h n;obtain⟨p,S,i,z,rfl,rfl,J,G,q⟩:=h;cases E;obtain⟨t,rfl⟩:=O;obtain⟨d,r,f,T⟩:=I.list J;obtain⟨j,b,P,W,L,N⟩:=t7 G;obtain⟨w,B,g⟩:=r.get P;have C:=r.length;have U:=nI;have a:EP X m o Q w s:=⟨z,H,I,g,q⟩
 by_cases A:0<=i
 ·have l:i.toNat=j:=by
   rw[seqIndex_of A N]at b;exact lz b
  exact item_listR f.isList A (by lia) (by rw[l];simpa using B) a n
 ·have l:(i+(d.toArray.size:Int)).toNat=j:=by
   rw[seqIndex_neg (by lia) L]at b
   rw[aw, <-C];exact lz b
  exact subscriptTail_builtinR (x:=w) f.isList.typeIs slot_list_getitem.lookup
   (wpAny_getItem_list_neg (Q:=λr M=>r=w/\EP X m o Q r M) f.isList (by lia) (by rw[aw]<;>lia) (by lia) (by rw[l];simpa using B) ⟨rfl,a⟩) n
def J2:IxR X (Os X.K):=by
 intro a b e s g H x y v u Q I m G h A;obtain⟨p,M,i,z,rfl,rfl,B,o,q⟩:=h;cases m;obtain⟨t,rfl⟩:=G;obtain⟨n,r,f,N⟩:=I.tuple B;obtain⟨j,E,J,T,O,P⟩:=t7 o;obtain⟨w,L,c⟩:=r.get J;have l:=r.length;have S:=nI;have d:EP X e g Q w s:=⟨z,H,I,c,q⟩
 exact subscriptTail_builtinR (x:=w) f.typeIs slot_tuple_getitem.lookup
  (getItem_tuple (j:=j) (Q:=λr C=>r=w/\EP X e g Q r C) f (by lia) (by lia) (by rw[aw, <-l];exact E) (by simpa using L) ⟨rfl,d⟩) A
def rIx(K:og):R2:=λx y H Q=>M8 K x y H Q\/Os K x y H Q\/O2 x y H Q
def yC(its:List Value)(n j:Nat)(u:Value):qc (·.setIfInBounds j u) {cls:=.type "list",data:=.seq its.toArray n}={cls:=.type "list",data:=.seq (its.set j u).toArray n}:=by
 simp[qc]
theorem Inv.lst{σ:St}(I:Inv X cf σ H s)(h:H p=qv (.lst xs)):
  ∃(its:List Value) (n:Nat),bQ xs its/\s.heap.get? p=qv {cls:=.type "list",data:=.seq its.toArray n}/\xs.length<=sizeLine:=by
 obtain⟨z,its,n,r,e⟩:=I.hok p _ h;exact⟨its,n,r,e,z⟩
def Inv.lstUpd{σ:St}{its its':List Value}(I:Inv X cf σ H s)(h:H p=qv (.lst xs))(ho:s.heap.get? p=qv {cls:=.type "list",data:=.seq its.toArray n})(hf:f {cls:=.type "list",data:=.seq its.toArray n}={cls:=.type "list",data:=.seq its'.toArray n'})(r:bQ ys its')(hz:ys.length<=sizeLine)(t:Nat):
  Inv X cf σ (upd H p (.lst ys)) {s with heap:=s.heap.update p f,toks:=t}:=by
 have e:(s.heap.update p f).get? p=qv {cls:=.type "list",data:=.seq its'.toArray n'}:=by
  rw[ie f ho (by rw[hf]<;>rfl),hf]
 refine I.write (x:=p) (e:=p) (by rw[h];trivial) (.inl rfl) (λb u a q=>(gu _ _ (qu a)).trans q) ⟨_,e⟩ ?_
 exact⟨hz,its',n',r,e⟩
def J3:V->V->V->Hp->(Hp->Prop)->Prop:=λo i v H Q=>∃p xs k j,o= .ref p/\i= .int k/\H p=qv (.lst xs)/\ixN xs.length k=qv j/\Q (upd H p (.lst (xs.set j v)))
def vM:JK X J3:=by
 intro y s C H o i v J iv u Q I G A B h;obtain⟨p,x,k,j,rfl,rfl,e,E,q⟩:=h;cases G;obtain⟨t,rfl⟩:=A;obtain⟨a,n,r,d,z⟩:=I.lst e;obtain⟨b,L,m,f⟩:=z9 E;have c:=r.length;have K:=nI
 have g:Inv X y C (upd H p (.lst (x.set j v))) {s with heap:=s.heap.update p (qc (·.setIfInBounds j u))}:=
  I.lstUpd e d (yC a n j u) (r.set B j) (by rw[mn];exact z) s.toks
 by_cases l:0<=k
 ·have hk:k.toNat=j:=by
   rw[seqIndex_of l f]at b;exact lz b
  exact PySem.W.ki_setAt d l (by lia) (by rw[aw, <-c];exact f) (by rw[hk];exact⟨_,g,q⟩)
 ·have hk:(k+(a.toArray.size:Int)).toNat=j:=by
   rw[seqIndex_neg (by lia) m]at b
   rw[aw, <-c];exact lz b
  exact PySem.W.ki_setBack d (by lia) (by rw[aw, <-c];exact m) (by lia) (by rw[hk];exact⟨_,g,q⟩)
def qJ(lo hi:Option Int)(n:Nat):(sliceBounds lo hi qw n).1=((HT.sIx n 0 lo:Nat):Int)/\(sliceBounds lo hi qw n).2.1=((HT.sIx n n hi:Nat):Int)/\(sliceBounds lo hi qw n).2.2=1:=by
 refine⟨?_,?_,rfl⟩
 ·cases lo with
  |none=>simp[sliceBounds,HT.sIx]
  |some i=>
   simp only[sliceBounds,HT.sIx,Option.getD_none,show(1:Int) > 0 by decide,if_true]
   by_cases h:i<0
   ·simp only[h,if_true]<;>lia
   ·simp only[h,if_false]<;>lia
 ·cases hi with
  |none=>simp[sliceBounds,HT.sIx]
  |some i=>
   simp only[sliceBounds,HT.sIx,Option.getD_none,show(1:Int) > 0 by decide,if_true]
   by_cases h:i<0
   ·simp only[h,if_true]<;>lia
   ·simp only[h,if_false]<;>lia
def oR(its:List Value)(lo hi:Option Int):slicePick its.toArray lo hi qw=((its.drop (HT.sIx its.length 0 lo)).take (HT.sIx its.length its.length hi-HT.sIx its.length 0 lo)).toArray:=by
 obtain⟨a,b,c⟩:=qJ lo hi its.toArray.size;unfold slicePick;rw[a,b,c];simp only[sliceRange_one,pick_run,aw]<;>rfl
def O3(K:og):V->Option Int->Option Int->Hp->VK->Prop:=λx lo hi H Q=>∃a xs,x= .ref a/\SqL K H a xs/\∀p,H p=qw->Q (.ref p) (upd H p (.lst (CB xs lo hi)))
def F0:SlR X (O3 X.K):=by
 intro B s A H x v y u e f C Q I j m i n h;obtain⟨a,c,rfl,t,q⟩:=h;cases j;obtain⟨l,r,g,p⟩:=I.list t;have d:=r.length;refine⟨"list",_,slot_list_getitem.lookup,g.isList.typeIs,?_⟩;refine wpAny_getItem_list_slice g.isList m i n .none (by simp) ?_ (by rw[aw]<;>lia)
 rw[oR, <-d];refine⟨.ref s.heap.objs.size,_,I.laid (t':=s.toks) (o:=.lst (CB c e f)) (λb z q=>af _ q) (aj _) ?_,rfl,q _ (I.hok.fresh (aj _))⟩
 exact⟨ol (lH c e f) p,_,0,(r.drop (HT.sIx c.length 0 e)).take (HT.sIx c.length c.length f-HT.sIx c.length 0 e),ag _ rfl⟩
def qK:qC X (.builtin "len") (λxs H Q=>∃p ys,xs=[.ref p]/\(SqL X.K H p ys\/SqT X.K H p ys)/\Q (.int ys.length) H):=by
 intro l s j H xs i Q I r h;obtain⟨p,ys,rfl,b,q⟩:=h;obtain⟨u,rfl,f⟩:=mU r;cases f;have m:=nI;rcases b with b|b
 ·obtain⟨c,d,e,g⟩:=I.list b;have a:=d.length;exact Calls.call_len_list e.isList (by simp only[aw]<;>lia) ⟨.int ys.length,H,I.tok _,⟨s.toks+1,by rw[aw,a]⟩,q⟩
 ·obtain⟨c,d,e,g⟩:=I.tuple b;have a:=d.length;exact len_tuple e (by simp only[aw]<;>lia) ⟨.int ys.length,H,I.tok _,⟨s.toks+1,by rw[aw,a]⟩,q⟩
def qL:qC X (.builtin "len") (λxs H Q=>∃z,xs=[.str z]/\z.length<=sizeLine/\Q (.int z.length) H):=by
 intro c s b H xs a Q I r h;obtain⟨z,rfl,e,q⟩:=h;obtain⟨u,rfl,t,rfl⟩:=mU r;have d:=nI;exact len_str (by lia) ⟨.int z.length,H,I.tok _,⟨_,rfl⟩,q⟩
def qM:qC X (.type "list") (λxs H Q=>∃p ys,xs=[.ref p]/\(SqL X.K H p ys\/SqT X.K H p ys)/\∀l,H l=qw->Q (.ref l) (upd H l (.lst ys))):=by
 intro C s A H xs E Q I r h;obtain⟨p,ys,rfl,j,q⟩:=h;obtain⟨u,rfl,B⟩:=mU r;cases B
 have t: ∀(a:List Value),bQ ys a->ys.length<=sizeLine->∀(c:Heap) (f:Nat),(∀b o',s.heap.get? b=qv o'->c.get? b=qv o')->
   c.get? s.heap.objs.size=qv {cls:=.type "list",dict:=qw,data:=.seq a.toArray f,slots:= #[]}->EP X C A Q (.ref s.heap.objs.size) {s with heap:=c}:=λa d m c f i e=>
  ⟨.ref s.heap.objs.size,_,I.laid (t':=s.toks) i (aj _) (show ObjOk X.prog X.w _ c _ (.lst ys) from⟨m,a,f,d,e⟩),rfl,q _ (I.hok.fresh (aj _))⟩
 rcases j with j|j
 ·obtain⟨a,d,z,m⟩:=I.list j;have g:=d.length;obtain⟨o,y,v,n,x⟩:=z.isList;exact call_list_seq p (.inl rfl) y v x (λc f i e=>t a d m c f i e) (by simp only[aw]<;>lia)
 ·obtain⟨a,d,z,m⟩:=I.tuple j;have g:=d.length;obtain⟨o,y,v,n,x⟩:=z;exact call_list_seq p (.inr rfl) y v x (λc f i e=>t a d m c f i e) (by simp only[aw]<;>lia)
def iY:qC X (.type "tuple") (λxs H Q=>∃p ys,xs=[.ref p]/\((SqL X.K H p ys/\∀l,H l=qw->Q (.ref l) (upd H l (.tup ys)))\/(SqT X.K H p ys/\Q (.ref p) H))):=by
 intro m s j H xs z Q I r h;obtain⟨p,ys,rfl,h⟩:=h;obtain⟨u,rfl,x⟩:=mU r;cases x;rcases h with ⟨d,q⟩|⟨d,q⟩
 ·obtain⟨a,f,g,t⟩:=I.list d;have i:=f.length;refine call_tuple_list g.isList (λc y=>?_) (by simp only[aw]<;>lia)
  have n:Inv X m j H {s with heap:=c}:=I.kept (t':=s.toks) y
  have v:Inv X m j (upd H c.objs.size (.tup ys)) {s with heap:=c.push {cls:=.type "tuple",data:=.seq a.toArray} }:=
   n.laid (t':=s.toks) (λb o e=>af _ e) (aj _) (show ObjOk X.prog X.w _ _ _ (.tup ys) from⟨t,a,f,IsTup.new _ _,⟨_,ag _ rfl,rfl⟩⟩)
  exact⟨.ref c.objs.size,_,v,rfl,q _ (n.hok.fresh (aj _))⟩
 ·obtain⟨a,f,g,t⟩:=I.tuple d;exact call_tuple_same g ⟨.ref p,H,I,rfl,q⟩
def tyV(K:og)(T:String)(x:V)(H:Hp):Prop:=match x with
 |.str _=>T="str"
 |.int _=>T="int"
 |.ref p=>(T="list"/\∃xs,SqL K H p xs)\/(T="tuple"/\∃o,K.lookup p=qv o/\o.cls= .type "tuple"/\o.dict=qw)\/
   (T="dict"/\((∃kvs,H p=qv (.dK kvs))\/∃kvs,H p=qv (.dT kvs)))\/(T="set"/\∃S n,H p=qv (.set S n))
 |_=>False
def J4{cf:ci}{σ:St}{H:Hp}{s:Shared}{T:String}{x:V}{v:Value}(I:Inv X cf σ H s)(r:bG x v)(ty:tyV X.K T x H):
  s.TypeIs v T/\∀a,v= .ref a->∃ob,s.heap.get? a=qv ob/\ob.dict=qw:=by
 cases x with
 |str z=>
  obtain⟨t,rfl⟩:=r
  cases (show T="str" from ty)
  exact⟨typeIs_str s z t,λ_ e=>nomatch e⟩
 |int i=>
  obtain⟨t,rfl⟩:=r
  cases (show T="int" from ty)
  exact⟨typeIs_int s i t,λ_ e=>nomatch e⟩
 |ref p=>
  cases r;rcases ty with ⟨rfl,q,m⟩|⟨rfl,o,hk,j,g⟩|⟨rfl,hk⟩|⟨rfl,S,n,hk⟩
  ·obtain⟨l,_,h,_⟩:=I.list m;refine⟨h.isList.typeIs,λa e=>?_⟩
   cases e;obtain⟨o,n,e,c,g,_⟩:=h;exact⟨o,e,g⟩
  ·refine⟨⟨o,I.kIn p o hk,j⟩,λa e=>?_⟩
   cases e;exact⟨o,I.kIn _ o hk,g⟩
  ·have z: ∃o,s.heap.get? p=qv o/\o.ExactDict:=by
    rcases hk with ⟨f,hk⟩|⟨f,hk⟩
    ·obtain⟨_,_,_,_,o,_,_,e,b,_⟩:=I.hok p _ hk;exact⟨o,e,b⟩
    ·obtain⟨_,_,_,_,o,_,_,e,b,_⟩:=I.hok p _ hk;exact⟨o,e,b⟩
   obtain⟨o,e,b⟩:=z;refine⟨⟨o,e,b.1⟩,λa d=>?_⟩
   cases d;exact⟨o,e,b.2.1⟩
  ·obtain⟨o,_,_,_,e,b,_⟩:=I.hok p _ hk;refine⟨⟨o,e,b.1⟩,λa d=>?_⟩
   cases d;exact⟨o,e,b.2.1⟩
 |_=>exact az ty
def tBM(K:og)(T:String)(r:V->List V->Hp->VK->Prop)(to:TE)(t:TA):TE:=λσ H Q=>to σ H λx H1=>tyV K T x H1/\t σ H1 λxs H2=>r x xs H2 Q
def F1(pa:PlainAttrs T)(slot:Slot T name id)(hty:typeOf (.builtin id)=pure (.type "method_descriptor"))(hm:MtR X id r)(ho:PE X o to)(ha:PA X (e::es) t)
  (hbase:attributeBase o name X.env (eval o X.env)=eval o X.env:=by rfl)
  (hfew:((backTo cpos (starEach (e::es) X.env)).all (λx=> !x.1)&&(backToKw cpos (keywordEach [] X.env)).all (λx=>x.1.isSome)
   &&decide ((e::es).length+([]:List Keyword).length+(if([]:List Keyword).isEmpty then 0 else 1)<30))=qz:=by rfl)
  (hline:(apos.endLine==cpos.line)=qz:=by rfl) (hs:starEach (e::es) X.env=(q4,eval e X.env)::starEach es X.env:=by rfl) (hplain:(backTo cpos (starEach es X.env)).any (·.1)=q4:=by rfl):
  PE X (.Call (.Attribute o name apos) (e::es) [] cpos) (tBM X.K T r to t):=by
 intro d s a H Q I h;refine wpAny_Call_method_late hbase hfew hline rfl (thn (ho d s a H _ I h) λv p b=>?_)
 obtain⟨x,y,g,f,ty,q1⟩:=b;obtain⟨q,z⟩:=J4 g f ty;refine⟨T,id,pa,slot,hty,q,z,?_⟩;have i:=ha cpos d p a y _ g q1;rw[hs]at i ⊢;refine gw (by show(q4||(backTo cpos (starEach es X.env)).any (·.1))=q4;rw[hplain]<;>rfl) (ir ?_)
 exact thn i λu n c=>by obtain⟨m,H2,j,l,q2⟩:=c;exact hm d n a H2 x m v u Q j f l q2
end
def MtM(X:Cx)(id:String)(r:V->List V->Hp->VK->Prop):Prop:=
 ∀(cf:ci) (s:Shared) (σ:St) (H:Hp) (x:V) (xs:List V) (v:Value) (us:List Value) (Q:VK),Inv X cf σ H s->bG x v->bQ xs us->r x xs H Q->
  wpAny (model X.prog X.w) X.A (call (.builtin id) (v::us)) (EP X cf σ Q) X.xe s
def bQ.one: ∀{x:V} {us:List Value},bQ [x] us->∃u,us=[u]/\bG x u:=by
 intro x us h
 cases h with
 |cons r t=>
  cases t;exact⟨_,rfl,r⟩
def bQ.two: ∀{x y:V} {us:List Value},bQ [x,y] us->∃u v,us=[u,v]/\bG x u/\bG y v:=by
 intro x y us h
 cases h with
 |cons r t=>
  cases t with
  |cons q t=>
   cases t;exact⟨_,_,rfl,r,q⟩
theorem bQ.rep{xs:List V}{us:List Value}(h:bQ xs us): ∀k:Nat,bQ (ak k xs).flatten (ak k us).flatten
 |0=>.nil
 |k+1=>by
  rw[i3,i3,jv,jv];exact bQ.append h (bQ.rep h k)
theorem qN(its:List Value): ∀(k:Nat) (acc:List Value),
  qe (λx1 x2=>x1++x2) acc.toArray (ak k its.toArray)=(acc++(ak k its).flatten).toArray
 |0,acc=>by simp
 |k+1,acc=>by
  have e:acc.toArray++its.toArray=(acc++its).toArray:=by simp
  have a:(acc++its)++(ak k its).flatten=acc++(ak (k+1) its).flatten:=by
   rw[i3,jv,List.append_assoc]
  rw[<-a, <-qN its k (acc++its), <-e,i3,List.foldl_cons]
section
variable{σ:St}
def Inv.lset{its its':List Value}(I:Inv X cf σ H s)(hH:H l=qv (.lst xs))(e:s.heap.get? l=qv {cls:=.type "list",data:=.seq its.toArray n})(hf:f its.toArray=its'.toArray)(hv:bQ ys its')(hz:ys.length<=sizeLine):
  Inv X cf σ (upd H l (.lst ys)) {s with heap:=s.heap.update l (qc f),toks:=t'}:=by
 have q:=PySem.IsL.update e f;rw[hf]at q;refine I.write (x:=l) (e:=l) (by rw[hH];exact trivial) (.inl rfl) (λc u b a=>(gu s.heap (qc f) (qu b)).trans a) ⟨_,q⟩ ?_
 exact⟨hz,its',_,hv,q⟩
def Inv.lnew(I:Inv X cf σ H s)(hv:bQ ys its)(hz:ys.length<=sizeLine):
  Inv X cf σ (upd H s.heap.objs.size (.lst ys)) {s with heap:=s.heap.push {cls:=.type "list",data:=.seq its.toArray},toks:=t'}:=
 I.laid (λ_ _ q=>af _ q) (aj _) ⟨hz,its,0,hv,ag _ rfl⟩
theorem Inv.fresh(I:Inv X cf σ H s):H s.heap.objs.size=qw:=I.hok.fresh (aj _)
def Inv.lstM(I:Inv X cf σ H s)(hH:H l=qv (.lst xs)):xs.length<=sizeLine/\∃(its:List Value) (n:Nat),bQ xs its/\xs.length=its.length/\s.heap.get? l=qv {cls:=.type "list",data:=.seq its.toArray n}:=by
 obtain⟨z,its,n,r,e⟩:=I.hok l _ hH;exact⟨z,its,n,r,r.length,e⟩
def vN(h:n<=sizeLine):fq n=q4:=by
 unfold fq;exact decide_eq_false (by lia)
end
def F2:V->List V->Hp->VK->Prop:=λx vs H Q=>∃l xs y,x= .ref l/\vs=[y]/\H l=qv (.lst xs)/\xs.length<sizeLine/\Q .non (upd H l (.lst (xs++[y])))
def lI:MtM X "list.append" F2:=by
 intro p s o H x i v m Q I f c h;obtain⟨l,j,y,rfl,rfl,b,t,q⟩:=h;cases f;obtain⟨u,rfl,d⟩:=c.one;obtain⟨z,a,n,r,g,e⟩:=I.lstM b;refine call_meets F.slot_list_append ⟨_,e,rfl⟩ F.entry_list_append (F.args_list_append_2 _ _) (PySem.list_append l a.toArray n u (by rw[aw];lia)) ⟨e,?_⟩
 refine⟨.non,_,I.lset (its':=a++[u]) b e (by simp) (r.append (.cons d .nil)) ?_,rfl,q⟩
 rw[bq,List.length_singleton]
 lia
def F3{α:Type}(xs:List α)(k:Nat):(ak k xs).flatten.length=k*xs.length:=by
 induction k with
 |zero=>simp
 |succ k a=>rw[i3,jv,bq,a,Nat.succ_mul,Nat.add_comm]
end L2
namespace Att
open PySem PySem.W PySem.Calls PyProof.Rows
def lJ: ∀(ns:List Int) (vs:List Value),WellAll P h vs (ns.map WData.int)->IntsAre vs ns:=by
 intro ns
 induction ns with
 |nil=>
  intro vs w;rw[oy]at w;cases w;exact .nil
 |cons n ns c=>
  intro vs w;rw[ny]at w
  cases w with
  |cons a b=>
   cases a;exact .cons _ _ (c _ b)
def Ab{l:OpenLaw}(hn:l.most=qv n)(hpre:l.row.toRowW.claim.pre args=qz)(hwl:WellAll P h vals args):
  ∃a vs ns,vals=[qj a]/\args=[WData.list (ns.map WData.int)]/\h.get? a=qv {cls:=.type "list",data:=.seq vs.toArray}/\IntsAre vs ns/\ns.length<=n:=by
 have hsh:WShape.hasAll [] args [.list .int]=qz:=(pre_splitW hpre).1
 have g:l.pre.holds [] {args:=args}=qz:=(pre_splitW hpre).2;obtain⟨d,r,rfl,o,s⟩:=hasAllW_cons hsh;obtain rfl:=hasAllW_nil s;obtain⟨u,rfl,t⟩:=hasW_list o;obtain⟨ns,rfl⟩:=items_int t
 have b:ns.length<=n:=by
  unfold OpenLaw.pre at g
  have e:(WTm.not (.lt (.lit (.int (n:Int))) (.len (.arg 0)))).holds [] {args:=[.list (ns.map .int)]}=qz:=by
   have e:=(holds_andW g).1;rw[hn]at e;exact e
  have f:=condW_of e (w_not (w_lt w_lit (w_len_list (w_arg rfl))));rw[ao]at f;refine Nat.le_of_not_lt λq=>?_
  have j:(n:Int)<((ns.length:Nat):Int):=by lia
  first
   |(rw[decide_eq_true j]at f;exact absurd f (by decide))
   |(simp at f;lia)
 cases hwl with
 |cons i m=>
  cases m
  cases i with
  |list p c=>exact⟨_,_,ns,rfl,rfl,p,lJ ns _ c,b⟩
def Ac(l:OpenLaw)(args:List WData):l.row.toRowW.claim.post args (.bool qz) args=qz:=
 postW_of (r:=l.row.toRowW) (X:=(qz==qz))
  (show WShape.has [] (.bool qz) .bool=qz by first|rfl|decide|simp[WShape.has,WShape.arms,WShape.armsAll])
  (show(WTm.eq .res (.lit (.bool qz))).value [] {args:=args,res:=qv (.bool qz),after:=args}=qv (.bool (qz==qz)) from w_eq_bool (w_res rfl) w_lit) rfl
def attach_call{l:OpenLaw}(hn:l.most=qv n)(hdf:d.params.defaults=[])(call: ∀(w:World) (s₀ s₁:Shared) (mg mb:Str->Option Value) (fa:Addr) (o:Obj) (pm cd doc:Value) (a:Addr) (vs:List Value) (ns:List Int),
   Ground q loose [] XP w s₀ mg mb s₁.heap->YP w s₁.heap->
   s₁.heap.get? fa=qv o->o.data= .func (docDef d.name d.params d.body d.scope pm cd doc)->s₁.heap.CodeRec cd d.name->mg d.name=qv (.ref fa)->
   s₁.heap.get? a=qv {cls:=.type "list",data:=.seq vs.toArray}->IntsAre vs ns->ns.length<=n->s₁.gens= #[]->
   codeAny (model l.prog w) callerA (.call (.ref fa) ⟨[.ref a],[]⟩) (λr s'=>r= .ok (.ret (.bool qz))/\OldK s₁.heap s'.heap/\s'.os=s₁.os/\AllBare s'.gens) s₁):
  WalkO q loose XP YP l.row.toRowW d [] (λf vs=>PySem.call f vs):=by
 intro w s₀ s₁ mg mb G Y fa o pm cd doc s kV B z j hD i t args p H e m A h y;obtain rfl:s= .none:=Dflts.none hD hdf;obtain rfl:kV= .none:=Dflts.noKw hD;obtain⟨a,vs,ns,rfl,rfl,g,b,c⟩:=Ab hn e h;refine enter_call (codeAny_mono (call w s₀ s₁ mg mb fa o pm cd doc a vs ns G Y B (fd_plain z) j i g b c t) λr s' u=>?_)
 obtain⟨rfl,C,E,v⟩:=u;exact⟨.inl ⟨.bool qz,.bool qz,[],rfl,λ_=>rfl,.bool qz,Ac l _,λ_=>⟨jw,λ_ x=>(nomatch x)⟩⟩,C,E,v⟩
noncomputable def Ot(h:Heap)(L d:Addr):ci:=(pw h.objs.size).filterMap λa=>if a=L\/a=d then qw else(h.get? a).map λo=>(a,o)
end Att
namespace L2
open PySem PySem.Spec PyProof.Rows
theorem qO: ∀{vs:List Value} {ns:List Int},IntsAre vs ns->bQ (ns.map V.int) vs
 |_,_,.nil=>.nil
 |_,_,.cons n t h=>.cons ⟨t,rfl⟩ (qO h)
def M9(H:Hp):Prop:= ∀b,H b=qw\/∃o xs,H b=qv (.frz o (.lst xs))
def CQ{K:og}(KX:K.In s₁.heap)(hns:s₁.heap.Ns mainGlobals mg)(hb:s₁.heap.Ns builtinsNs mb)(hbb: ∀x:Str,x≠"__name__"->mb x=bootBuiltins x)(hlim:s₁.heap.NoLimit)(hg:s₁.gens= #[])(ha:s₁.heap.get? a=qv {cls:=.type "list",data:=.seq vs.toArray})(hi:IntsAre vs ns)(hl:ns.length<=sizeLine)(hr:Room k callerA)(F: ∀base:Heap,K.In base->base.Ns mainGlobals mg->FnOk P w K mg base CX k fa fd [x] sp)(hbind: ∀(s:Shared) (u:Value),BindsTo s fd ⟨[u],[]⟩ [(x,u)])(hsp: ∀H:Hp,M9 H->SqL K H a (ns.map V.int)->sp [.ref a] H (λv _=>v= .bl qz) λ_ _ _=>False)(hCX: ∀H e s',CX [] H s₁ (λ_ _ _=>False) e s'->False):
  codeAny (model P w) callerA (.call (.ref fa) ⟨[.ref a],[]⟩) (λr s'=>r= .ok (.ret (.bool qz))/\OldK s₁.heap s'.heap/\s'.os=s₁.os/\AllBare s'.gens) s₁:=by
 have G:=qO hi;have j:=hi.length
 -- from an abstract heap in which nothing but the script may be tracked
 have g: ∀H:Hp,M9 H->SqL K H a (ns.map V.int)->HOk P w H s₁.heap->(∀b,H b≠qw->b=a)->(H a≠qw->K.lookup a=qw)->
   codeAny (model P w) callerA (.call (.ref fa) ⟨[.ref a],[]⟩) (λr s'=>r= .ok (.ret (.bool qz))/\OldK s₁.heap s'.heap/\s'.os=s₁.os/\AllBare s'.gens) s₁:=by
  intro H I J i E U
  have c: ∀{b:Addr} {o:Obj},s₁.heap.get? b=qv o->H b=qw->(CH s₁.heap H).get? b=qv o:=λe n=>CI e n
  have B: ∀{b:Addr} {o:Obj} {es:Array DictEntry} {ep:Nat},s₁.heap.get? b=qv o->o.data= .dict es ep->H b=qw:=λ{b o es ep} e d=>by
   cases q:H b with
   |none=>rfl
   |some u=>
    have A:b=a:=E b (by rw[q];simp)
    subst A;rw[ha]at e;cases e
    have T:Data.seq vs.toArray _=Data.dict es ep:=d
    cases T
  have f: ∀{b:Addr} {m:Str->Option Value},s₁.heap.Ns b m->(CH s₁.heap H).Ns b m:=λ{b m} ⟨o,es,ep,e,d,r⟩=>⟨o,es,ep,c e (B e d),d,r⟩
  have l:K.In (CH s₁.heap H):=λb o e=>c (KX b o e) (by
   cases q:H b with
   |none=>rfl
   |some u=>
    have A:b=a:=E b (by rw[q];simp)
    subst A;rw[U (by rw[q];simp)]at e;cases e)
  have O:Mod K mg (CH s₁.heap H):=⟨l,f hns,⟨mb,f hb,hbb⟩,let ⟨mc,h1,h2⟩:=hlim;⟨mc,f h1,h2⟩⟩;have L:Env0 P w K mg (CH s₁.heap H) callerA [] s₁ H:=⟨rfl,O,λb o e=>FI e,Nat.le_of_eq (zO _ _),trivial,λb hb=>absurd (show b∈([]:List Addr) from hb) (by simp),i,.of_eq hg⟩
  refine codeAny_mono ((F _ l (f hns)).run callerA [] s₁ H ⟨[.ref a],[]⟩ [.ref a] [.ref a] _ _ hr L (hbind s₁ (.ref a)) (.cons rfl .nil) (hsp H I J)) λr s' h=>?_
  cases r with
  |error e=>exact(hCX H e s' h).elim
  |ok M=>
   cases M with
   |next=>exact az h
   |brk=>exact az h
   |cont=>exact az h
   |ret u=>
    obtain⟨v,Y,os,t,un,p,X,q⟩:=h
    have S:v= .bl qz:=q
    subst S;obtain rfl:u=p4 qz:=X;refine⟨rfl,OldK.of_keep λb o e=>?_,os,t⟩
    cases q:H b with
    |none=>exact un.keep b o e q (by intro z;exact absurd (show b∈([]:List Addr) from z) (by simp)) (by simp)
    |some u=>
     rcases I b with z|⟨ob,xs,z⟩
     ·rw[q]at z;cases z
     ·have N:=un.frzs b ob _ z;obtain⟨C,_⟩:=i b _ z;obtain⟨Q,_⟩:=p b _ N;rw[e]at C;cases C;exact Q
 cases hk:K.lookup a with
 |some o=>
  -- the script is one of the module's own objects
  have e:=KX a o hk;rw[ha]at e;cases e;refine g (λ_=>qw) (λ_=>.inl rfl) (.inr ⟨_,vs.toArray,_,hk,rfl,rfl,rfl,by rw[aw,j];exact hl,by simpa using G⟩) (λb u z=>by have y:(qw:Option HO)=qv u:=z;cases y) (λb z=>absurd rfl z) λz=>absurd rfl z
 |none=>
  refine g (λb=>if b=a then qv (.frz {cls:=.type "list",data:=.seq vs.toArray} (.lst (ns.map V.int)))else qw) (λb=>?_) (.inl (.inr ⟨{cls:=.type "list",data:=.seq vs.toArray},if_pos rfl⟩)) (λb u z=>?_) (λb z=>?_) λ_=>hk
  ·by_cases hb:b=a
   ·exact .inr ⟨_,_,if_pos hb⟩
   ·exact .inl (if_neg hb)
  ·by_cases hb:b=a
   ·have y:=(if_pos hb).symm.trans z;cases y;subst hb;exact⟨ha,by rw[ao];exact hl,vs,_,G,ha⟩
   ·have y:=(if_neg hb).symm.trans z;cases y
  ·by_cases hb:b=a
   ·exact hb
   ·exact absurd (if_neg hb) z
noncomputable abbrev KOf{K:og}{h:Heap}(_:K.In h):og:=K
def walk_of{l:mo}{K:Params->og}{CX:World->CXT}{sp:World->Sp}(hn:l.most=qv n)(hn2:n<=sizeLine)(hdf:d.params.defaults=[])(hr:Room k callerA)(hY: ∀(w:World) (h:Heap),YP w h->(K w.params).In h)(F: ∀(w:World) (mg:Str->Option Value) (fa:Addr) (h:Heap),(K w.params).In h->h.Ns mainGlobals mg->mg d.name=qv (.ref fa)->
   ∃fd:FuncData,(∀(s:Shared) (u:Value),BindsTo s fd ⟨[u],[]⟩ [(x,u)])/\
    ∀base:Heap,(K w.params).In base->base.Ns mainGlobals mg->FnOk l.prog w (K w.params) mg base (CX w) k fa fd [x] (sp w))(hsp: ∀(w:World) (H:Hp) (a:Addr) (ns:List Int),ns.length<=n->M9 H->SqL (K w.params) H a (ns.map V.int)->sp w [.ref a] H (λv _=>v= .bl qz) λ_ _ _=>False)(hCX: ∀(w:World) (H:Hp) (s:Shared) (e:Value) (s':Shared),CX w [] H s (λ_ _ _=>False) e s'->False):
  PySem.W.WalkO q loose XP YP l.row.toRowW d [] (λf vs=>PySem.call f vs):=by
 refine Att.attach_call hn hdf λw r m mg M fa o J O z a vs ns G Y N L C p j i c E=>?_
 have t:=hY w _ Y;obtain⟨fd,B,A⟩:=F w mg fa _ t G.T.g p;exact CQ t G.T.g G.T.b G.T.builtins G.T.nolimit E j i (ol c hn2) hr A B (λH I y=>hsp w H a ns c I y) λH e s'=>hCX w H m e s'
structure Fun(K:og)(x qual:Str)(st:Stmt)(f:Addr)(fd:FuncData):Prop where
 ex: ∃(oc:Value) (od:Option Addr) (kV doc pm:Value) (an:Option Addr) (cdv ct:Value) (osl:Array (Option Value)),
  fd=ou x qual (defArgs st) (defBody st) (defScope st) .none kV doc pm an cdv ct/\K.lookup f=qv ⟨oc,od,.func fd,osl⟩/\PySem.W.codeIn K cdv qual=qz
 kp:ni K (.ref f)=qz
section
variable{K:og}
def Fun.binds{st:Stmt}(F:Fun K x qual st f fd)(h: ∀(kV doc pm:Value) (an:Option Addr) (cdv ct:Value) (us:List Value),us.length=ps.length->bindArgs (ou x qual (defArgs st) (defBody st) (defScope st) .none kV doc pm an cdv ct) ⟨us,[]⟩=pure (ps.zip us)):fB K fd ps []:=by
 obtain⟨d,c,kV,doc,pm,an,cdv,ct,a,rfl,lk,b⟩:=F.ex;exact .all (h kV doc pm an cdv ct)
def lK{st:Stmt}{kV doc pm cdv ct:Value}(l:K.lookup f=qv ⟨oc,od,.func (ou x qual (defArgs st) (defBody st) (defScope st) .none kV doc pm an cdv ct),osl⟩)(c:PySem.W.codeIn K cdv qual=qz)(k:ni K (.ref f)=qz):Fun K x qual st f (ou x qual (defArgs st) (defBody st) (defScope st) .none kV doc pm an cdv ct):=⟨⟨oc,od,kV,doc,pm,an,cdv,ct,osl,rfl,l,c⟩,k⟩
end
def CS{A B:Prop}(h:B):if q4=qz then A else B:=by
 rw[if_neg bg];exact h
def CC{A B:Prop}(h:A):if qz=qz then A else B:=by
 rw[if_pos rfl];exact h
def Same(H H':Hp):Prop:= ∀b o,H b=qv o->H' b=qv o
def Same.refl(H:Hp):Same H H:=λ_ _ h=>h
def Same.trans(a:Same H H1)(b:Same H1 H2):Same H H2:=λc o h=>b c o (a c o h)
def Same.free(e:Same H H')(h:H' l=Option.none):H l=Option.none:=by
 cases q:H l with
 |none=>rfl
 |some o=>
  rw[e l o q]at h;cases h
def Same.seq{K:og}(e:Same H H')(h:SqL K H a xs):SqL K H' a xs:=by
 rcases h with (h|⟨o,h⟩)|h
 ·exact .inl (.inl (e _ _ h))
 ·exact .inl (.inr ⟨o,e _ _ h⟩)
 ·exact .inr h
end L2
namespace SK
open PySem PySem.Spec PyProof.Rows L2
open PySem.AutoSeq1 (wpAny_loadPart' idx_int)
def qP(l:Addr)(items:Array Value)(n:Nat)(b:Addr)(items2:Array Value)(n2:Nat)(dd2:Option Addr)(sl2:Array (Option Value))(hc0: ¬(!items.isEmpty&&fq (items.size+items2.size))=qz)(hc1:items.size<=sizeLine)(hs2:items.size+items2.size<=sizeLine+1):
  Meets (Builtin.«list.extend» ⟨[.ref l,.ref b],[]⟩) (λ_ R s=>s.heap.get? l=qv {cls:=.type "list",dict:=qw,data:=.seq items n,slots:= #[]}/\s.heap.get? b=qv {cls:=.type "list",dict:=dd2,data:=.seq items2 n2,slots:=sl2}/\R (.ok (.ret p3)) {s with heap:=s.heap.update l (qc λx=>x++items2),toks:=s.toks}):=
 .of_wp λe w A R s h=>by
  obtain⟨p,g,d,m,i⟩:=s;obtain⟨c,f,h⟩:=h;have j:=idx_int;have r:=AutoSeq1.sub_tuple_tuple;have t:=AutoSeq1.sub_list_list;have o:=AutoSeq1.sub_tuple_list;have q:=AutoSeq1.sub_list_tuple;
  have a:(items++items2).size<=sizeLine+1:=by rw[Array.size_append];exact hs2
  wp_walk using (wpAny_updateSeq c rfl (hz:=hc1) (_hz':=a)),wpAny_loadPart' c,wpAny_loadPart' f;exact⟨_,rfl,h⟩
def mV(a:Int)(t:Tok)(l:Addr)(items:Array Value)(n:Nat)(T:String)(dd:Option Addr)(sl:Array (Option Value))(hT:T="list"\/T="tuple"):
  Meets (Builtin.«int.__rmul__» ⟨[.int a t,.ref l],[]⟩) (λ_ R s=>s.heap.get? l=qv {cls:=.type T,dict:=dd,data:=.seq items n,slots:=sl}/\R (.ok (.ret Value.notImplemented)) s):=
 .of_wp λb w A R s h=>by
  obtain⟨i,g,d,f,e⟩:=s;obtain⟨c,h⟩:=h;rcases hT with rfl|rfl<;>(wp_walk using wpAny_loadPart' c;exact⟨_,rfl,h⟩)
def Ae(l:Addr)(items:Array Value)(n:Nat)(x:Int)(u:Tok)(dd:Option Addr)(sl:Array (Option Value))(hc0: ¬(!Builtin.List.listFitsIndex x)=qz)(hc1: ¬items.size*x.toNat > (2^63-1)/8)(hc2: ¬fq (items.size*x.toNat)=qz):
  Meets (Builtin.«list.__mul__» ⟨[.ref l,.int x u],[]⟩) (λ_ R s=>s.heap.get? l=qv {cls:=.type "list",dict:=dd,data:=.seq items n,slots:=sl}/\R (.ok (.ret (qj s.heap.objs.size))) {s with heap:=s.heap.push {cls:=qa "list",data:=Data.seq (qe (λx1 x2=>x1++x2) #[] (ak (if items.isEmpty=qz then 0 else x.toNat) items))},toks:=s.toks}):=
 .of_wp λb w A R s h=>by
  obtain⟨i,g,d,f,e⟩:=s;obtain⟨c,h⟩:=h;have a:=AutoListH.joined_fits hc2
  wp_walk using wpAny_loadPart' c;refine wpAny_ite_false (decide_eq_false (Nat.not_lt.mpr a)) ?_;wp_walk;exact⟨_,rfl,h⟩
open PySem.AutoSeq1 (wpAny_loadPart' idx_int)
inductive D where
 |non|bl (b:Bool)|int (i:Int)|str (x:Str)
 |tup (xs:List D)|lst (xs:List D)
 |exc (c:Nat)|fn (f:Nat)
 deriving Inhabited
noncomputable def b2i(b:Bool):Int:=if b then 1 else 0
mutual
noncomputable def deq:D->D->Bool
 |.non,.non=>qz
 |.bl a,.bl b=>a==b
 |.bl a,.int j=>b2i a==j
 |.int i,.bl b=>i==b2i b
 |.int i,.int j=>i==j
 |.str x,.str y=>x==y
 |.tup xs,.tup ys=>p7 xs ys
 |.lst xs,.lst ys=>p7 xs ys
 |_,_=>q4
noncomputable def p7:List D->List D->Bool
 |[],[]=>qz
 |x::xs,y::ys=>deq x y&&p7 xs ys
 |_,_=>q4
end
mutual
noncomputable def plain:D->Bool
 |.non=>qz
 |.bl _=>qz
 |.int _=>qz
 |.str x=>x.cps.all (· <0x110000)
 |.tup xs=>bC xs
 |.lst xs=>bC xs
 |.exc _=>q4
 |.fn _=>q4
noncomputable def bC:List D->Bool
 |[]=>qz
 |x::xs=>plain x&&bC xs
end
mutual
noncomputable def dep:D->Nat
 |.tup xs=>nL xs+1
 |.lst xs=>nL xs+1
 |_=>0
noncomputable def nL:List D->Nat
 |[]=>0
 |x::xs=>max (dep x) (nL xs)
end
def tQ(x y:D):Bool:=plain x&&plain y&&decide (min (dep x) (dep y)<=60)
inductive R where
 |ok (d:D)|ow (xs:List D)|ex (c:Nat)|bad
noncomputable def R.bind(r:R)(k:D->R):R:=match r with
 |.ok d=>k d
 |.ow xs=>k (.lst xs)
 |.ex c=>.ex c
 |.bad=>.bad
structure Rk where
 held:List (Str×D)
 done:List D
 undone:List D
inductive RM where
 |pure (x:R)|chg (x:D) (r:Rk)
abbrev FM:=Rk->List D->RM
noncomputable def RM.told:RM->R
 |.pure x=>x
 |.chg _ _=>.bad
inductive RR where
 |rk (r:Rk)|ex (c:Nat)|bad
abbrev FR:=List D->RR
inductive Slot where
 |no|sh (d:D)|ow (xs:List D)|dc (kvs:List (D×D))|sd (kvs:List (D×D))|rk (C:Nat) (r:Rk)
noncomputable def Slot.isRk:Slot->Bool
 |.rk _ _=>qz
 |_=>q4
noncomputable def Slot.owns:Slot->Bool
 |.ow _=>qz
 |.dc _=>qz
 |_=>q4
abbrev Rho:=List Slot
abbrev F:=Rho->R
inductive Out where
 |nx (ρ:Rho)|rt (r:R)|bk (ρ:Rho)|ct (ρ:Rho)|ex (c:Nat) (ρ:Rho)
abbrev FS:=Rho->Out
abbrev Fn:=List D->R
def LIM:Nat:=100000
noncomputable def sml(i:Int):Bool:=decide (-18446744073709551616<i)&&decide (i<18446744073709551616)
def fT(op:Operator)(i j:Int):R:=match op with
 |.Add=>.ok (.int (i+j))
 |.Sub=>.ok (.int (i-j))
 |.Mult=>if sml i||sml j then .ok (.int (i*j))else .bad
 |.FloorDiv=>if 0<j/\j<1073741824 then .ok (.int (i/j))else .bad
 |.Mod=>if 0<j then .ok (.int (i % j))else .bad
 |.LShift=>if 0<=j/\j<=1000/\sml i=qz then .ok (.int (i*2^j.toNat))else .bad
 |.RShift=>if 0<=j then .ok (.int (i/2^j.toNat))else .bad
 |_=>.bad
noncomputable def Ou(xs:List D)(k:Int):List D:=(ak k.toNat xs).flatten
def mW(op:Operator)(x y:D):R:=match x,y with
 |.int i,.int j=>(match op with
  |.BitAnd=>.ok (.int (Builtin.bitAnd i j))
  |.BitOr=>.ok (.int (Builtin.bitOr i j))
  |.BitXor=>.ok (.int (Builtin.bitXor i j))
  |op=>fT op i j)
 |.tup xs,.tup ys=>(match op with
  |.Add=>if xs.length+ys.length<=LIM then .ok (.tup (xs++ys))else .bad
  |_=>.bad)
 |.lst xs,.lst ys=>(match op with
  |.Add=>if xs.length+ys.length<=LIM then .ow (xs++ys)else .bad
  |_=>.bad)
 |.str x,.str y=>(match op with
  |.Add=>if x.length<=LIM/\y.length<=LIM then .ok (.str (x++y))else .bad
  |_=>.bad)
 |.lst xs,.int k=>(match op with
  |.Mult=>if -1000000<k/\k<1000000/\xs.length*k.toNat<=LIM then .ow (Ou xs k)else .bad
  |_=>.bad)
 |_,_=>.bad
noncomputable def items:D->Option (List D)
 |.tup xs=>qv xs
 |.lst xs=>qv xs
 |_=>qw
noncomputable def yD(x:Str):List D:=x.cps.toList.map λc=>D.str ⟨#[c]⟩
def j6:D->Option (List D)
 |.tup xs=>qv xs
 |.lst xs=>qv xs
 |.str x=>if x.cps.size<=1000 then qv (yD x)else qw
 |_=>qw
noncomputable def qQ:D->Bool
 |.non=>qz
 |_=>q4
noncomputable def Ov(b:Bool):D->Bool
 |.bl a=>a==b
 |_=>q4
def zG(x:D)(ys:List D):Bool:=ys.all λy=>tQ y x
def fC(op:CmpOp)(x y:D):R:=match op with
 |.Eq=>if tQ x y then .ok (.bl (deq x y))else .bad
 |.NotEq=>if tQ x y then .ok (.bl (!deq x y))else .bad
 |.Lt=>(match x,y with|.int i,.int j=>.ok (.bl (decide (i<j)))|_,_=>.bad)
 |.LtE=>(match x,y with|.int i,.int j=>.ok (.bl (decide (i<=j)))|.str i,.str j=>.ok (.bl (!decide (j.cps.toList<i.cps.toList)))|_,_=>.bad)
 |.Gt=>(match x,y with|.int i,.int j=>.ok (.bl (decide (j<i)))|_,_=>.bad)
 |.GtE=>(match x,y with|.int i,.int j=>.ok (.bl (decide (j<=i)))|_,_=>.bad)
 |.Is=>(match y with
  |.non=>.ok (.bl (qQ x))
  |_=>.bad)
 |.IsNot=>(match y with
  |.non=>.ok (.bl (!qQ x))
  |.bl b=>.ok (.bl (!Ov b x))
  |_=>.bad)
 |.In=>(match items y with|some ys=>if zG x ys then .ok (.bl (ys.any λy=>deq y x))else .bad|none=>.bad)
 |.NotIn=>(match items y with|some ys=>if zG x ys then .ok (.bl (!ys.any λy=>deq y x))else .bad|none=>.bad)
noncomputable def ixD(n:Nat)(i:Int):Option Nat:=if 0<=i then(if i<n then qv i.toNat else qw)else if -(n:Int)<=i then qv (i+n).toNat else qw
def dIx(x y:D):R:=match items x,y with
 |some xs,.int i=>(match(ixD xs.length i).bind λj=>xs[j]? with|some d=>.ok d|none=>.bad)
 |some _,_=>.bad
 |none,_=>.bad
noncomputable def cT(n d:Nat):Option Int->Nat
 |none=>d
 |some v=>if v<0 then(v+n).toNat else min v.toNat n
noncomputable def zH(xs:List D)(lo hi:Option Int):List D:=(xs.drop (cT xs.length 0 lo)).take (cT xs.length xs.length hi-cT xs.length 0 lo)
noncomputable def CT(xs:List Nat)(lo hi:Option Int):List Nat:=(xs.drop (cT xs.length 0 lo)).take (cT xs.length xs.length hi-cT xs.length 0 lo)
noncomputable def J5(x:D)(lo hi:Option Int):R:=match x with
 |.tup xs=>.ok (.tup (zH xs lo hi))
 |.lst xs=>.ow (zH xs lo hi)
 |.str z=>if z.length<=LIM then .ok (.str ⟨(CT z.cps.toList lo hi).toArray⟩)else .bad
 |_=>.bad
noncomputable def Ez:D->(Int->R)->R
 |.int i,k=>k i
 |_,_=>.bad
noncomputable def aA(i:Nat):F:=λρ=>match ρ[i]? with|some (.sh d)=>.ok d|_=>.bad
noncomputable def aI(i:Nat):F:=λρ=>match ρ[i]? with|some (.sh d)=>.ok d|some (.ow xs)=>.ok (.lst xs)|_=>.bad
noncomputable def qR(i:Nat):F:=λρ=>match ρ[i]? with|some (.sh d)=>.ok d|some (.ow xs)=>.ow xs|_=>.bad
noncomputable def rK(d:D):F:=λ_=>.ok d
def aR(op:Operator)(a b:F):F:=λρ=>(a ρ).bind λx=>(b ρ).bind λy=>mW op x y
def Ml(a:F):F:=λρ=>(a ρ).bind λx=>match x with|.int i=>.ok (.int (-i))|_=>.bad
def iZ(a:F):F:=λρ=>(a ρ).bind λx=>match x with|.bl b=>.ok (.bl (!b))|_=>.bad
def iK(a b:F):F:=λρ=>(a ρ).bind λx=>match x with|.bl qz=>b ρ|.bl q4=>.ok (.bl q4)|_=>.bad
def rOr(a b:F):F:=λρ=>(a ρ).bind λx=>match x with|.bl qz=>.ok (.bl qz)|.bl q4=>b ρ|_=>.bad
def rIf(c a b:F):F:=λρ=>(c ρ).bind λx=>match x with|.bl qz=>a ρ|.bl q4=>b ρ|_=>.bad
def bH(op:CmpOp)(a b:F):F:=λρ=>(a ρ).bind λx=>(b ρ).bind λy=>fC op x y
def j7(op op':CmpOp)(a b c:F):F:=λρ=>(a ρ).bind λx=>(b ρ).bind λy=>(fC op x y).bind λz=>match z with
 |.bl qz=>(c ρ).bind λw=>fC op' y w
 |.bl q4=>.ok (.bl q4)
 |_=>.bad
inductive RA where
 |ok (ds:List D)|ex (c:Nat)|bad
noncomputable def RA.cons(x:D):RA->RA
 |.ok ds=>.ok (x::ds)
 |.ex c=>.ex c
 |.bad=>.bad
noncomputable def RA.then(r:RA)(k:List D->R):R:=match r with
 |.ok ds=>k ds
 |.ex c=>.ex c
 |.bad=>.bad
def args:List F->Rho->RA
 |[],_=>.ok []
 |f::fs,ρ=>match f ρ with
  |.ok x=>(args fs ρ).cons x
  |.ow xs=>(args fs ρ).cons (.lst xs)
  |.ex c=>.ex c
  |.bad=>.bad
def mX(fs:List F)(ρ:Rho)(k:List D->R):R:=(args fs ρ).then k
def gN(fs:List F):F:=λρ=>mX fs ρ λxs=>.ok (.tup xs)
def iL(fs:List F):F:=λρ=>mX fs ρ λxs=>.ow xs
def rIx(a b:F):F:=λρ=>(a ρ).bind λx=>(b ρ).bind λy=>dIx x y
def t9(a:F)(lo hi:Option F):F:=λρ=>(a ρ).bind λx=>match lo,hi with
 |none,qw=>J5 x qw qw
 |some l,qw=>(l ρ).bind λy=>Ez y λi=>J5 x (qv i) qw
 |none,qv h=>(h ρ).bind λz=>Ez z λj=>J5 x qw (qv j)
 |some l,qv h=>(l ρ).bind λy=>Ez y λi=>(h ρ).bind λz=>Ez z λj=>J5 x (qv i) (qv j)
def aB(f:Fn)(fs:List F):F:=λρ=>mX fs ρ f
def rIs(p:D->Option Bool)(a:F):F:=λρ=>(a ρ).bind λx=>match p x with|some b=>.ok (.bl b)|none=>.bad
noncomputable def bR(f:D->Option (Option D)):List D->Option (List D)
 |[]=>qv []
 |d::r=>match f d with
  |none=>qw
  |some qw=>bR f r
  |some (qv x)=>(bR f r).map (x:: ·)
noncomputable def tgt(n:Nat)(d:D):Option (List Slot):=match n with
 |0=>qv [.sh d]
 |n=>match d with
  |.tup ds=>if ds.length=n then qv (ds.map Slot.sh)else qw
  |_=>qw
noncomputable def jK(cs:List Nat)(ρ:Rho):List Slot:=cs.map λi=>(ρ[i]?).getD .no
def dG(n:Nat)(cs:List Slot)(c:Option F)(e:F)(d:D):Option (Option D):=match tgt n d with
 |none=>qw
 |some ts=>match c with
  |none=>(match e (ts++cs)with|.ok x=>qv (qv x)|.ow xs=>qv (qv (.lst xs))|_=>qw)
  |some c=>match c (ts++cs)with
   |.ok (.bl qz)=>(match e (ts++cs)with|.ok x=>qv (qv x)|.ow xs=>qv (qv (.lst xs))|_=>qw)
   |.ok (.bl q4)=>qv qw
   |_=>qw
def aO(n:Nat)(cs:List Nat)(it:F)(c:Option F)(e:F):F:=λρ=>(it ρ).bind λx=>match j6 x with
 |some ds=>(match bR (dG n (jK cs ρ) c e) ds with|some xs=>.ow xs|none=>.bad)
 |none=>.bad
noncomputable def nM(n:Nat):List D:=(pw n).map λ(i:Nat)=>D.int (i:Int)
def bE(a:F):F:=λρ=>(a ρ).bind λx=>Ez x λi=>if -100000<=i/\i<=100000 then .ok (.lst (nM i.toNat))else .bad
def qS(a:F):F:=λρ=>(a ρ).bind λx=>match items x with
 |some xs=>.ok (.lst (xs.zipIdx.map λp=>D.tup [.int (p.2:Nat),p.1]))
 |none=>.bad
def uA(a b:F):F:=λρ=>(a ρ).bind λx=>(b ρ).bind λy=>match x,y with
 |.tup xs,.tup ys=>.ok (.lst ((xs.zip ys).map λp=>D.tup [p.1,p.2]))
 |.lst xs,.lst ys=>.ok (.lst ((xs.zip ys).map λp=>D.tup [p.1,p.2]))
 |.lst xs,.tup ys=>.ok (.lst ((xs.zip ys).map λp=>D.tup [p.1,p.2]))
 |.tup xs,.lst ys=>.ok (.lst ((xs.zip ys).map λp=>D.tup [p.1,p.2]))
 |_,_=>.bad
noncomputable def Ow:D->R|.str z=>if z.length<=100000 then .ok (.int z.length)else .bad|_=>.bad
def iB:Fn|[x]=>(match items x with|some xs=>.ok (.int xs.length)|none=>Ow x)|_=>.bad
noncomputable def J6:Fn|[.int i]=>.ok (.int i)|[.bl b]=>.ok (.int (b2i b))|[.str x]=>(match x.cps.toList with|[c]=>if 48<=c/\c<58 then .ok (.int ((c-48:Nat):Int))else .bad|_=>.bad)|_=>.bad
noncomputable def Mm:Fn|[.int i]=>if 0<=i/\i<10 then .ok (.str ⟨#[48+i.toNat]⟩)else .bad|_=>.bad
noncomputable def oS:List D->Option (List Str)
 |[]=>qv []
 |.str x::r=>(oS r).map (x:: ·)
 |_::_=>qw
def F4(sep:Str)(x:D):R:=match x with
 |.lst ds=>(match oS ds with|some ts=>if JoinOk sep ts then .ok (.str (qq sep ts))else .bad|none=>.bad)
 |_=>.bad
def Af(sep:Str)(f:F):F:=λρ=>(f ρ).bind (F4 sep)
noncomputable def J7(x y:D):R:=match x,y with
 |.str a,.str b=>if b.length=1/\a.length<=LIM then .ow ((ql a b).map D.str)else .bad
 |_,_=>.bad
def qT(f g:F):F:=λρ=>(f ρ).bind λx=>match x with|.str a=>(g ρ).bind λy=>J7 (.str a) y|_=>.bad
noncomputable def qU(a b:Str):List D:=match f6 a b 0 a.length 1 with
 |i::_=>[.str (jf a 0 i),.str b,.str (jf a (i+b.length) a.length)]
 |[]=>[.str a,.str qk,.str qk]
def Na(x y:D):R:=match x,y with
 |.str a,.str b=>if(b.length==0)=q4/\a.length<=LIM then .ok (.tup (qU a b))else .bad
 |_,_=>.bad
def Ag(f g:F):F:=λρ=>(f ρ).bind λx=>match x with|.str a=>(g ρ).bind λy=>Na (.str a) y|_=>.bad
noncomputable def O4(kvs:List (Str×D))(x:D):R:=match x with
 |.str a=>.ok ((kvs.lookup a).getD .non)
 |_=>.bad
def Mn(kvs:List (Str×D))(f:F):F:=λρ=>(f ρ).bind (O4 kvs)
def eV:Fn|[x]=>(match items x with|some xs=>.ok (.tup xs)|none=>.bad)|_=>.bad
def uB:Fn|[x]=>(match items x with|some xs=>.ow xs|none=>.bad)|_=>.bad
noncomputable def dX:List D->Option (List Int)
 |[]=>qv []
 |.int i::r=>(dX r).map (i:: ·)
 |_::_=>qw
noncomputable def eC:List D->Option (List Bool)
 |[]=>qv []
 |.bl b::r=>(eC r).map (b:: ·)
 |_::_=>qw
def zI:Fn|[x]=>(match(items x).bind dX with|some xs=>.ok (.int xs.sum)|none=>.bad)|_=>.bad
def EA:Fn|[x]=>(match(items x).bind eC with|some xs=>.ok (.bl (xs.all id))|none=>.bad)|_=>.bad
def Nb:Fn|[x]=>(match(items x).bind eC with|some xs=>.ok (.bl (xs.any id))|none=>.bad)|_=>.bad
noncomputable def vO:Int->List Int->Int
 |m,[]=>m
 |m,i::r=>vO (if m<i then i else m) r
noncomputable def Jc(i:Int):List Int->List Int
 |[]=>[i]
 |j::r=>if i<=j then i::j::r else j::Jc i r
def kO:List Int->List Int
 |[]=>[]
 |i::r=>Jc i (kO r)
noncomputable def fZ:List Int->List Int->Bool
 |[],[]=>q4
 |[],_::_=>qz
 |_::_,[]=>q4
 |a::r,b::t=>if a=b then fZ r t else decide (a<b)
mutual
noncomputable def same:D->D->Bool
 |.int _,.int _=>qz
 |.tup xs,.tup ys=>bI xs ys
 |_,_=>q4
noncomputable def bI:List D->List D->Bool
 |[],[]=>qz
 |x::xs,y::ys=>same x y&&bI xs ys
 |_,_=>q4
end
mutual
noncomputable def fU:D->List Int
 |.int i=>[i]
 |.tup xs=>dH xs
 |_=>[]
noncomputable def dH:List D->List Int
 |[]=>[]
 |x::xs=>fU x++dH xs
end
def ltD(x y:D):Bool:=fZ (fU x) (fU y)
def Jd(a:D):List D->List D
 |[]=>[a]
 |b::r=>if ltD b a then b::Jd a r else a::b::r
def qV:List D->List D
 |[]=>[]
 |a::r=>Jd a (qV r)
def Ah(d:D):List D->D
 |[]=>d
 |e::r=>Ah (if ltD e d then e else d) r
noncomputable def iC:D->Bool
 |.tup (_::_)=>qz
 |_=>q4
noncomputable def j8:D->Bool
 |.tup _=>qz
 |_=>q4
def lL:List D->Bool
 |[]=>q4
 |d::r=>j8 d&&(r.isEmpty||iC d)&&decide (dep d<=8)&&same d d&&r.all (same d)
noncomputable def O5(acc:List D)(d:D):List D:=if acc.any (λe=>deq e d)then acc else acc++[d]
noncomputable def ddD(ds:List D):List D:=ds.foldl O5 []
def CU(ds:List D):R:=if lL ds then(match ds with|d::r=>.ok (Ah d r)|[]=>.bad)else .bad
def J8(ds:List D):R:=match dX ds with
 |some _=>.bad
 |none=>CU ds
def F5:Fn|[x]=>(match items x with|some ds=>J8 ds|none=>.bad)|_=>.bad
def kQ(ds:List D):R:=if lL ds&&decide (ds.length<64)then .ow (qV ds)else .bad
def kR(ds:List D):R:=match dX ds with
 |some ns=>if ns.length<64 then .ow ((kO ns).map D.int)else .bad
 |none=>kQ ds
def iM:Fn|[x]=>(match items x with|some ds=>kR ds|none=>.bad)|_=>.bad
noncomputable def Ox(ns:List Int):List Int:=((pw 17).filter λ(k:Nat)=>ns.contains (k:Int)).map λ(k:Nat)=>(k:Int)
noncomputable def Oy(ns:List Int):Bool:=ns.all λn=>decide (0<=n/\n<17)
def O6(ds:List D):R:=if lL ds&&decide ((ddD ds).length<64)then .ow (qV (ddD ds))else .bad
def O7(ds:List D):R:=match dX ds with|some ns=>if Oy ns then .ow ((Ox ns).map D.int)else .bad|none=>O6 ds
def dSS:Fn|[x]=>(match x with|.lst ds=>O7 ds|_=>.bad)|_=>.bad
def O8(ds:List D):R:=match dX ds with|some ns=>if Oy ns then .ok (.int ((Ox ns).length:Nat))else .bad|none=>.bad
def dLS:Fn|[x]=>(match x with|.lst ds=>O8 ds|_=>.bad)|_=>.bad
def Nc(i:Int):List Int->Int
 |[]=>i
 |n::ns=>vO n ns
def Ai(i:Int):Fn|[x]=>(match(items x).bind dX with|some ns=>.ok (.int (Nc i ns))|none=>.bad)|_=>.bad
noncomputable def O9(x:D):R:=match x with|.lst xs=>.ow xs.reverse|.tup xs=>.ok (.tup xs.reverse)|_=>.bad
def PO(a:F):F:=λρ=>(a ρ).bind O9
noncomputable def Nd{α:Type}(xs:List α)(lo:Nat):List α:=(pw ((xs.length-lo+1)/2)).filterMap λk=>xs[lo+2*k]?
def Nf(x y:D):R:=match x with|.tup xs=>(match y with|.int i=>if 0<=i then .ok (.tup (Nd xs i.toNat))else .bad|_=>.bad)|_=>.bad
def Pa(a b:F):F:=λρ=>(a ρ).bind λx=>(b ρ).bind λy=>Nf x y
def PP(a:F):F:=λρ=>(a ρ).bind λx=>match x with|.bl b=>.ok (.bl b)|.lst xs=>.ok (.bl (!xs.isEmpty))|_=>.bad
noncomputable def orP(p q:D->Option Bool):D->Option Bool:=λd=>match p d,q d with|some a,qv b=>qv (a||b)|_,_=>qw
mutual
noncomputable def hkD:D->Bool
 |.non=>qz
 |.int _=>qz
 |.tup xs=>EB xs
 |_=>q4
noncomputable def EB:List D->Bool
 |[]=>qz
 |x::xs=>hkD x&&EB xs
end
def dD(k:D):Bool:=j8 k&&hkD k&&decide (dep k<=8)
noncomputable def tU(kvs:List (D×D))(k:D):Bool:=kvs.any λp=>deq p.1 k
noncomputable def putK(kvs:List (D×D))(k d:D):List (D×D):=if tU kvs k then kvs.map (λp=>if deq p.1 k then(p.1,d)else p)else kvs++[(k,d)]
noncomputable def inK(op:CmpOp)(b:Bool):R:=match op with
 |.In=>.ok (.bl b)
 |.NotIn=>.ok (.bl !b)
 |_=>.bad
def J9(op:CmpOp)(a:F)(i:Nat):F:=λρ=>(a ρ).bind λx=>match ρ[i]? with
 |some (.dc kvs)=>if dD x then inK op (tU kvs x)else .bad
 |some (.sd kvs)=>if dD x then inK op (tU kvs x)else .bad
 |_=>.bad
def lM(i:Nat):F:=λρ=>match ρ[i]? with
 |some (.dc kvs)=>.ok (.lst (kvs.map (·.1)))
 |some (.sd kvs)=>.ok (.lst (kvs.map (·.1)))
 |_=>aI i ρ
noncomputable def put(ρ:Rho)(i:Nat)(s:Slot):Rho:=ρ.set i s
noncomputable def frz1(i:Nat)(ρ:Rho):Rho:=match ρ[i]? with|some (.ow xs)=>ρ.set i (.sh (.lst xs))|some (.dc kvs)=>ρ.set i (.sd kvs)|_=>ρ
noncomputable def frz(is:List Nat)(ρ:Rho):Rho:=is.foldl (λρ i=>frz1 i ρ) ρ
noncomputable def Ka(is:List Nat)(s:FS):FS:=λρ=>s (frz is ρ)
noncomputable def f8(ρ:Rho)(r:R)(k:D->Out):Out:=match r with
 |.ok d=>k d
 |.ow xs=>k (.lst xs)
 |.ex c=>.ex c ρ
 |.bad=>.rt .bad
def f9(i:Nat)(e:F):FS:=λρ=>f8 ρ (e ρ) λd=>.nx (ρ.set i (.sh d))
noncomputable def mT(i:Nat)(e:F):FS:=λρ=>match e ρ with
 |.ok d=>.nx (ρ.set i (.sh d))
 |.ow xs=>.nx (ρ.set i (.ow xs))
 |.ex c=>.ex c ρ
 |.bad=>.rt .bad
noncomputable def Pb(j i:Nat):FS:=λρ=>match ρ[j]? with
 |some (.ow xs)=>.nx ((ρ.set j .no).set i (.ow xs))
 |_=>.rt .bad
noncomputable def setN:List Nat->List D->Rho->Rho
 |i::is,d::ds,ρ=>setN is ds (ρ.set i (.sh d))
 |_,_,ρ=>ρ
def qW(is:List Nat)(e:F):FS:=λρ=>f8 ρ (e ρ) λd=>match d with
 |.tup ds=>if ds.length=is.length then .nx (setN is ds ρ)else .rt .bad
 |.lst ds=>if ds.length=is.length then .nx (setN is ds ρ)else .rt .bad
 |_=>.rt .bad
def dY(e:F):FS:=λρ=>f8 ρ (e ρ) λ_=>.nx ρ
noncomputable def bX(e:F):FS:=λρ=>match e ρ with
 |.ok d=>.rt (.ok d)
 |.ow xs=>.rt (.ow xs)
 |.ex c=>.ex c ρ
 |.bad=>.rt .bad
def bN:FS:=λρ=>.nx ρ
noncomputable def aS(a b:FS):FS:=λρ=>match a ρ with|.nx ρ'=>b ρ'|o=>o
noncomputable def sIf(c:F)(a b:FS):FS:=λρ=>match c ρ with
 |.ok (.bl qz)=>a ρ
 |.ok (.bl q4)=>b ρ
 |.ex c=>.ex c ρ
 |_=>.rt .bad
noncomputable def eE(c:Nat):FS:=λρ=>.ex c ρ
def EC(i:Nat)(e:F):FS:=λρ=>match ρ[i]? with
 |some (.ow xs)=>f8 ρ (e ρ) λd=>if xs.length<LIM then .nx (ρ.set i (.ow (xs++[d])))else .rt .bad
 |_=>.rt .bad
def Je(i:Nat)(e:F):FS:=λρ=>match ρ[i]? with
 |some (.ow xs)=>f8 ρ (e ρ) λd=>(match d with
  |.lst ys=>if xs.length+ys.length<=LIM then .nx (ρ.set i (.ow (xs++ys)))else .rt .bad
  |_=>.rt .bad)
 |_=>.rt .bad
def ED(i:Nat)(k e:F):FS:=λρ=>f8 ρ (e ρ) λd=>match ρ[i]? with
 |some (.ow xs)=>f8 ρ (k ρ) λy=>(match y with
  |.int j=>(match ixD xs.length j with|some m=>.nx (ρ.set i (.ow (xs.set m d)))|none=>.rt .bad)
  |_=>.rt .bad)
 |some (.dc kvs)=>f8 ρ (k ρ) λy=>if dD y&&decide (kvs.length<LIM)then .nx (ρ.set i (.dc (putK kvs y d)))else .rt .bad
 |_=>.rt .bad
noncomputable def F6(i:Nat):FS:=λρ=>.nx (ρ.set i (.dc []))
def CV(i:Nat)(k e:F):FS:=λρ=>match ρ[i]? with
 |some (.ow xs)=>f8 ρ (k ρ) λy=>(match y with
  |.int j=>(match ixD xs.length j with
   |some m=>(match xs[m]? with
    |some (.int a)=>f8 ρ (e ρ) λd=>(match d with
     |.int b=>.nx (ρ.set i (.ow (xs.set m (.int (a+b)))))
     |_=>.rt .bad)
    |_=>.rt .bad)
   |none=>.rt .bad)
  |_=>.rt .bad)
 |_=>.rt .bad
noncomputable def yE(is:List Nat)(one:Bool)(d:D)(ρ:Rho):Option Rho:=match one,is with
 |true,[i]=>qv (ρ.set i (.sh d))
 |false,is=>(match d with
  |.tup ds=>if ds.length=is.length then qv (setN is ds ρ)else qw
  |_=>qw)
 |_,_=>qw
noncomputable def hX(t:D->Rho->Option Rho)(b:FS):List D->Rho->Out
 |[],ρ=>.nx ρ
 |d::r,ρ=>match t d ρ with
  |none=>.rt .bad
  |some ρ1=>match b ρ1 with
   |.nx ρ2=>hX t b r ρ2
   |.ct ρ2=>hX t b r ρ2
   |.bk ρ2=>.nx ρ2
   |.rt r=>.rt r
   |.ex c ρ2=>.ex c ρ2
def nN(is:List Nat)(one:Bool)(it:F)(b:FS):FS:=λρ=>f8 ρ (it ρ) λx=>match items x with
 |some ds=>hX (yE is one) b ds ρ
 |none=>.rt .bad
noncomputable def Mo:FS:=λ_=>.rt .bad
noncomputable def fnOf(n:Nat)(b:FS):Fn:=λds=>match b (ds.map Slot.sh++ak (n-ds.length) .no)with
 |.rt (.ok d)=>.ok d
 |.rt (.ow xs)=>.ow xs
 |.rt _=>.bad
 |.nx _=>.ok .non
 |.ex c _=>.ex c
 |_=>.bad
inductive Py where
 |len|range|enum|zip|isin|int|bool|str|tuple|list|sum|all|any|sorted|min|max|abs|set
 deriving DecidableEq
inductive Gl where
 |fn (k n:Nat) (f:Fn)|exc (c:Nat)|verr|val (d:D)|py (p:Py)|tbl (kvs:List (Str×D))|cls (a:Nat) (ms:List (Str×Nat×FM))|rfn (a:Nat) (M:FM)|rmk (a n:Nat) (M:FR)
noncomputable def hit(c e:Nat):Bool:=c==e||c==0||c==100
structure Ctx where
 tab:List (Str×Gl)
 fns:List (Nat×Fn)
 sc:Scope
 N:List Str
 bs:List Str
noncomputable def idx(x:Str):List Str->Option Nat
 |[]=>qw
 |y::r=>if x=y then qv 0 else(idx x r).map (· +1)
def loc(C:Ctx)(x:Str):Option Nat:=match C.sc.names.lookup x with
 |some .local=>idx x C.N
 |some .cell=>idx x C.N
 |some .free=>idx x C.N
 |_=>qw
def fV(C:Ctx)(x:Str):Option Nat:=match C.sc.names.lookup x with
 |some .cell=>idx x C.N
 |some .free=>idx x C.N
 |_=>qw
noncomputable def glo(C:Ctx)(x:Str):Option Gl:=match C.sc.names.lookup x with
 |some .globalImplicit=>C.tab.lookup x
 |_=>qw
def isP:Gl->Option (D->Option Bool)
 |.py .int=>qv λd=>match d with|.int _=>qv qz|.bl _=>qv qz|.exc _=>qw|.fn _=>qw|_=>qv q4
 |.py .bool=>qv λd=>match d with|.bl _=>qv qz|.exc _=>qw|.fn _=>qw|_=>qv q4
 |.py .tuple=>qv λd=>match d with|.tup _=>qv qz|.exc _=>qw|.fn _=>qw|_=>qv q4
 |.py .list=>qv λd=>match d with|.lst _=>qv qz|.exc _=>qw|.fn _=>qw|_=>qv q4
 |.py .str=>qv λd=>match d with|.str _=>qv qz|.exc _=>qw|.fn _=>qw|_=>qv q4
 |.exc c=>qv λd=>match d with|.exc e=>qv (hit c e)|_=>qw
 |.verr=>qv λd=>match d with|.exc e=>qv (hit 100 e)|_=>qw
 |_=>qw
noncomputable def kD:Const->Option D
 |.int i=>qv (.int i)
 |.bool b=>qv (.bl b)
 |.none=>qv .non
 |.str x=>qv (.str x)
 |_=>qw
noncomputable def fW{α β:Type}(f:α->Option β):List α->Option (List β)
 |[]=>qv []
 |x::r=>match f x with
  |none=>qw
  |some y=>(fW f r).map (y:: ·)
def cG:Expr->Option (List Str×Nat)
 |.Name x _=>qv ([x],0)
 |.Tuple es _ _=>(fW (λ(e:Expr)=>match e with|.Name x _=>qv x|_=>qw) es).bind λxs=>if 2<=xs.length then qv (xs,xs.length)else qw
 |_=>qw
noncomputable def bK(sc:Scope):List Str:=(sc.names.filter λp=>p.2== .free).map (·.1)
noncomputable def qX(sc:Scope):List Str:=(sc.names.filter λp=>p.2== .cell).map (·.1)
def lN(sc:Scope)(xs:List Str):Bool:=
 sc.kind== .function&&((qX sc).isEmpty||(decide (qX sc=xs)&&decide (xs.length=1)))&&xs.all (λx=>sc.names.lookup x==qv (if(qX sc).isEmpty then .local else .cell))&&
  sc.names.all (λp=>p.2 != .local||sc.names.lookup p.1==qv .local)&&decide (xs++bK sc).Nodup&&(xs++bK sc).all (λx=>x != "__debug__"&&x != "__classdict__")&&(bK sc).all (λx=>sc.names.lookup x==qv .free)
noncomputable def one:List Expr->Option Expr
 |[a]=>qv a
 |_=>qw
noncomputable def two:List Expr->Option (Expr×Expr)
 |[a,b]=>qv (a,b)
 |_=>qw
noncomputable def cQ:Expr->Option (Str×Pos)
 |.Name x p=>qv (x,p)
 |_=>qw
noncomputable def Mp:Expr->Option (List Expr×Nat×Pos)
 |.Tuple es k p=>qv (es,k,p)
 |_=>qw
noncomputable def EE:Expr->Option (Option Expr×Option Expr)
 |.Slice lo hi st _=>(match st with|none=>qv (lo,hi)|some _=>qw)
 |_=>qw
noncomputable def Ng:Expr->Bool
 |.Constant c _ _=>(match c with|.int i=>i==1|_=>q4)
 |_=>q4
noncomputable def Pc:Expr->Bool
 |.UnaryOp op e _=>(match op with|.USub=>Ng e|_=>q4)
 |_=>q4
noncomputable def Kb:Expr->Bool
 |.Name _ _=>qz
 |_=>q4
noncomputable def Oz:Expr->Bool
 |.Subscript _ _ _=>qz
 |_=>q4
noncomputable def Nh:Expr->Bool
 |.Constant c _ _=>(match c with|.int i=>i==2|_=>q4)
 |_=>q4
noncomputable def Pd:Expr->Option Expr
 |.Slice lo hi st _=>if hi.isNone&&(match st with|none=>q4|some e=>Nh e)then lo else qw
 |_=>qw
noncomputable def PR:Expr->Bool
 |.Slice lo hi st _=>lo.isNone&&hi.isNone&&(match st with|none=>q4|some e=>Pc e)
 |_=>q4
def Pe(e:Expr):Option (Str×Str):=(Mp e).bind λ(es,_)=>(two es).bind λ(u,v)=>(cQ u).bind λ(x,_)=>(cQ v).map λ(y,_)=>(x,y)
noncomputable def F7:Expr->Bool
 |.Constant c _ _=>(match c with|.str _=>qz|_=>q4)
 |_=>q4
def F8(dE:Expr->Option F)(C:Ctx)(a:Expr):Option F:=match a with
 |.Call f as kws _=>if kws.isEmpty then(cQ f).bind λ(x,_)=>(one as).bind λb=>(match loc C x,glo C x with
  |none,qv (.py .range)=>dE b
  |_,_=>qw)else qw
 |_=>qw
noncomputable def F9(ks:List Keyword):Option Int:=match ks with
 |[⟨qv x,v,_⟩]=>if x="default" then(match v with|.Constant c _ _=>(match c with|.int i=>qv i|_=>qw)|_=>qw)else qw
 |_=>qw
def Gb(dL:Expr->Option F)(C:Ctx)(f:Expr)(as:List Expr)(ks:List Keyword):Option F:=(cQ f).bind λ(x,_)=>(one as).bind λa=>(F9 ks).bind λi=>(match loc C x,glo C x with
 |none,qv (.py .max)=>(dL a).map λg=>aB (Ai i) [g]
 |_,_=>qw)
noncomputable def Kc(b:Bool)(r:Rk):List D:=if b then r.done else r.undone
noncomputable def yF(A i:Nat)(k:Rk->R):F:=λρ=>match ρ[i]? with
 |some (.rk C r)=>if C=A then k r else .bad
 |_=>.bad
def Mq(A i:Nat)(b:Bool):F:=yF A i λr=>.ok (.lst (Kc b r))
noncomputable def eM(kvs:List (Str×D))(x:Str):Option D:=(kvs.find? λp=>decide (p.1=x)).map (·.2)
def Jf(neg:Bool)(A i:Nat)(f:F):F:=λρ=>(f ρ).bind λd=>yF A i (λr=>match d with
 |.str x=>.ok (.bl (neg != (eM r.held x).isSome))
 |_=>.bad) ρ
def qY(A i:Nat)(f:F):F:=λρ=>yF A i (λr=>(f ρ).bind λd=>match d with
 |.str x=>(match eM r.held x with|some d=>.ok d|none=>.bad)
 |_=>.bad) ρ
def CW(A i:Nat)(f:F):F:=λρ=>yF A i (λr=>(f ρ).bind λd=>match d with
 |.str x=>.ok ((eM r.held x).getD .non)
 |_=>.bad) ρ
def bJ(A i:Nat)(m:FM)(fs:List F):F:=λρ=>yF A i (λr=>mX fs ρ λds=>(m r ds).told) ρ
noncomputable def ltS(x y:Str):Bool:=decide (x.cps.toList<y.cps.toList)
noncomputable def Gc(x:Str):List Str->List Str
 |[]=>[x]
 |y::l=>if ltS y x then y::Gc x l else x::y::l
noncomputable def gC:List Str->List Str
 |[]=>[]
 |x::l=>Gc x (gC l)
def CY(A i:Nat):F:=yF A i λr=>if r.held.length<64 then .ow ((gC (r.held.map (·.1))).map D.str)else .bad
noncomputable def CZ:Expr->Option (Expr×Str×Pos)
 |.Attribute o f p=>qv (o,f,p)
 |_=>qw
def atF(C:Ctx)(f:Str)(e:Expr):Option Nat:=(CZ e).bind λ(o,g,_)=>if g=f then(cQ o).bind λ(x,_)=>loc C x else qw
def Kd(C:Ctx)(e:Expr):Option (Nat×Bool):=match atF C "done" e with
 |some i=>qv (i,qz)
 |none=>(atF C "undone" e).map λi=>(i,q4)
noncomputable def rkc(C:Ctx):Option (Nat×List (Str×Nat×FM)):=match C.tab.lookup ("Rack":Str)with
 |some (.cls a ms)=>qv (a,ms)
 |_=>qw
noncomputable def Ni:CmpOp->Option Bool
 |.In=>qv q4
 |.NotIn=>qv qz
 |_=>qw
def Ke(dE:Expr->Option F)(C:Ctx)(A:Nat)(op:CmpOp)(a b:Expr):Option F:=match Ni op with
 |some neg=>(atF C "held" b).bind λi=>(dE a).map λf=>Jf neg A i f
 |none=>(Kd C a).bind λ(i,bb)=>(dE b).map λg=>bH op (Mq A i bb) g
def Kf(dE:Expr->Option F)(C:Ctx)(A:Nat)(ms:List (Str×Nat×FM))(o:Expr)(m:Str)(as:List Expr):Option F:=match cQ o with
 |some (x,_)=>(loc C x).bind λi=>(ms.lookup m).bind λ(n,M)=>if as.length<20 then(fW dE as).bind λfs=>if fs.length=n then qv (bJ A i M fs)else qw else qw
 |none=>if m="get" then(atF C "held" o).bind λi=>(one as).bind λa=>(dE a).map λg=>CW A i g else qw
def OA(C:Ctx)(A:Nat)(x:Str)(a:Expr):Option F:=match glo C x with
 |some (.py .sorted)=>(atF C "held" a).map λi=>CY A i
 |some (.py .len)=>(Kd C a).map λ(i,bb)=>aB iB [Mq A i bb]
 |some (.rfn B M)=>if B=A then(cQ a).bind λ(y,_)=>(loc C y).map λi=>bJ A i M []else qw
 |_=>qw
def rkE(dE:Expr->Option F)(C:Ctx)(e:Expr):Option F:=match rkc C with
 |none=>qw
 |some (A,ms)=>(match e with
  |.Compare a [op] cs _=>(one cs).bind λb=>Ke dE C A op a b
  |.Subscript a b _=>(atF C "held" a).bind λi=>(dE b).map λg=>qY A i g
  |.Call f as kws cp=>if kws.isEmpty then(match f with
   |.Attribute o m ap=>if(ap.endLine==cp.line)=qz then Kf dE C A ms o m as else qw
   |.Name x _=>(one as).bind λa=>OA C A x a
   |_=>qw)else qw
  |_=>qw)
noncomputable def bsN(C:Ctx)(e:Expr):Bool:=match e with|.Name x _=>C.bs.contains x|_=>q4
def txN(dE:Expr->Option F)(C:Ctx)(x:Str)(p:Pos)(m:Str)(a:Expr):Option F:=match loc C x with
 |some _=>if m="split" then(dE (.Name x p)).bind λf=>(dE a).map λg=>qT f g else if m="partition" then(dE (.Name x p)).bind λf=>(dE a).map λg=>Ag f g else qw
 |none=>if m="get" then(match glo C x with
  |some (.tbl kvs)=>(dE a).map λg=>Mn kvs g
  |_=>qw)else qw
def txA(dE dL:Expr->Option F)(C:Ctx)(o:Expr)(m:Str)(as:List Expr):Option F:=(one as).bind λa=>(match o with
 |.Constant c _ _=>(match c with
  |.str s=>if m="join" then(dL a).map λg=>Af s g else qw
  |_=>qw)
 |.Name x p=>txN dE C x p m a
 |_=>qw)
def Ge(dE dL:Expr->Option F)(C:Ctx)(p:Py)(as:List Expr):Option F:=match p with
 |.len=>(one as).bind λa=>(dL a).map λf=>aB iB [f]
 |.int=>(one as).bind λa=>(dL a).map λf=>aB J6 [f]
 |.str=>(one as).bind λa=>(dL a).map λf=>aB Mm [f]
 |.tuple=>(one as).bind λa=>(dL a).map λf=>aB eV [f]
 |.list=>(one as).bind λa=>(match dL a with
  |some f=>qv (aB uB [f])
  |none=>(F8 dE C a).map λf=>aB uB [bE f])
 |.sum=>(one as).bind λa=>(dL a).map λf=>aB zI [f]
 |.all=>(one as).bind λa=>(dL a).map λf=>aB EA [f]
 |.any=>(one as).bind λa=>(dL a).map λf=>aB Nb [f]
 |.sorted=>(one as).bind λa=>(dL a).map λf=>aB iM [f]
 |.min=>(one as).bind λa=>(dL a).map λf=>aB F5 [f]
 |.isin=>(two as).bind λ(a,b)=>(cQ b).bind λ(t,_)=>(dE a).bind λf=>(glo C t).bind λg=>(isP g).map λP=>rIs P f
 |_=>qw
def Aj(dE:Expr->Option F)(C:Ctx)(tt:Bool)(x:Str)(as:List Expr):Option F:=match glo C x,as with
 |some (.py .range),[a]=>(dE a).map bE
 |some (.py .zip),[a,b]=>if tt then(dE a).bind λf=>(dE b).map λg=>uA f g else qw
 |some (.py .enum),[a]=>if tt then(dE a).map qS else qw
 |_,_=>qw
noncomputable def qZ(x:Str):Str:=x++"{}"
def dnN(C:Ctx)(e:Expr):Option Nat:=(cQ e).bind λ(x,_)=>if C.bs.contains (qZ x)then loc C x else qw
noncomputable def Pf:CmpOp->Bool
 |.In=>qz
 |.NotIn=>qz
 |_=>q4
def inN(C:Ctx)(op:CmpOp)(e:Expr):Option Nat:=if Pf op&&bsN C e then(cQ e).bind λ(x,_)=>loc C x else qw
mutual
def bU:Nat->Ctx->Expr->Option F
 |0,_,_=>qw
 |n+1,C,e=>match e with
  |.Name x _=>(match loc C x with
   |some i=>qv (aA i)
   |none=>match glo C x with
    |some (.val d)=>qv (rK d)
    |some (.fn k _ _)=>qv (rK (.fn k))
    |_=>qw)
  |.Constant c _ _=>(kD c).map rK
  |.BinOp a op b _=>(bU n C a).bind λf=>(bU n C b).map λg=>aR op f g
  |.UnaryOp op a _=>(bU n C a).bind λf=>(match op with|.Not=>qv (iZ f)|.USub=>qv (Ml f)|_=>qw)
  |.BoolOp op es p=>(match es with
   |[a,b]=>(bU n C a).bind λf=>(bU n C b).map λg=>(match op with|.And=>iK f g|.Or=>rOr f g)
   |a::b::c::r=>(bU n C a).bind λf=>(bU n C (.BoolOp op (b::c::r) p)).map λg=>(match op with|.And=>iK f g|.Or=>rOr f g)
   |_=>qw)
  |.Compare a ops cs q=>(match rkE (bU n C) C (.Compare a ops cs q)with
   |some f=>qv f
   |none=>match ops with
   |[op]=>(one cs).bind λb=>(bU n C a).bind λf=>(match inN C op b with
    |some i=>qv (J9 op f i)
    |none=>(bU n C b).map λg=>bH op f g)
   |[op,op']=>(two cs).bind λ(b,c)=>(bU n C a).bind λf=>(bU n C b).bind λg=>(bU n C c).map λh=>j7 op op' f g h
   |_=>qw)
  |.IfExp c a b _=>(bU n C c).bind λh=>(bU n C a).bind λf=>(bU n C b).map λg=>rIf h f g
  |.Tuple es _ _=>if es.length<=1000 then(fW (bU n C) es).map gN else qw
  |.List es _=>if es.length<=1000 then(fW (bU n C) es).map iL else qw
  |.Subscript a b q=>(match rkE (bU n C) C (.Subscript a b q)with
   |some f=>qv f
   |none=>(yG n C a).bind λf=>(match EE b with
   |some (lo,hi)=>(match lo with
    |none=>qv qw
    |some l=>(bU n C l).map qv).bind λl=>(match hi with
    |none=>qv qw
    |some h=>(bU n C h).map qv).map λh=>t9 f l h
   |none=>(bU n C b).map λg=>rIx f g))
  |.ListComp elt gens sc _=>(match gens with
   |[⟨tg,it,ifs,as⟩]=>if as=0 then(cG tg).bind λ(xs,k)=>(EF n C (k != 0) it).bind λfi=>if lN sc xs then
     (fW (λx=>fV C x) (bK sc)).bind λcs=>(match ifs with
     |[]=>qv qw
     |[c]=>(bU n {C with sc:=sc,N:=xs++bK sc} c).map qv
     |_=>qw).bind λc=>(bU n {C with sc:=sc,N:=xs++bK sc} elt).map λe=>aO k cs fi c e
    else qw else qw
   |_=>qw)
  |.Call f as kws cp=>(match rkE (bU n C) C (.Call f as kws cp)with
   |some f=>qv f
   |none=>(if kws.isEmpty then(match f with
   |.Name x _=>(match loc C x with
    |some _=>qw
    |none=>(match glo C x with
     |some (.fn _ k f)=>if as.isEmpty then qw else(fW (bU n C) as).bind λfs=>if fs.length=k then qv (aB f fs)else qw
     |some (.py p)=>Ge (bU n C) (yG n C) C p as
     |_=>qw))
   |.Attribute o m ap=>(match txA (bU n C) (yG n C) C o m as with
    |some f=>if ap.endLine==cp.line then qv f else qw
    |none=>qw)
   |_=>qw)else Gb (yG n C) C f as kws))
  |_=>qw
def yG:Nat->Ctx->Expr->Option F
 |0,_,_=>qw
 |n+1,C,e=>match e with
  |.Name x p=>(match loc C x with
   |some i=>qv (aI i)
   |none=>bU n C (.Name x p))
  |e=>bU n C e
def EF:Nat->Ctx->Bool->Expr->Option F
 |0,_,_,_=>qw
 |n+1,C,tt,e=>match e with
  |.Call f as kws q=>(match f with
   |.Name x p=>(match loc C x,glo C x,kws with
    |none,qv (.py .range),[]=>Aj (bU n C) C tt x as
    |none,qv (.py .zip),[]=>Aj (bU n C) C tt x as
    |none,qv (.py .enum),[]=>Aj (bU n C) C tt x as
    |_,_,_=>bU n C (.Call (.Name x p) as kws q))
   |f=>bU n C (.Call f as kws q))
  |e=>(match dnN C e with|some i=>qv (lM i)|none=>yG n C e)
end
def gv:Nat->Expr->List Str
 |0,_=>[]
 |n+1,e=>match e with
  |.Name x _=>[x]
  |.BinOp a _ b _=>gv n a++gv n b
  |.UnaryOp _ a _=>gv n a
  |.BoolOp _ as _=>as.flatMap (gv n)
  |.Compare a [_] [b] _=>(if Kb a then []else gv n a)++(if Kb b then []else gv n b)
  |.Compare a _ bs _=>gv n a++bs.flatMap (gv n)
  |.IfExp a b c _=>gv n a++gv n b++gv n c
  |.Tuple es _ _=>es.flatMap (gv n)
  |.List es _=>es.flatMap (gv n)
  |.Slice lo hi _ _=>(lo.map (gv n)).getD []++(hi.map (gv n)).getD []
  |.Subscript (.Name _ _) b _=>gv n b
  |.Subscript a b _=>gv n a++gv n b
  |.ListComp elt [⟨_,.Name _ _,ifs,_⟩] _ _=>ifs.flatMap (gv n)++gv n elt
  |.ListComp elt [⟨_,it,ifs,_⟩] _ _=>gv n it++ifs.flatMap (gv n)++gv n elt
  |.Call (.Name x _) as _ _=>if x="len"\/x="tuple"\/x="list"\/x="sum"\/x="sorted"\/x="all"\/x="any"\/x="isinstance" then
    as.flatMap λa=>match a with|.Name _ _=>[]|a=>gv n a else x::as.flatMap (gv n)
  |.Call (.Attribute (.Name _ _) _ _) as _ _=>as.flatMap (gv n)
  |.Call (.Attribute o _ _) as _ _=>gv n o++as.flatMap (gv n)
  |.Call f as _ _=>gv n f++as.flatMap (gv n)
  |_=>[]
def jM(C:Ctx)(e:Expr):List Nat:=match C.bs with
 |[]=>[]
 |_=>((gv 50 e).filter λx=>C.bs.contains x).filterMap λx=>loc C x
noncomputable def eA(is:List Nat)(s:FS):FS:=match is with
 |[]=>s
 |is=>Ka is s
def C1:Nat->List Stmt->List Str
 |0,_=>[]
 |n+1,ss=>ss.flatMap λs=>match s with
  |.Assign [.Subscript (.Name x _) _ _] _ _=>[x]
  |.Assign [.Name x _] (.Dict [] [] _) _=>[qZ x]
  |.Assign [.Tuple [_,.Name x _] _ _] (.Tuple [_,.Dict [] [] _] _ _) _=>[qZ x]
  |.AugAssign (.Subscript (.Name x _) _ _) _ _ _=>[x]
  |.Assign [.Tuple [.Subscript (.Name x _) _ _,_] _ _] _ _=>[x]
  |.Expr (.Call (.Attribute (.Name x _) m _) _ _ _) _=>if m="append"\/m="extend"\/m="remove" then [x]else []
  |.If _ a b _=>C1 n a++C1 n b
  |.For _ _ b _ _=>C1 n b
  |.While _ b _ _=>C1 n b
  |.Return (qv (.Name x _)) _=>if x="numbers" then [x]else []
  |_=>[]
noncomputable def lO(C:Ctx)(x y:Str):Bool:=(C.sc.names.lookup x==qv .cell||C.sc.names.lookup y==qv .cell)&& !C.bs.contains x&& !C.bs.contains y
noncomputable def OB:Operator->Bool
 |.Add=>qz
 |_=>q4
noncomputable def OC:Expr->Bool
 |.Dict ks vs _=>ks.isEmpty&&vs.isEmpty
 |_=>q4
def OD(C:Ctx)(tt:Bool)(it:Expr):Option F:=match it with
 |.Name x p=>bU 50 C (.Name x p)
 |it=>EF 50 C tt it
structure Par where
 x:Str
 px:Pos
 y:Str
 py:Pos
 a:Expr
 b:Expr
def Mr(es:List Expr)(e:Expr):Option Par:=(two es).bind λ(u,v)=>(cQ u).bind λ(x,px)=>(cQ v).bind λ(y,py)=>(Mp e).bind λ(vs,_)=>(two vs).map λ(a,b)=>⟨x,px,y,py,a,b⟩
noncomputable def Nj:List Expr->Option (Expr×Expr×Expr)
 |[a,b,c]=>qv (a,b,c)
 |_=>qw
def OE:Expr->Option (Str×Expr)
 |.Subscript o k _=>(cQ o).map λ(x,_)=>(x,k)
 |_=>qw
noncomputable def Pg:List Stmt->Option Stmt
 |[s]=>qv s
 |_=>qw
def Ph:Stmt->Option (Str×Str)
 |.Assign ts e _=>(one ts).bind λt=>(cQ t).bind λ(x,_)=>(cQ e).map λ(y,_)=>(x,y)
 |_=>qw
def PU(C:Ctx)(hs:List ExceptHandler):Option (Nat×Nat):=match hs with
 |[.ExceptHandler ty nm b _]=>ty.bind λte=>nm.bind λe=>(cQ te).bind λ(cx,_)=>(Pg b).bind λs=>(Ph s).bind λ(x,e')=>(match loc C cx,glo C cx with
  |none,qv (.exc c)=>if c=0/\e=e' then(loc C e).bind λi=>(loc C x).bind λj=>if C.sc.names.lookup e==qv .local&&i != j&&C.bs.isEmpty then qv (i,j)else qw else qw
  |_,_=>qw)
 |_=>qw
mutual
def CD:Nat->Bool->Ctx->Stmt->Option FS
 |0,_,_,_=>qw
 |n+1,t,C,s=>match s with
  |.Pass _=>qv bN
  |.Return v _=>(match v with
   |none=>qw
   |some e=>(match cQ e with
    |some (x,_)=>(match loc C x with
     |some i=>if C.bs.contains x then qv (bX (qR i))else qv (bX (aA i))
     |none=>(bU 50 C e).map bX)
    |none=>(bU 50 C e).map λf=>eA (jM C e) (bX f)))
  |.Assign ts e _=>(one ts).bind λtg=>(match tg with
   |.Name x _=>(loc C x).bind λi=>if OC e&&C.bs.contains x then qv (F6 i)else(bU 50 C e).map λf=>eA (jM C e) (if C.bs.contains x then mT i f else f9 i f)
   |.Tuple es a b=>(Mr es e).bind λq=>if lO C q.x q.y then(loc C q.x).bind λi=>(loc C q.y).bind λj=>(bU 50 C e).map λf=>eA (jM C e) (qW [i,j] f)else qw
   |.Subscript o k _=>(cQ o).bind λ(x,_)=>(loc C x).bind λi=>if C.bs.contains x then(bU 50 C e).bind λf=>(bU 50 C k).map λg=>eA (jM C e++jM C k) (ED i g f)else qw
   |_=>qw)
  |.AugAssign tg op e _=>(OE tg).bind λ(x,k)=>(loc C x).bind λi=>if C.bs.contains x&&OB op then(bU 50 C e).bind λf=>(bU 50 C k).map λg=>eA (jM C e++jM C k) (CV i g f)else qw
  |.Expr e _=>(match e with
   |.Call f as kws cp=>if kws.isEmpty then(match f with
    |.Attribute o m ap=>(cQ o).bind λ(x,_)=>(one as).bind λe=>(loc C x).bind λi=>if C.bs.contains x&&ap.endLine==cp.line then(bU 50 C e).bind λf=>
      if m="append" then qv (eA (jM C e) (EC i f))else if m="extend" then qv (eA (jM C e) (Je i f))else qw else qw
    |.Name x p=>(bU 50 C (.Call (.Name x p) as [] cp)).map λf=>eA (jM C (.Call (.Name x p) as [] cp)) (dY f)
    |_=>qw)else qw
   |_=>qw)
  |.If c a b _=>(bU 50 C c).bind λf=>(mY n t C a).bind λg=>(mY n t C b).map λh=>eA (jM C c) (sIf f g h)
  |.For tg it b els _=>if t|| !els.isEmpty then qw else((cG tg).bind λ(xs,k)=>(OD C (k != 0) it).bind λf=>(fW (λx=>loc C x) xs).bind λis=>if xs.all (λx=> !C.bs.contains x)then
    (mY n t C b).map λg=>eA (jM C it) (nN is (k==0) f g)else qw)
  |.Raise x c _=>if t||c.isSome then qw else x.bind λe=>(match e with
   |.Call f as kws _=>if kws.isEmpty then(cQ f).bind λ(x,_)=>(one as).bind λa=>if F7 a then(match loc C x,glo C x with
    |none,qv (.exc c)=>qv (eE c)
    |_,_=>qw)else qw else qw
   |_=>qw)
  |_=>qw
def mY:Nat->Bool->Ctx->List Stmt->Option FS
 |0,_,_,_=>qw
 |n+1,t,C,ss=>match ss with
  |[]=>qv bN
  |[a]=>qv ((CD n t C a).getD Mo)
  |a::r=>(mY n t C r).map λg=>aS ((CD n t C a).getD Mo) g
end
noncomputable def cH(a:Arguments):Option (List Str):=if a.posonlyargs.isEmpty&&a.vararg.isNone&&a.kwonlyargs.isEmpty&&a.kwarg.isNone&&a.defaults.isEmpty then qv (a.args.map (·.arg))else qw
noncomputable def aE(sc:Scope):List Str:=(sc.names.filter λp=>p.2== .local||p.2== .cell).map (·.1)
noncomputable def bV(N P:List Str)(sc:Scope):Bool:=
 sc.kind== .function&& !sc.isCoroutine&& !sc.isGenerator&&decide N.Nodup&&decide (N.take P.length=P)&&
  P.all (λx=>sc.names.lookup x==qv .local||sc.names.lookup x==qv .cell)&&sc.names.all (λp=>p.2 != .free)&&N.all (λx=>x != "__debug__"&&x != "__classdict__")
def Ak(tab:List (Str×Gl))(fns:List (Nat×Fn))(s:Stmt):Option (Nat×Fn):=match s with
 |.FunctionDef _ as b _ _ _ sc _ _ _=>(cH as).bind λP=>if bV (aE sc) P sc then
   (mY 100 q4 ⟨tab,fns,sc,aE sc,C1 50 b⟩ b).map λg=>(P.length,fnOf (aE sc).length g)else qw
 |_=>qw
def Ms(g:Gl):D->Option Bool:=(isP g).getD λ_=>qw
def Kg:D->Option Bool:=Ms (.py .int)
def Gf:D->Option Bool:=Ms (.py .bool)
def gO:D->Option Bool:=Ms (.py .tuple)
def EG:D->Option Bool:=Ms (.py .str)
noncomputable def EH(m:Fn->Fn):Nat->Fn
 |0=>λ_=>.bad
 |n+1=>m (EH m n)
mutual
noncomputable def bO:D->PyData
 |.non=>.none
 |.bl b=>.bool b
 |.int i=>.int i
 |.str x=>.str x
 |.tup xs=>.tuple (bA xs)
 |.lst xs=>.list (bA xs)
 |.exc _=>.none
 |.fn _=>.none
noncomputable def bA:List D->List PyData
 |[]=>[]
 |x::xs=>bO x::bA xs
end
mutual
theorem fX: ∀{d:D},plain d=qz->(bO d).canLay0=qz
 |.non,_=>by simp[bO,nj]
 |.bl _,_=>by simp[bO,nj]
 |.int _,_=>by simp[bO,nj]
 |.str x,h=>by
  unfold plain at h;simp only[bO,nj];exact h
 |.tup xs,h=>by
  simp only[bO,nj];exact uC (by simpa[plain]using h)
 |.lst xs,h=>by
  simp only[bO,nj];exact uC (by simpa[plain]using h)
 |.exc _,h=>by simp[plain]at h
 |.fn _,h=>by simp[plain]at h
theorem uC: ∀{ds:List D},bC ds=qz->jx (bA ds)=qz
 |[],_=>by simp[bA,jx]
 |d::ds,h=>by
  have a:plain d=qz/\bC ds=qz:=by simpa[bC]using h
  simp only[bA,jx,fX a.1,uC a.2,Bool.and_self]
end
mutual
theorem fY: ∀(d:D),(bO d).depth=dep d
 |.non=>by simp[bO,oz,dep]
 |.bl _=>by simp[bO,oz,dep]
 |.int _=>by simp[bO,oz,dep]
 |.str x=>by simp[bO,oz,dep]
 |.tup a=>by simp[bO,oz,dep,uD a]
 |.lst a=>by simp[bO,oz,dep,uD a]
 |.exc _=>by simp[bO,oz,dep]
 |.fn _=>by simp[bO,oz,dep]
theorem uD: ∀(ds:List D),mq (bA ds)=nL ds
 |[]=>by simp[bA,mq,nL]
 |d::ds=>by simp[bA,mq,nL,fY d,uD ds]
end
def EI(b:Bool):b2i b=if b then 1 else 0:=rfl
mutual
theorem gE: ∀(x y:D),plain x=qz->plain y=qz->qf (bO x) (bO y)=deq x y
 |.non,y,_,h=>by cases y<;>simp[plain]at h<;>simp[bO,qf,deq]
 |.bl a,y,_,h=>by cases y<;>simp[plain]at h<;>simp[bO,qf,deq,EI]
 |.int a,y,_,h=>by cases y<;>simp[plain]at h<;>simp[bO,qf,deq,EI]
 |.str a,y,_,h=>by cases y<;>simp[plain]at h<;>simp[bO,qf,deq]
 |.tup xs,y,g,h=>by
  cases y with
  |tup b=>simpa[bO,qf,deq]using oT xs b (by simpa[plain]using g) (by simpa[plain]using h)
  |_=>simp[plain]at h<;>simp[bO,qf,deq]
 |.lst xs,y,g,h=>by
  cases y with
  |lst b=>simpa[bO,qf,deq]using oT xs b (by simpa[plain]using g) (by simpa[plain]using h)
  |_=>simp[plain]at h<;>simp[bO,qf,deq]
 |.exc _,_,g,_=>by simp[plain]at g
 |.fn _,_,g,_=>by simp[plain]at g
theorem oT: ∀(xs ys:List D),bC xs=qz->bC ys=qz->nz (bA xs) (bA ys)=p7 xs ys
 |[],[],_,_=>by simp[bA,nz,p7]
 |[],_::_,_,_=>by simp[bA,nz,p7]
 |_::_,[],_,_=>by simp[bA,nz,p7]
 |x::xs,y::ys,g,h=>by
  have b:plain x=qz/\bC xs=qz:=by simpa[bC]using g
  have a:plain y=qz/\bC ys=qz:=by simpa[bC]using h
  simp only[bA,nz,p7,gE x y b.1 a.1,oT xs ys b.2 a.2]
end
abbrev St:=L2.St
structure Ad where
 cls:Nat->Addr
 fnA:Nat->Addr
 nb:Nat
def rB(h:Heap)(x C:Addr):Prop:= ∃o vs,h.get? x=qv o/\o.cls= .ref C/\o.data= .fields vs
noncomputable def OF(C a:Addr):HO:=.ext λh=>rB h a C
section
variable (K:og) (ad:Ad)
mutual
noncomputable def Rep(G:Hp):D->V->Prop
 |.non,v=>v= .non
 |.bl b,v=>v= .bl b
 |.int i,v=>v= .int i
 |.str x,v=>v= .str x
 |.tup ds,v=>∃a vs,v= .ref a/\SqT K G a vs/\aJ G ds vs
 |.lst ds,v=>∃a vs,v= .ref a/\SqL K G a vs/\aJ G ds vs
 |.exc c,v=>∃a,v= .ref a/\G a=qv (OF (ad.cls c) a)
 |.fn k,v=>v= .ref (ad.fnA k)
noncomputable def aJ(G:Hp):List D->List V->Prop
 |[],vs=>vs=[]
 |d::ds,vs=>∃v r,vs=v::r/\Rep G d v/\aJ G ds r
end
end
section
variable{K:og}{ad:Ad}{G G' H H':Hp}
def _root_.L2.Same.seqT{K:og}{H H':Hp}(e:Same H H')(h:SqT K H a xs):SqT K H' a xs:=by
 rcases h with (h|⟨o,h⟩)|h
 ·exact .inl (.inl (e _ _ h))
 ·exact .inl (.inr ⟨o,e _ _ h⟩)
 ·exact .inr h
mutual
theorem Rep.mono(e:Same G G'): ∀{d:D} {v:V},Rep K ad G d v->Rep K ad G' d v
 |.non,_,h=>h
 |.bl _,_,h=>h
 |.int _,_,h=>h
 |.str _,_,h=>h
 |.tup ds,v,h=>by
  unfold Rep at h ⊢;obtain⟨a,f,c,b,g⟩:=h;exact⟨a,f,c,e.seqT b,aJ.mono e g⟩
 |.lst ds,v,h=>by
  unfold Rep at h ⊢;obtain⟨a,f,c,b,g⟩:=h;exact⟨a,f,c,e.seq b,aJ.mono e g⟩
 |.exc _,_,h=>by
  unfold Rep at h ⊢;obtain⟨a,c,b⟩:=h;exact⟨a,c,e _ _ b⟩
 |.fn _,_,h=>h
theorem aJ.mono(e:Same G G'): ∀{ds:List D} {vs:List V},aJ K ad G ds vs->aJ K ad G' ds vs
 |[],_,h=>h
 |d::ds,vs,h=>by
  unfold aJ at h ⊢;obtain⟨v,r,c,a,b⟩:=h;exact⟨v,r,c,Rep.mono e a,aJ.mono e b⟩
end
theorem aJ.length: ∀{ds:List D} {vs:List V},aJ K ad G ds vs->vs.length=ds.length
 |[],_,h=>by
  unfold aJ at h;subst h;rfl
 |d::ds,vs,h=>by
  unfold aJ at h;obtain⟨v,r,rfl,_,a⟩:=h;simp[aJ.length a]
def aJ.nil:aJ K ad G [] []:=by unfold aJ;rfl
def aJ.cons{d:D}{v:V}{ds:List D}{vs:List V}(h:Rep K ad G d v)(t:aJ K ad G ds vs):aJ K ad G (d::ds) (v::vs):=by
 unfold aJ;exact⟨v,vs,rfl,h,t⟩
theorem aJ.get: ∀{ds:List D} {vs:List V} {i:Nat} {d:D},aJ K ad G ds vs->ds[i]? =qv d->∃v,vs[i]? =qv v/\Rep K ad G d v
 |[],_,_,_,_,e=>by simp at e
 |d::ds,vs,i,d',h,e=>by
  unfold aJ at h;obtain⟨v,r,rfl,c,f⟩:=h
  cases i with
  |zero=>
   simp at e
   subst e;exact⟨v,rfl,c⟩
  |succ i=>
   obtain⟨w,a,b⟩:=aJ.get (i:=i) (d:=d') f (by simpa using e)
   exact⟨w,by simpa using a,b⟩
theorem aJ.append: ∀{ds es:List D} {vs ws:List V},aJ K ad G ds vs->aJ K ad G es ws->aJ K ad G (ds++es) (vs++ws)
 |[],_,_,_,h,t=>by
  unfold aJ at h;subst h;exact t
 |d::ds,es,vs,ws,h,t=>by
  unfold aJ at h;obtain⟨v,r,rfl,a,b⟩:=h;exact aJ.cons a (aJ.append b t)
theorem aJ.drop: ∀(n:Nat) {ds:List D} {vs:List V},aJ K ad G ds vs->aJ K ad G (ds.drop n) (vs.drop n)
 |0,_,_,h=>h
 |n+1,[],_,h=>by
  unfold aJ at h;subst h;exact aJ.nil
 |n+1,d::ds,vs,h=>by
  unfold aJ at h;obtain⟨v,r,rfl,b,a⟩:=h;exact aJ.drop n a
theorem aJ.take: ∀(n:Nat) {ds:List D} {vs:List V},aJ K ad G ds vs->aJ K ad G (ds.take n) (vs.take n)
 |0,_,_,_=>aJ.nil
 |n+1,[],_,h=>by
  unfold aJ at h;subst h;exact aJ.nil
 |n+1,d::ds,vs,h=>by
  unfold aJ at h;obtain⟨v,r,rfl,a,b⟩:=h;exact aJ.cons a (aJ.take n b)
theorem aJ.set{d:D}{v:V}(q:Rep K ad G d v): ∀(n:Nat) {ds:List D} {vs:List V},aJ K ad G ds vs->aJ K ad G (ds.set n d) (vs.set n v)
 |_,[],_,h=>by
  unfold aJ at h;subst h;exact aJ.nil
 |0,_::ds,vs,h=>by
  unfold aJ at h;obtain⟨w,r,rfl,b,a⟩:=h;exact aJ.cons q a
 |n+1,e::ds,vs,h=>by
  unfold aJ at h;obtain⟨w,r,rfl,b,a⟩:=h;exact aJ.cons b (aJ.set q n a)
theorem aJ.rep{ds:List D}{vs:List V}(h:aJ K ad G ds vs): ∀k:Nat,aJ K ad G (ak k ds).flatten (ak k vs).flatten
 |0=>aJ.nil
 |k+1=>by
  simp only[i3,jv];exact aJ.append h (aJ.rep h k)
theorem aJ.map_int: ∀{ns:List Int},aJ K ad G (ns.map D.int) (ns.map V.int)
 |[]=>aJ.nil
 |_::_=>aJ.cons (by unfold Rep;rfl) aJ.map_int
structure Step(G H G' H':Hp):Prop where
 sg:Same G G'
 gh:Same G' H'
 sh:Same H H'
 nw: ∀b,G b=qw->G' b≠qw->H b=qw
def rC(e:Same H H')(h:H' b=qw):H b=qw:=e.free h
theorem Step.refl(h:Same G H):Step G H G H:=⟨Same.refl _,h,Same.refl _,λb c a=>absurd c a⟩
theorem Step.trans(a:Step G H G1 H1)(b:Step G1 H1 G2 H2):Step G H G2 H2:=
 ⟨a.sg.trans b.sg,b.gh,a.sh.trans b.sh,λx d c=>by
  cases q:G1 x with
  |none=>exact a.sh.free (b.nw x q c)
  |some o=>exact a.nw x d (by rw[q];exact λz=>nomatch z)⟩
def Same.upd_new(h:H p=qw):Same H (upd H p o):=λb u e=>by rw[aD (aY e h)];exact e
def Step.new(h:Same G H)(n:H p=qw):Step G H (upd G p o) (upd H p o):=by
 have c:G p=qw:=h.free n
 refine⟨Same.upd_new c,λb u e=>?_,Same.upd_new n,λb d a=>?_⟩
 ·by_cases q:b=p
  ·subst q;rw[aG]at e ⊢;exact e
  ·rw[aD q]at e ⊢;exact h b u e
 ·by_cases q:b=p
  ·subst q;exact n
  ·rw[aD q]at a;exact absurd d a
def Step.own(h:Same G H)(n:H p=qw):Step G H G (upd H p o):=
 ⟨Same.refl _,h.trans (Same.upd_new n),Same.upd_new n,λb c a=>absurd c a⟩
def Step.shareO(s:Step G H G' H')(n:H p=qw)(m:G' p=qw)(e:H' p=qv o):Step G H (upd G' p o) H':=by
 refine⟨s.sg.trans (Same.upd_new m),λb u q=>?_,s.sh,λb c a=>?_⟩
 ·by_cases z:b=p
  ·subst z;rw[aG]at q;rw[e];exact q
  ·rw[aD z]at q;exact s.gh b u q
 ·by_cases z:b=p
  ·subst z;exact n
  ·rw[aD z]at a;exact s.nw b c a
def Step.share(s:Step G H G' H')(n:H p=qw)(m:G' p=qw)(e:H' p=qv (.lst vs)):Step G H (upd G' p (.lst vs)) H':=s.shareO n m e
mutual
noncomputable def hD:D->Int
 |.non=>0xFCA86420
 |.int i=>hashInt i
 |.tup xs=>reduceHash (eu (hDs xs))
 |_=>0
noncomputable def hDs:List D->List Int
 |[]=>[]
 |x::xs=>hD x::hDs xs
end
def Nk(h:Heap)(a:Addr)(es:Nat×List (Int×Addr×V)):Prop:=(a==sysModules)=q4/\es.2.length<=200000/\∃o ar xs,h.get? a=qv o/\o.ExactDict/\o.data= .dict ar es.1/\ar.toList=xs.map (λx:Int×Addr×Value=>(⟨x.1,.ref x.2.1,x.2.2⟩:DictEntry))/\
 Paired (λ(p:Int×Addr×V) (q:Int×Addr×Value)=>p.1=q.1/\p.2.1=q.2.1/\bG p.2.2 q.2.2) es.2 xs
noncomputable def dcO(a:Addr)(es:Nat×List (Int×Addr×V)):HO:=.ext λh=>Nk h a es
def DL(K:og)(ad:Ad)(G:Hp):List (D×D)->List (Int×Addr×V)->Prop:=Paired λp q=>q.1=hD p.1/\Rep K ad G p.1 (.ref q.2.1)/\Rep K ad G p.2 q.2.2
def DR(K:og)(ad:Ad)(G:Hp)(kvs:List (D×D))(es:Nat×List (Int×Addr×V)):Prop:=DL K ad G kvs es.2
def KOk(kvs:List (D×D)):Prop:=(∀p∈kvs,dD p.1=qz)/\kvs.Pairwise λp q=>deq p.1 q.1=q4
theorem DR.mono{K:og}{ad:Ad}{G G':Hp}(h:DR K ad G kvs es)(e:Same G G'):DR K ad G' kvs es:=Paired.mapP h λ_ _ z=>⟨z.1,z.2.1.mono e,z.2.2.mono e⟩
def HR(K:og)(ad:Ad)(G:Hp):List (Str×D)->List (Key×V)->Prop:=Paired λp q=>q.1=qt p.1/\Rep K ad G p.2 q.2
theorem HR.mono{K:og}{ad:Ad}{G G':Hp}(h:HR K ad G ps qs)(e:Same G G'):HR K ad G' ps qs:=Paired.mapP h λ_ _ z=>⟨z.1,z.2.mono e⟩
structure RackIn(K:og)(ad:Ad)(C:Addr)(G H:Hp)(p:Addr)(r:Rk)(dx d l1 l2:Addr):Prop where
 ins:H p=qv (.ins C dx [("held",.ref d),("done",.ref l1),("undone",.ref l2)])
 own:H dx=qv (.own p)
 held: ∃kvs,H d=qv (.dK kvs)/\HR K ad G r.held kvs
 done: ∃vs,H l1=qv (.lst vs)/\aJ K ad G r.done vs
 undone: ∃vs,H l2=qv (.lst vs)/\aJ K ad G r.undone vs
 ne:l1≠l2
 gp:G p=qw
 gx:G dx=qw
 gd:G d=qw
 g1:G l1=qw
 g2:G l2=qw
def Step.gnone{G H G' H':Hp}(st:Step G H G' H')(g:G b=qw)(h:H b=qv o):G' b=qw:=by
 cases q:G' b with
 |none=>rfl
 |some a=>
  have:=st.nw b g (by rw[q];exact λz=>nomatch z)
  rw[h]at this;cases this
def RackIn.step{K:og}{ad:Ad}{G H G' H':Hp}(h:RackIn K ad C G H p r dx d l1 l2)(st:Step G H G' H'):RackIn K ad C G' H' p r dx d l1 l2:=by
 obtain⟨a,c,g⟩:=h.held;obtain⟨l,b,i⟩:=h.done;obtain⟨j,e,f⟩:=h.undone;exact⟨st.sh _ _ h.ins,st.sh _ _ h.own,⟨a,st.sh _ _ c,g.mono st.sg⟩,⟨l,st.sh _ _ b,i.mono st.sg⟩,⟨j,st.sh _ _ e,f.mono st.sg⟩,h.ne,st.gnone h.gp h.ins,st.gnone h.gx h.own,st.gnone h.gd c,st.gnone h.g1 b,st.gnone h.g2 e⟩
def RackIn.up{K:og}{ad:Ad}{G H H':Hp}(h:RackIn K ad C G H p r dx d l1 l2)(s:Same H H'):RackIn K ad C G H' p r dx d l1 l2:=by
 obtain⟨a,e,f⟩:=h.held;obtain⟨l,c,g⟩:=h.done;obtain⟨i,j,b⟩:=h.undone;exact⟨s _ _ h.ins,s _ _ h.own,⟨a,s _ _ e,f⟩,⟨l,s _ _ c,g⟩,⟨i,s _ _ j,b⟩,h.ne,h.gp,h.gx,h.gd,h.g1,h.g2⟩
def SLi(K:og)(ad:Ad)(G H:Hp):Slot->Option V->Prop
 |.no,_=>True
 |.sh d,ov=>∃v,ov=qv v/\Rep K ad G d v
 |.ow xs,ov=>∃a vs,ov=qv (.ref a)/\G a=qw/\H a=qv (.lst vs)/\aJ K ad G xs vs
 |.dc kvs,ov=>∃a es,ov=qv (.ref a)/\G a=qw/\H a=qv (dcO a es)/\DR K ad G kvs es/\KOk kvs
 |.sd kvs,ov=>∃a es,ov=qv (.ref a)/\G a=qv (dcO a es)/\H a=qv (dcO a es)/\DR K ad G kvs es/\KOk kvs
 |.rk C r,ov=>∃p dx d l1 l2,ov=qv (.ref p)/\RackIn K ad C G H p r dx d l1 l2
structure SL(K:og)(ad:Ad)(G H:Hp)(ρ:Rho)(σ:St):Prop where
 len:ρ.length=σ.length
 at_: ∀(i:Nat) (s:Slot),ρ[i]? =qv s->∃ov,σ[i]? =qv ov/\SLi K ad G H s ov
theorem SLi.step(st:Step G H G' H'): ∀{s:Slot} {ov:Option V},SLi K ad G H s ov->SLi K ad G' H' s ov
 |.no,_,_=>trivial
 |.sh d,_,⟨v,h1,h2⟩=>⟨v,h1,h2.mono st.sg⟩
 |.ow xs,_,⟨a,vs,h1,h2,h3,h4⟩=>by
  refine⟨a,vs,h1,?_,st.sh _ _ h3,h4.mono st.sg⟩
  cases q:G' a with
  |none=>rfl
  |some o=>
   have:=st.nw a h2 (by rw[q];exact λz=>nomatch z)
   rw[h3]at this;cases this
 |.dc kvs,_,⟨a,es,h1,h2,h3,h4,h5⟩=>by
  refine⟨a,es,h1,?_,st.sh _ _ h3,h4.mono st.sg,h5⟩
  cases q:G' a with
  |none=>rfl
  |some o=>
   have:=st.nw a h2 (by rw[q];exact λz=>nomatch z)
   rw[h3]at this;cases this
 |.sd kvs,_,⟨a,es,h1,h2,h3,h4,h5⟩=>⟨a,es,h1,st.sg _ _ h2,st.sh _ _ h3,h4.mono st.sg,h5⟩
 |.rk C r,_,⟨p,dx,d,l1,l2,h1,h2⟩=>⟨p,dx,d,l1,l2,h1,h2.step st⟩
theorem SL.step(h:SL K ad G H ρ σ)(st:Step G H G' H'):SL K ad G' H' ρ σ:=
 ⟨h.len,λi s e=>let ⟨ov,h1,h2⟩:=h.at_ i s e;⟨ov,h1,h2.step st⟩⟩
theorem SL.sh{i:Nat}(h:SL K ad G H ρ σ)(e:ρ[i]? =qv (.sh d)): ∃v,σ[i]? =qv (qv v)/\Rep K ad G d v:=by
 obtain⟨c,b,v,rfl,a⟩:=h.at_ i _ e;exact⟨v,b,a⟩
theorem SL.ow{i:Nat}(h:SL K ad G H ρ σ)(e:ρ[i]? =qv (.ow xs)): ∃a vs,σ[i]? =qv (qv (.ref a))/\G a=qw/\H a=qv (.lst vs)/\aJ K ad G xs vs:=by
 obtain⟨d,c,a,vs,rfl,b⟩:=h.at_ i _ e;exact⟨a,vs,c,b⟩
theorem SL.dc{i:Nat}(h:SL K ad G H ρ σ)(e:ρ[i]? =qv (.dc kvs)): ∃a es,σ[i]? =qv (qv (.ref a))/\G a=qw/\H a=qv (dcO a es)/\DR K ad G kvs es/\KOk kvs:=by
 obtain⟨d,c,a,es,rfl,b⟩:=h.at_ i _ e;exact⟨a,es,c,b⟩
theorem SL.sd{i:Nat}(h:SL K ad G H ρ σ)(e:ρ[i]? =qv (.sd kvs)): ∃a es,σ[i]? =qv (qv (.ref a))/\G a=qv (dcO a es)/\H a=qv (dcO a es)/\DR K ad G kvs es/\KOk kvs:=by
 obtain⟨d,c,a,es,rfl,b⟩:=h.at_ i _ e;exact⟨a,es,c,b⟩
theorem SL.rk{i C:Nat}(h:SL K ad G H ρ σ)(e:ρ[i]? =qv (.rk C r)): ∃p dx d l1 l2,σ[i]? =qv (qv (.ref p))/\RackIn K ad C G H p r dx d l1 l2:=by
 obtain⟨c,b,p,dx,d,l1,l2,rfl,a⟩:=h.at_ i _ e;exact⟨p,dx,d,l1,l2,b,a⟩
def RK(K:og)(ad:Ad)(G H:Hp)(r:R)(Q:VK)(E:Nat->Hp->Prop):Prop:=match r with
 |.ok d=>∀v G' H',Step G H G' H'->Rep K ad G' d v->Q v H'
 |.ow xs=>∀p vs G' H',Step G H G' H'->H p=qw->G' p=qw->H' p=qv (.lst vs)->aJ K ad G' xs vs->Q (.ref p) H'
 |.ex c=>∀G' H',Step G H G' H'->E c H'
 |.bad=>False
def RK.step(h:RK K ad G H r Q E)(st:Step G H G' H'):RK K ad G' H' r Q E:=by
 cases r with
 |ok d=>exact λv b H2 a q=>h v b H2 (st.trans a) q
 |ow g=>exact λp f b H2 a n m e q=>h p f b H2 (st.trans a) (st.sh.free n) m e q
 |ex c=>exact λb H2 a=>h b H2 (st.trans a)
 |bad=>exact h
def RK.ok_now(h:RK K ad G H (.ok d) Q E)(e:Same G H)(q:Rep K ad G d v):Q v H:=h v G H (Step.refl e) q
def RK.ow_new(h:RK K ad G H (.ow xs) Q E)(e:Same G H)(q:aJ K ad G xs vs)(n:H p=qw):Q (.ref p) (upd H p (.lst vs)):=
 h p vs G (upd H p (.lst vs)) (Step.own e n) n (e.free n) aG q
def RK.tup_new(h:RK K ad G H (.ok (.tup xs)) Q E)(e:Same G H)(q:aJ K ad G xs vs)(n:H p=qw):Q (.ref p) (upd H p (.tup vs)):=by
 refine h (.ref p) (upd G p (.tup vs)) (upd H p (.tup vs)) (Step.new e n) ?_;unfold Rep;exact⟨p,vs,rfl,SqT.of aG,q.mono (Same.upd_new (e.free n))⟩
end
def CXe(P:Program)(w:World):CXT:=λouter H s E e s'=>
 ∃(ea:Addr) (cls a0:Value) (H':Hp) (B:Heap),e= .ref ea/\s'.os=s.os/\AllBare s'.gens/\Heap.FlyingW B outer ea cls a0 s'.heap/\Un (frs outer) [] H H' s.heap s'.heap/\
  HOk P w H' s'.heap/\H' ea=qw/\(∀b o,s.heap.get? b=qv o->b∉frs outer->∃o',B.get? b=qv o')/\(∀b o,H' b=qv o->∃o',B.get? b=qv o')/\E cls qw H'
def xk(ad:Ad)(E:Nat->Hp->Prop):XK:=λcls _ H'=>∃c,cls= .ref (ad.cls c)/\E c H'
def XP(X:Cx)(ad:Ad)(σ:St)(E:Nat->Hp->Prop):Prop:=
 ∀(cf:ci) (H:Hp) (s:Shared) (e:Value) (s':Shared),Inv X cf σ H s->CXe X.prog X.w X.stack H s (xk ad E) e s'->X.xe e s'
def tE(X:Cx)(ad:Ad)(f:F):TE:=λσ H Q=>∃G ρ E,Same G H/\SL X.K ad G H ρ σ/\XP X ad σ E/\RK X.K ad G H (f ρ) Q E
abbrev ME(X:Cx)(ad:Ad)(e:Expr)(f:F):Prop:=PE X e (tE X ad f)
def j9(r:R):Prop:=(∃b,r= .ok (.bl b))\/∃c,r= .ex c
def tT(X:Cx)(ad:Ad)(f:F):TT:=λσ H Q=>∃G ρ E,Same G H/\SL X.K ad G H ρ σ/\XP X ad σ E/\j9 (f ρ)/\RK X.K ad G H (f ρ) (λv H'=>∃b,v= .bl b/\Q b H') E
def tE.el{ad:Ad}{σ:St}{P:Prop}(h:tE X ad f σ H Q)(k: ∀G ρ E,Same G H->SL X.K ad G H ρ σ->XP X ad σ E->RK X.K ad G H (f ρ) Q E->P):P:=by
 obtain⟨G,ρ,E,a,c,d,b⟩:=h;exact k G ρ E a c d b
def tT.el{ad:Ad}{σ:St}{P:Prop}(h:tT X ad f σ H Q)(k: ∀G ρ E,Same G H->SL X.K ad G H ρ σ->XP X ad σ E->j9 (f ρ)->RK X.K ad G H (f ρ) (λv H'=>∃b,v= .bl b/\Q b H') E->P):P:=by
 obtain⟨G,ρ,E,g,c,d,a,e⟩:=h;exact k G ρ E g c d a e
abbrev MT(X:Cx)(ad:Ad)(e:Expr)(f:F):Prop:=PT X e (tT X ad f)
abbrev MW(X:Cx)(ad:Ad)(e:Expr)(f:F):Prop:=PW X e (tT X ad f)
def AK(K:og)(ad:Ad)(G H:Hp)(r:RA)(Q:List V->Hp->Prop)(E:Nat->Hp->Prop):Prop:=match r with
 |.ok ds=>∀vs G' H',Step G H G' H'->aJ K ad G' ds vs->Q vs H'
 |.ex c=>∀G' H',Step G H G' H'->E c H'
 |.bad=>False
def tA(X:Cx)(ad:Ad)(fs:List F):TA:=λσ H Q=>∃G ρ E,Same G H/\SL X.K ad G H ρ σ/\XP X ad σ E/\AK X.K ad G H (args fs ρ) Q E
abbrev MA(X:Cx)(ad:Ad)(es:List Expr)(fs:List F):Prop:=PA X es (tA X ad fs)
section
variable{X:Cx}{ad:Ad}{cf:ci}{s:Shared}{σ:St}{H G:Hp}{ρ:Rho}{Q:VK}{E:Nat->Hp->Prop}{pos:Pos}{a:Expr}{f:F}
def cS(st:Step G H G1 H1)(n:H p=qw)(m:G1 p=qw)(e:H1 p=qv (.lst vs))(q:aJ X.K ad G1 xs vs):
  ∃G2,Step G H G2 H1/\Rep X.K ad G2 (.lst xs) (.ref p):=by
 refine⟨upd G1 p (.lst vs),st.share n m e,?_⟩;unfold Rep;exact⟨p,vs,rfl,SqL.of aG,q.mono (Same.upd_new m)⟩
theorem ME.thn(ha:ME X ad a f)(I:Inv X cf σ H s)(hG:Same G H)(hS:SL X.K ad G H ρ σ)(hx:XP X ad σ E)(hr:RK X.K ad G H ((f ρ).bind k) Q E):
  wpAny (model X.prog X.w) X.A (eval a X.env) (λu s1=>∃v d G1 H1,Inv X cf σ H1 s1/\bG v u/\Step G H G1 H1/\Rep X.K ad G1 d v/\RK X.K ad G1 H1 (k d) Q E) X.xe s:=by
 cases e:f ρ with
 |ok d=>
  rw[e]at hr;refine L2.thn (ha cf s σ H (λv H1=>∃G1,Step G H G1 H1/\Rep X.K ad G1 d v) I ⟨G,ρ,E,hG,hS,hx,by rw[e];exact λv G1 H1 st q=>⟨G1,st,q⟩⟩) λu s1 b=>?_
  obtain⟨v,H1,h,g,G1,st,q⟩:=b;exact⟨v,d,G1,H1,h,g,st,q,RK.step hr st⟩
 |ow i=>
  rw[e]at hr;refine L2.thn (ha cf s σ H (λv H1=>∃G1,Step G H G1 H1/\Rep X.K ad G1 (.lst i) v) I ⟨G,ρ,E,hG,hS,hx,by rw[e];exact λp l G1 H1 st n m j q=>cS st n m j q⟩) λu s1 b=>?_
  obtain⟨v,H1,h,g,G1,st,q⟩:=b;exact⟨v,.lst i,G1,H1,h,g,st,q,RK.step hr st⟩
 |ex c=>
  rw[e]at hr;refine L2.thn (ha cf s σ H (λv H1=>False) I ⟨G,ρ,E,hG,hS,hx,by rw[e];exact hr⟩) λu s1 b=>by obtain⟨v,H1,h,g,q⟩:=b;exact q.elim
 |bad=>
  rw[e]at hr;exact az hr
def bF:Rep X.K ad G (.int i) (.int i):=by unfold Rep;rfl
def bS:Rep X.K ad G (.bl i) (.bl i):=by unfold Rep;rfl
def Gg:Rep X.K ad G .non .non:=by unfold Rep;rfl
def eN:Rep X.K ad G (.str i) (.str i):=by unfold Rep;rfl
def EJ(hN:X.N[i]? =qv x)(hv:Vis X.env.scope x)(hd:(x==("__debug__":Str))=q4)(hcd:(x==("__classdict__":Str))=q4):ME X ad (.Name x pos) (aA i):=by
 refine λj s g H Q I h=>h.el λG o E l c q a=>?_
 unfold aA at a
 cases e:o[i]? with
 |none=>
  rw[e]at a;exact a.elim
 |some n=>
  rw[e]at a
  cases n with
  |no=>exact a.elim
  |dc b=>exact a.elim
  |sd b=>exact a.elim
  |rk _ _=>exact a.elim
  |ow p=>exact a.elim
  |sh d=>
   obtain⟨v,f,m⟩:=c.sh e;exact b9 hN hv hd hcd j s g H Q I ⟨v,f,a.ok_now l m⟩
def MLk(X:Cx)(ad:Ad)(e:Expr)(f:F):Prop:=
 ∀(cf:ci) (s:Shared) (σ:St) (H G:Hp) (ρ:Rho) (k:D->R) (Q:VK) (E:Nat->Hp->Prop),Inv X cf σ H s->Same G H->SL X.K ad G H ρ σ->XP X ad σ E->RK X.K ad G H ((f ρ).bind k) Q E->
  wpAny (model X.prog X.w) X.A (eval e X.env) (λu s1=>∃v d G1 H1,Inv X cf σ H1 s1/\bG v u/\Step G H G1 H1/\(Rep X.K ad G1 d v\/∃a vs ds,d= .lst ds/\v= .ref a/\G1 a=qw/\H1 a=qv (.lst vs)/\aJ X.K ad G1 ds vs)/\RK X.K ad G1 H1 (k d) Q E) X.xe s
def ME.look(ha:ME X ad a f):MLk X ad a f:=by
 intro p s o H G r k Q E I l e m g;exact L2.thn (ha.thn I l e m g) λu n b=>by obtain⟨v,d,j,h,i,c,st,q,z⟩:=b;exact⟨v,d,j,h,i,c,st,.inl q,z⟩
def C2(e:kD k=qv d):ME X ad (.Constant k j pos) (rK d):=by
 refine λa s f H Q I g=>g.el λG l E b h m c=>?_
 cases k with
 |int i=>cases e;exact Jy a s f H Q I (c.ok_now b bF)
 |bool i=>cases e;exact MJ a s f H Q I (c.ok_now b bS)
 |none=>cases e;exact Jz a s f H Q I (c.ok_now b Gg)
 |str i=>cases e;exact Es a s f H Q I (c.ok_now b eN)
 |float _=>cases e
 |complex _ _=>cases e
 |bytes _=>cases e
 |ellipsis=>cases e
def Al{x:Str}{d:D}{u:Value}{v:V}(hg:L2.Gl X x)(hm:X.mg x=qv u)(r:bG v u)(q: ∀G,Rep X.K ad G d v)(hd:(x==("__debug__":Str))=q4):ME X ad (.Name x pos) (rK d):=by
 refine λb s f H Q I a=>a.el λG h E c g i e=>?_
 exact FK hg hm r hd b s f H Q I (e.ok_now c (q G))
def DOp(X:Cx)(ad:Ad)(t:Value->Value->Sem Value)(r:D->D->R):Prop:=
 ∀(cf:ci) (s:Shared) (σ:St) (H G:Hp) (x y:D) (v w:V) (u z:Value) (Q:VK) (E:Nat->Hp->Prop),Inv X cf σ H s->Same G H->Rep X.K ad G x v->Rep X.K ad G y w->bG v u->bG w z->
  RK X.K ad G H (r x y) Q E->wpAny (model X.prog X.w) X.A (t u z) (EP X cf σ Q) X.xe s
def Am(ho:DOp X ad t r)(ha:ME X ad a f)(hb:ME X ad b g)(I:Inv X cf σ H s)(hG:Same G H)(hS:SL X.K ad G H ρ σ)(hx:XP X ad σ E)(hr:RK X.K ad G H ((f ρ).bind λx=>(g ρ).bind λy=>r x y) Q E):
  wpAny (model X.prog X.w) X.A (eval a X.env) (λv s₁=>wpAny (model X.prog X.w) X.A (eval b X.env) (λu s₂=>wpAny (model X.prog X.w) X.A (t v u) (EP X cf σ Q) X.xe s₂) X.xe s₁) X.xe s:=by
 refine L2.thn (ha.thn I hG hS hx hr) λu C c=>?_
 obtain⟨v,d,L,J,B,m,i,q1,j⟩:=c;refine L2.thn (hb.thn B i.gh (hS.step i) hx j) λz p c=>?_
 obtain⟨w,e,q,H2,n,o,h,q2,l⟩:=c;exact ho cf p σ H2 q d e v w u z Q E n h.gh (q1.mono h.sg) q2 m o l
end
section
variable{ad:Ad}{σ:St}
def An(h:n<=LIM):n<=sizeLine:=ol h (by decide)
def uE(h:sml i=qz): -(2^64)<i/\i<2^64:=by
 unfold sml at h;rw[av]at h;exact⟨of_decide_eq_true h.1,of_decide_eq_true h.2⟩
def oU(h:sml i=qz):i.natAbs<2^64:=by
 obtain⟨a,b⟩:=uE h
 lia
def Gh{Ex:cg}{ws:List Value}{Q:cg}(ht:IsTup s.heap t #[])(hb:IsTup s.heap b ws.toArray)(h:Q (.ref b) s):
  wpAny (model prog w) A (binaryOp .Add (.ref t) (.ref b)) Q Ex s:=by
 obtain⟨⟨r,dd,j,q⟩,m,i,n,o⟩:=id ht;obtain⟨⟨l,f,e,g⟩,d,a,p,c⟩:=id hb
 simp only at i o a c
 subst i o a c
 exact concat_meets ⟨_,m,rfl⟩ ⟨_,d,rfl⟩ noFill_tuple_add seq_tuple_add gr fz (fg _ _)
   (tuple_addW0 t b #[] ws.toArray n p dd f q g rfl) ⟨m,d,h⟩
def yH(its:List Value)(m:Nat):qe (λx1 x2=>x1++x2) #[] (ak m its.toArray)=(ak m its).flatten.toArray:=by
 have:=qN its m []
 rw[q8]at this;exact this
def Gi(I:Inv X cf σ H s)(hl:SqL X.K H l xs)(hb:SqL X.K H b ys)(hz:xs.length+ys.length<=sizeLine)(q: ∀p,H p=qw->Q (.ref p) (upd H p (.lst (xs++ys)))):
  wpAny (model X.prog X.w) X.A (binaryOp .Add (.ref l) (.ref b)) (EP X cf σ Q) X.xe s:=by
 obtain⟨c,r,⟨⟨E,dd,y,C⟩,n,z,t,i,x⟩,_⟩:=I.list hl;obtain⟨a,v,⟨⟨u,m,j,o⟩,B,h,d,f,g⟩,_⟩:=I.list hb
 simp only at t x d g i f
 subst t x d g
 have e:c.toArray++a.toArray=(c++a).toArray:=by simp
 refine concat_meets ⟨_,z,rfl⟩ ⟨_,h,rfl⟩ noFill_list_add seq_list_add PySem.F.slot_list_add PySem.F.entry_list_add (PySem.F.args_list_add_2 _ _)
   (list_addW l b c.toArray a.toArray n B dd m C o (by rw[aw,aw, <-r.length, <-v.length];exact hz)) ⟨z,h,?_⟩
 rw[e];exact⟨.ref _,_,I.lnew (t':=s.toks) (r.append v) (by rw[bq];exact hz),rfl,q _ I.fresh⟩
def Gj(I:Inv X cf σ H s)(hl:SqL X.K H l xs)(h0: -1000000<k)(h1:k<1000000)(hz:xs.length*k.toNat<=sizeLine)(q: ∀p,H p=qw->Q (.ref p) (upd H p (.lst (ak k.toNat xs).flatten))):
  wpAny (model X.prog X.w) X.A (binaryOp .Mult (.ref l) (.int k u)) (EP X cf σ Q) X.xe s:=by
 obtain⟨b,r,⟨⟨z,dd,o,t⟩,n,e,j,i,m⟩,_⟩:=I.list hl
 simp only at j m i
 subst j m
 have d:b.toArray.size*k.toNat<=sizeLine:=by rw[aw, <-r.length];exact hz
 have g: ¬b.toArray.size*k.toNat > (2^63-1)/8:=by
  have:(sizeLine:Nat)<=(2^63-1)/8:=by decide
  lia
 have f: ¬(!Builtin.List.listFitsIndex k)=qz:=by
  rw[fitsIndex_both (by lia) (by lia)]
  exact bg
 have c: ¬fq (b.toArray.size*k.toNat)=qz:=by
  rw[vN d];exact bg
 have h:qe (λx y=>x++y) #[] (ak (if b.toArray.isEmpty=qz then 0 else k.toNat) b.toArray)=(ak k.toNat b).flatten.toArray:=by
  rw[yH]
  cases b with
  |nil=>simp
  |cons a B=>rw[if_neg (by simp)]
 refine wpAny_binaryOp_repeat_ref (T:="list") (U:="int") (by decide) ⟨_,e,rfl⟩ (λv=>typeIs_int v k u) noFill_list_mul F.fills_int_mul F.slot_int_rmul repeat_list F.slot_int_index.lookup
  (call_meets F.slot_int_rmul (typeIs_int s k u) F.entry_int_rmul (F.args_int_rmul_2 _ _) (mV k u l b.toArray n "list" dd t (.inl rfl))
   ⟨e,rfl,⟨_,e,rfl⟩,call_meets F.slot_list_mul ⟨_,e,rfl⟩ F.entry_list_mul (F.args_list_mul_2 _ _) (Ae l b.toArray n k u dd t f g c) ⟨e,?_⟩⟩)
 rw[h];exact⟨.ref _,_,I.lnew (t':=s.toks) (r.rep k.toNat) (by rw[F3,Nat.mul_comm];exact hz),rfl,q _ I.fresh⟩
def Gk(op:Operator):DOp X ad (binaryOp op) (mW op):=by
 intro l s m H G x y v w u z Q E I e r o g f d
 cases x with
 |int i=>
  unfold Rep at r;subst r
  cases y with
  |int j=>
   unfold Rep at o;subst o
   cases op with
   |Add=>exact JQ l s m H _ _ u z Q I g f ⟨i,j,rfl,rfl,d.ok_now e bF⟩
   |Sub=>exact JR l s m H _ _ u z Q I g f ⟨i,j,rfl,rfl,d.ok_now e bF⟩
   |Mult=>
    have b:RK X.K ad G H (if sml i||sml j then R.ok (.int (i*j))else .bad) Q E:=d
    by_cases c:(sml i||sml j)=qz
    ·rw[if_pos c]at b;refine JS l s m H _ _ u z Q I g f ⟨i,j,rfl,rfl,?_,b.ok_now e bF⟩;rcases(Bool.or_eq_true _ _).mp c with h|h
     ·exact .inl (uE h)
     ·exact .inr (uE h)
    ·rw[if_neg c]at b;exact b.elim
   |FloorDiv=>
    have b:RK X.K ad G H (if 0<j/\j<1073741824 then R.ok (.int (i/j))else .bad) Q E:=d
    by_cases c:0<j/\j<1073741824
    ·rw[if_pos c]at b;exact FQ l s m H _ _ u z Q I g f ⟨i,j,rfl,rfl,c,b.ok_now e bF⟩
    ·rw[if_neg c]at b;exact b.elim
   |Mod=>
    have b:RK X.K ad G H (if 0<j then R.ok (.int (i % j))else .bad) Q E:=d
    by_cases c:0<j
    ·rw[if_pos c]at b;exact JT l s m H _ _ u z Q I g f ⟨i,j,rfl,rfl,c,b.ok_now e bF⟩
    ·rw[if_neg c]at b;exact b.elim
   |LShift=>
    have b:RK X.K ad G H (if 0<=j/\j<=1000/\sml i=qz then R.ok (.int (i*2^j.toNat))else .bad) Q E:=d
    by_cases c:0<=j/\j<=1000/\sml i=qz
    ·rw[if_pos c]at b;exact JU l s m H _ _ u z Q I g f ⟨i,j,rfl,rfl,⟨c.1,by lia,oU c.2.2⟩,b.ok_now e bF⟩
    ·rw[if_neg c]at b;exact b.elim
   |RShift=>
    have b:RK X.K ad G H (if 0<=j then R.ok (.int (i/2^j.toNat))else .bad) Q E:=d
    by_cases c:0<=j
    ·rw[if_pos c]at b;exact JV l s m H _ _ u z Q I g f ⟨i,j,rfl,rfl,c,b.ok_now e bF⟩
    ·rw[if_neg c]at b;exact b.elim
   |BitAnd=>exact JW l s m H _ _ u z Q I g f ⟨i,j,rfl,rfl,d.ok_now e bF⟩
   |BitOr=>exact MY l s m H _ _ u z Q I g f ⟨i,j,rfl,rfl,d.ok_now e bF⟩
   |BitXor=>exact JX l s m H _ _ u z Q I g f ⟨i,j,rfl,rfl,d.ok_now e bF⟩
   |MatMult=>exact az d
   |Div=>exact az d
   |Pow=>exact az d
  |_=>cases op<;>exact az d
 |tup n=>
  unfold Rep at r;obtain⟨p,N,rfl,C,B⟩:=r
  cases y with
  |tup A=>
   unfold Rep at o;obtain⟨q,O,rfl,L,J⟩:=o
   cases op with
   |Add=>
    have b:RK X.K ad G H (if n.length+A.length<=LIM then R.ok (.tup (n++A))else .bad) Q E:=d
    by_cases c:n.length+A.length<=LIM
    ·rw[if_pos c]at b;have U:=B.length;have T:=J.length
     by_cases P:N=[]
     ·subst P
      cases (show u=qj p from g)
      cases (show z=qj q from f)
      obtain⟨Y,r1,p1,_⟩:=I.tuple (e.seqT C);obtain⟨S,r2,Z,_⟩:=I.tuple (e.seqT L);cases r1;refine Gh p1 Z ⟨.ref q,H,I,rfl,b.ok_now e ?_⟩
      have:n=[]:=by simpa using U.symm
      subst this;unfold Rep;exact⟨q,O,rfl,L,J⟩
     ·refine FY l s m H _ _ u z Q I g f ⟨p,q,N,O,rfl,rfl,e.seqT C,e.seqT L,P,by rw[U,T];exact An c,λW=>?_,λW a M=>?_⟩
      ·subst W
       have:A=[]:=by simpa using T.symm
       subst this;refine b.ok_now e ?_;unfold Rep;exact⟨p,N,rfl,C,by rw[mf];exact B⟩
      ·exact b.tup_new e (B.append J) M
    ·rw[if_neg c]at b;exact b.elim
   |_=>exact az d
  |_=>cases op<;>exact az d
 |lst n=>
  unfold Rep at r;obtain⟨p,N,rfl,C,B⟩:=r
  cases y with
  |lst A=>
   unfold Rep at o;obtain⟨q,O,rfl,L,J⟩:=o
   cases op with
   |Add=>
    have b:RK X.K ad G H (if n.length+A.length<=LIM then R.ow (n++A)else .bad) Q E:=d
    by_cases c:n.length+A.length<=LIM
    ·rw[if_pos c]at b
     cases (show u=qj p from g)
     cases (show z=qj q from f)
     exact Gi I (e.seq C) (e.seq L) (by rw[B.length,J.length];exact An c) λa M=>b.ow_new e (B.append J) M
    ·rw[if_neg c]at b;exact b.elim
   |_=>exact az d
  |int k=>
   unfold Rep at o;subst o
   cases op with
   |Mult=>
    have b:RK X.K ad G H (if -1000000<k/\k<1000000/\n.length*k.toNat<=LIM then R.ow (Ou n k)else .bad) Q E:=d
    by_cases c: -1000000<k/\k<1000000/\n.length*k.toNat<=LIM
    ·rw[if_pos c]at b
     cases (show u=qj p from g)
     obtain⟨t,rfl⟩:=f;exact Gj I (e.seq C) c.1 c.2.1 (by rw[B.length];exact An c.2.2) λa M=>b.ow_new e (B.rep k.toNat) M
    ·rw[if_neg c]at b;exact b.elim
   |_=>exact az d
  |_=>cases op<;>exact az d
 |str x=>
  unfold Rep at r;subst r
  cases y with
  |str y=>
   unfold Rep at o;subst o
   cases op with
   |Add=>
    have b:RK X.K ad G H (if x.length<=LIM/\y.length<=LIM then R.ok (.str (x++y))else .bad) Q E:=d
    by_cases c:x.length<=LIM/\y.length<=LIM
    ·rw[if_pos c]at b;exact xX l s m H _ _ u z Q I g f ⟨x,y,rfl,rfl,ol (Nat.add_le_add c.1 c.2) (by decide),b.ok_now e eN⟩
    ·rw[if_neg c]at b;exact b.elim
   |_=>exact az d
  |_=>cases op<;>exact az d
 |_=>cases y<;>cases op<;>exact az d
def Kh(ha:ME X ad a f)(hb:ME X ad b g):ME X ad (.BinOp a op b pos) (aR op f g):=by
 refine λj s m H Q I d=>d.el λG l E e c i h=>?_
 exact wpAny_BinOp (Am (Gk op) ha hb I e c i h)
end
section
variable{X:Cx}{ad:Ad}{cf:ci}{s:Shared}{σ:St}{H G:Hp}{a b c:Expr}{f g h:F}
mutual
theorem eG(I:Inv X cf σ H s)(hG:Same G H): ∀{d:D} {v:V} {u:Value},plain d=qz->Rep X.K ad G d v->bG v u->∃as,Reads s.heap u (bO d) as
 |.non,v,u,_,h,r=>by
  unfold Rep at h;subst h;cases r;unfold bO;exact⟨_,.none⟩
 |.bl b,v,u,_,h,r=>by
  unfold Rep at h;subst h;cases r;unfold bO;exact⟨_,.bool b⟩
 |.int i,v,u,_,h,r=>by
  unfold Rep at h;subst h;obtain⟨t,rfl⟩:=r;unfold bO;exact⟨_,.int i t⟩
 |.str x,v,u,_,h,r=>by
  unfold Rep at h;subst h;obtain⟨t,rfl⟩:=r;unfold bO;exact⟨_,.str x t⟩
 |.tup ds,v,u,p,h,r=>by
  unfold Rep at h;obtain⟨a,y,rfl,l,m⟩:=h;cases r;obtain⟨g,e,⟨o,j,c,n,f⟩,_⟩:=I.tuple (hG.seqT l);obtain⟨as,q⟩:=eO I hG (by simpa[plain]using p) m e
  unfold bO;exact⟨_,.tuple j c f (by simpa using q)⟩
 |.lst ds,v,u,p,h,r=>by
  unfold Rep at h;obtain⟨a,y,rfl,l,m⟩:=h;cases r;obtain⟨g,e,⟨o,n,j,c,_,f⟩,_⟩:=I.list (hG.seq l);obtain⟨as,q⟩:=eO I hG (by simpa[plain]using p) m e
  unfold bO;exact⟨_,.list j c f (by simpa using q)⟩
 |.exc _,_,_,p,_,_=>by simp[plain]at p
 |.fn _,_,_,p,_,_=>by simp[plain]at p
theorem eO(I:Inv X cf σ H s)(hG:Same G H): ∀{ds:List D} {vs:List V} {us:List Value},bC ds=qz->aJ X.K ad G ds vs->bQ vs us->∃as,ReadsAll s.heap us (bA ds) as
 |[],vs,us,_,h,r=>by
  unfold aJ at h;subst h;cases r;unfold bA;exact⟨_,.nil⟩
 |d::ds,vs,us,p,h,r=>by
  unfold aJ at h;obtain⟨v,g,rfl,e,f⟩:=h
  have a:plain d=qz/\bC ds=qz:=by simpa[bC]using p
  cases r with
  |cons b c=>
   obtain⟨as,q1⟩:=eG I hG a.1 e b;obtain⟨bs,q2⟩:=eO I hG a.2 f c;unfold bA;exact⟨_,.cons q1 q2⟩
end
def kS(h:tQ x y=qz):plain x=qz/\plain y=qz/\min (dep x) (dep y)<=60:=by
 unfold tQ at h;rw[av,av]at h;exact⟨h.1.1,h.1.2,of_decide_eq_true h.2⟩
def Gm(hu:A.units+61<cLine)(I:Inv X cf σ H s)(hG:Same G H)(h:tQ x y=qz)(rx:Rep X.K ad G x v)(ry:Rep X.K ad G y w)(ru:bG v u)(rz:bG w z):
  SeqAt.EqAt A s u z (deq x y):=by
 obtain⟨b,a,d⟩:=kS h;obtain⟨c,q1⟩:=eG I hG b rx ru;obtain⟨bs,q2⟩:=eG I hG a ry rz;rw[<-gE x y b a];exact kr (bO x) (bO y) A s u z c bs q1 q2 (fX b) (fX a) (by rw[fY,fY];lia)
def mZ{Ex:cg}{s:Shared}{Q:cg}{b:Bool}(r:bG v u)(h:Q (.bool (!decide (v= .bl b))) s):wpAny M A (compareOp .IsNot u (.bool b)) Q Ex s:=by
 cases v with
 |bl a=>
  cases (show u=p4 a from r)
  refine ae (show Q (.bool (!(p4 a==p4 b))) s from ?_)
  have e:(p4 a==p4 b)=decide (V.bl a=V.bl b):=by cases a<;>cases b<;>rfl
  rw[e];exact h
 |non=>cases (show u=p3 from r);exact ae h
 |int i=>obtain⟨t,rfl⟩:=r;exact ae h
 |str i=>obtain⟨t,rfl⟩:=r;exact ae h
 |byt i=>obtain⟨t,rfl⟩:=r;exact ae h
 |flt i=>obtain⟨t,rfl⟩:=r;exact ae h
 |ref p=>cases (show u=qj p from r);exact ae h
 |ty p=>cases (show u=qa p from r);exact ae h
def Ao{b:Bool}(r:Rep X.K ad G x v):decide (v= .bl b)=Ov b x:=by
 cases x with
 |bl a=>unfold Rep at r;subst r;cases a<;>cases b<;>rfl
 |non=>unfold Rep at r;subst r;rfl
 |int _=>unfold Rep at r;subst r;rfl
 |str _=>unfold Rep at r;subst r;rfl
 |tup _=>unfold Rep at r;obtain⟨p,_,rfl,_⟩:=r;rfl
 |lst _=>unfold Rep at r;obtain⟨p,_,rfl,_⟩:=r;rfl
 |exc _=>unfold Rep at r;obtain⟨p,rfl,_⟩:=r;rfl
 |fn _=>unfold Rep at r;subst r;rfl
def nO(r:Rep X.K ad G x v):decide (v= .non)=qQ x:=by
 cases x with
 |bl a=>unfold Rep at r;subst r;rfl
 |non=>unfold Rep at r;subst r;rfl
 |int _=>unfold Rep at r;subst r;rfl
 |str _=>unfold Rep at r;subst r;rfl
 |tup _=>unfold Rep at r;obtain⟨p,_,rfl,_⟩:=r;rfl
 |lst _=>unfold Rep at r;obtain⟨p,_,rfl,_⟩:=r;rfl
 |exc _=>unfold Rep at r;obtain⟨p,rfl,_⟩:=r;rfl
 |fn _=>unfold Rep at r;subst r;rfl
def lP{y:D}{ys:List D}{w:V}(e:items y=qv ys)(r:Rep X.K ad G y w): ∃a vs,w= .ref a/\(SqT X.K G a vs\/SqL X.K G a vs)/\aJ X.K ad G ys vs:=by
 cases y with
 |tup _=>cases e;unfold Rep at r;obtain⟨a,vs,d,b,c⟩:=r;exact⟨a,vs,d,.inl b,c⟩
 |lst _=>cases e;unfold Rep at r;obtain⟨a,vs,d,b,c⟩:=r;exact⟨a,vs,d,.inr b,c⟩
 |_=>cases e
theorem vP: ∀{ys:List D} {vs:List V} {us:List Value},aJ X.K ad G ys vs->bQ vs us->∀u∈us, ∃d∈ys, ∃v,Rep X.K ad G d v/\bG v u
 |[],vs,us,h,r,u,hu=>by
  unfold aJ at h;subst h;cases r;cases hu
 |d::ds,vs,us,h,r,u,hu=>by
  unfold aJ at h;obtain⟨v,j,rfl,e,f⟩:=h
  cases r with
  |cons a c=>
   rcases au.mp hu with rfl|hu
   ·exact⟨d,.head _,v,e,a⟩
   ·obtain⟨g,i,b,q⟩:=vP f c u hu;exact⟨g,.tail _ i,b,q⟩
theorem vQ(p:D->Bool)(q:Value->Bool): ∀{ys:List D} {vs:List V} {us:List Value},aJ X.K ad G ys vs->bQ vs us->(∀d∈ys, ∀v u,Rep X.K ad G d v->bG v u->q u=p d)->us.any q=ys.any p
 |[],vs,us,h,r,_=>by
  unfold aJ at h;subst h;cases r;rfl
 |d::ds,vs,us,h,r,k=>by
  unfold aJ at h;obtain⟨v,i,rfl,c,e⟩:=h
  cases r with
  |cons a b=>
   rw[n4,n4,k d (.head _) v _ c a,vQ p q e b λf g=>k f (.tail _ g)]
theorem nP(p:D->Bool)(q:Value->Bool): ∀{ys:List D} {vs:List V} {us:List Value},aJ X.K ad G ys vs->bQ vs us->(∀d∈ys, ∀v u,Rep X.K ad G d v->bG v u->q u=p d)->us.countP q=ys.countP p
 |[],vs,us,h,r,_=>by
  unfold aJ at h;subst h;cases r;rfl
 |d::ds,vs,us,h,r,k=>by
  unfold aJ at h;obtain⟨v,i,rfl,c,e⟩:=h
  cases r with
  |cons a b=>
   rw[ku,ku,k d (.head _) v _ c a,nP p q e b λf g=>k f (.tail _ g)]
theorem rD(p:D->Bool)(q:Value->Bool): ∀{ys:List D} {vs:List V} {us:List Value},aJ X.K ad G ys vs->bQ vs us->(∀d∈ys, ∀v u,Rep X.K ad G d v->bG v u->q u=p d)->us.findIdx? q=ys.findIdx? p
 |[],vs,us,h,r,_=>by
  unfold aJ at h;subst h;cases r;rfl
 |d::ds,vs,us,h,r,k=>by
  unfold aJ at h;obtain⟨v,i,rfl,c,e⟩:=h
  cases r with
  |cons a b=>
   rw[jg,jg,k d (.head _) v _ c a,rD p q e b λf g=>k f (.tail _ g)]
open Classical in
def vR(hu:X.A.units+62<cLine)(I:Inv X cf σ H s)(hG:Same G H)(h:zG x ys=qz)(rx:Rep X.K ad G x v)(ru:bG v u)(r:aJ X.K ad G ys vs)(rv:bQ vs its):
  ∃e:Value->Bool,(∀y,y∈its.toArray->SeqAt.EqAt X.A.in1 s y u (e y))/\its.toArray.any e=(ys.any λy=>deq y x)/\its.countP e=(ys.countP λy=>deq y x)/\its.findIdx? e=ys.findIdx? λy=>deq y x:=by
 have ok: ∀d∈ys,tQ d x=qz:=λd f=>zAd h d f
 have a: ∀d∈ys, ∀g c,Rep X.K ad G d g->bG g c->(decide (∃d' b,plain d'=qz/\Reads s.heap c (bO d') b/\qf (bO d') (bO x)=qz))=deq d x:=λd f g c i j=>by
  obtain⟨l,n,_⟩:=kS (ok d f);obtain⟨b,q1⟩:=eG I hG l i j;rw[<-gE d x l n]
  by_cases z:qf (bO d) (bO x)=qz
  ·rw[z];exact decide_eq_true ⟨d,b,l,q1,z⟩
  ·rw[Bool.not_eq_true]at z;rw[z];refine decide_eq_false ?_;rintro⟨d',as',p',q',z'⟩
   have:=SeqAt.Reads.unique (bO d) (bO d') c b as' (fX l) q1 q'
   rw[<-this,z]at z';cases z'
 refine⟨λc=>decide (∃d' b,plain d'=qz/\Reads s.heap c (bO d') b/\qf (bO d') (bO x)=qz),λy m=>?_,?_,nP _ _ r rv a,rD _ _ r rv a⟩
 ·obtain⟨d,f,g,i,j⟩:=vP r rv y (by simpa using m)
  have:=Gm (A:=X.A.in1) (by show X.A.units+1+61<_;lia) I hG (ok d f) i rx j ru
  rw[<-a d f g y i j]at this;exact this
 ·rw[List.any_toArray];exact vQ _ _ r rv a
def gF(op:CmpOp)(hu:X.A.units+62<cLine):DOp X ad (compareOp op) (fC op):=by
 intro N s O H G x y v w u z Q E I b f d m n g
 cases op with
 |Eq=>
  have a:RK X.K ad G H (if tQ x y then R.ok (.bl (deq x y))else .bad) Q E:=g
  by_cases h:tQ x y=qz
  ·rw[if_pos h]at a;obtain⟨L,B,W⟩:=kS h;obtain⟨T,q1⟩:=eG I b L f m;obtain⟨bs,q2⟩:=eG I b B d n;exact SeqAt.compareEq_reads q1 q2 (fX L) (fX B) (by rw[fY,fY];lia) (by rw[gE x y L B];exact⟨.bl _,H,I,rfl,a.ok_now b bS⟩)
  ·rw[if_neg h]at a;exact a.elim
 |NotEq=>
  have a:RK X.K ad G H (if tQ x y then R.ok (.bl (!deq x y))else .bad) Q E:=g
  by_cases h:tQ x y=qz
  ·rw[if_pos h]at a;obtain⟨L,B,W⟩:=kS h;obtain⟨T,q1⟩:=eG I b L f m;obtain⟨bs,q2⟩:=eG I b B d n;exact SeqAt.neOverData X.prog X.w X.A X.xe s u z (bO x) (bO y) T bs _ q1 q2 (fX L) (fX B) (by rw[fY,fY];lia) (by rw[gE x y L B];exact⟨.bl _,H,I,rfl,a.ok_now b bS⟩)
  ·rw[if_neg h]at a;exact a.elim
 |Lt=>
  cases x<;>cases y<;>try exact az g
  unfold Rep at f d;subst f;subst d;exact MZ N s O H _ _ u z Q I m n ⟨_,_,rfl,rfl,g.ok_now b bS⟩
 |LtE=>
  cases x<;>cases y<;>try exact az g
  ·unfold Rep at f d;subst f;subst d;exact M2 N s O H _ _ u z Q I m n ⟨_,_,rfl,rfl,g.ok_now b bS⟩
  ·rename_i i j;unfold Rep at f d;subst f;subst d;obtain⟨t,rfl⟩:=(show ∃t,u=qi i t from m)
   obtain⟨Y,rfl⟩:=(show ∃t,z=qi j t from n)
   exact PySem.P.le_str ⟨.bl _,H,I,rfl,g.ok_now b bS⟩
 |Gt=>
  cases x<;>cases y<;>try exact az g
  unfold Rep at f d;subst f;subst d;exact M3 N s O H _ _ u z Q I m n ⟨_,_,rfl,rfl,g.ok_now b bS⟩
 |GtE=>
  cases x<;>cases y<;>try exact az g
  unfold Rep at f d;subst f;subst d;exact M4 N s O H _ _ u z Q I m n ⟨_,_,rfl,rfl,g.ok_now b bS⟩
 |Is=>
  cases y<;>try exact az g
  unfold Rep at d;subst d;exact JZ N s O H _ _ u z Q I m n ⟨rfl,by rw[nO f];exact g.ok_now b bS⟩
 |IsNot=>
  cases y<;>try exact az g
  ·unfold Rep at d;subst d;exact FT N s O H _ _ u z Q I m n ⟨rfl,by rw[nO f];exact g.ok_now b bS⟩
  ·unfold Rep at d;subst d;rename_i k
   cases (show z=p4 k from n)
   exact mZ m ⟨.bl _,H,I,rfl,by rw[Ao f];exact g.ok_now b bS⟩
 |In=>
  have a:RK X.K ad G H (match items y with|some l=>if zG x l then R.ok (.bl (l.any λy=>deq y x))else .bad|none=>.bad) Q E:=g
  cases e:items y with
  |none=>rw[e]at a;exact a.elim
  |some l=>
   rw[e]at a
   by_cases h:zG x l=qz
   ·have c:RK X.K ad G H (if zG x l then R.ok (.bl (l.any λy=>deq y x))else .bad) Q E:=a
    rw[if_pos h]at c;obtain⟨p,U,rfl,q,S⟩:=lP e d
    cases (show z=qj p from n)
    rcases q with q|q
    ·obtain⟨o,J,pt,_⟩:=I.tuple (b.seqT q);obtain⟨r,C,M,_⟩:=vR hu I b h f m S J;exact SeqAt.in_tupleAt r (show s.heap.IsTuple p o.toArray from pt) C (by rw[M];exact⟨.bl _,H,I,rfl,c.ok_now b bS⟩)
    ·obtain⟨o,J,pt,_⟩:=I.list (b.seq q);obtain⟨r,C,M,_⟩:=vR hu I b h f m S J;exact SeqAt.in_listAt r pt.isList C (by rw[M];exact⟨.bl _,H,I,rfl,c.ok_now b bS⟩)
   ·have c:RK X.K ad G H (if zG x l then R.ok (.bl (l.any λy=>deq y x))else .bad) Q E:=a
    rw[if_neg h]at c;exact c.elim
 |NotIn=>
  have a:RK X.K ad G H (match items y with|some l=>if zG x l then R.ok (.bl (!l.any λy=>deq y x))else .bad|none=>.bad) Q E:=g
  cases e:items y with
  |none=>rw[e]at a;exact a.elim
  |some l=>
   rw[e]at a
   have c:RK X.K ad G H (if zG x l then R.ok (.bl (!l.any λy=>deq y x))else .bad) Q E:=a
   by_cases h:zG x l=qz
   ·rw[if_pos h]at c;obtain⟨p,U,rfl,q,S⟩:=lP e d
    cases (show z=qj p from n)
    rcases q with q|q
    ·obtain⟨o,J,pt,_⟩:=I.tuple (b.seqT q);obtain⟨r,C,M,_⟩:=vR hu I b h f m S J;exact SeqAt.notIn_tupleAt r (show s.heap.IsTuple p o.toArray from pt) C (by rw[M];exact⟨.bl _,H,I,rfl,c.ok_now b bS⟩)
    ·obtain⟨o,J,pt,_⟩:=I.list (b.seq q);obtain⟨r,C,M,_⟩:=vR hu I b h f m S J;exact SeqAt.notIn_listAt r pt.isList C (by rw[M];exact⟨.bl _,H,I,rfl,c.ok_now b bS⟩)
   ·rw[if_neg h]at c;exact c.elim
end
def PE.imp(h:PE X e t)(k: ∀σ H Q,t' σ H Q->t σ H Q):PE X e t':=λa s σ H Q I w=>h a s σ H Q I (k σ H Q w)
def PT.imp(h:PT X e t)(k: ∀σ H Q,t' σ H Q->t σ H Q):PT X e t':=λa s σ H Q I w=>h a s σ H Q I (k σ H Q w)
def PW.imp(h:PW X e t)(k: ∀σ H Q,t' σ H Q->t σ H Q):PW X e t':=λa b s σ H Q I w=>h a b s σ H Q I (k σ H Q w)
def PS.imp(h:PS X e t)(k: ∀D σ H,t' D σ H->t D σ H):PS X e t':=λa s σ H D I w=>h a s σ H D I (k D σ H w)
def PSs.imp(h:PSs X e t)(k: ∀D σ H,t' D σ H->t D σ H):PSs X e t':=λa s σ H D I w=>h a s σ H D I (k D σ H w)
def PA.imp(h:PA X es t)(k: ∀σ H Q,t' σ H Q->t σ H Q):PA X es t':=λp a s σ H Q I w=>h p a s σ H Q I (k σ H Q w)
section
variable{X:Cx}{ad:Ad}{cf:ci}{s:Shared}{σ:St}{H G:Hp}{Q:VK}{E:Nat->Hp->Prop}{a b c:Expr}{f g h:F}
def iN{σ:St}{H:Hp}{Q Q':VK}(hG:Same G H)(hS:SL X.K ad G H ρ σ)(hx:XP X ad σ E)(hr:RK X.K ad G H ((f ρ).bind k) Q E)(q: ∀v d G1 H1,Step G H G1 H1->Rep X.K ad G1 d v->RK X.K ad G1 H1 (k d) Q E->Q' v H1):tE X ad f σ H Q':=by
 refine⟨G,ρ,E,hG,hS,hx,?_⟩
 cases e:f ρ with
 |ok d=>
  rw[e]at hr;exact λv G1 H1 st r=>q v d G1 H1 st r (RK.step hr st)
 |ow j=>
  rw[e]at hr;intro p i G1 H1 st n m g r;obtain⟨h,a,b⟩:=cS (X:=X) (ad:=ad) st n m g r;exact q _ _ h H1 a b (RK.step hr a)
 |ex c=>
  rw[e]at hr;exact hr
 |bad=>
  rw[e]at hr;exact hr
def oV(hx:XP X ad σ E)(st:Step G H G1 H1)(hS:SL X.K ad G H ρ σ){Q:VK}(hr:RK X.K ad G1 H1 (f ρ) Q E):tE X ad f σ H1 Q:=⟨G1,ρ,E,st.gh,hS.step st,hx,hr⟩
def Ki(ha:ME X ad a f):ME X ad (.UnaryOp .Not a pos) (iZ f):=by
 refine PE.imp (JG ha) ?_;rintro l H Q ⟨G,j,E,c,b,g,e⟩;refine iN c b g e λv d i h st r k=>?_
 cases d<;>try exact az k
 unfold Rep at r;subst r;exact⟨_,rfl,k.ok_now st.gh bS⟩
def Kj(ha:ME X ad a f):ME X ad (.UnaryOp .USub a pos) (Ml f):=by
 refine PE.imp (MV JY ha) ?_;rintro l H Q ⟨G,j,E,c,b,g,e⟩;refine iN c b g e λv d i h st r k=>?_
 cases d<;>try exact az k
 unfold Rep at r;subst r;exact⟨_,rfl,k.ok_now st.gh bF⟩
def Kk{σ:St}{H:Hp}{Q:VK}(h:tE X ad (iK f g) σ H Q):JD (tE X ad f) (tE X ad g) σ H Q:=by
 obtain⟨G,m,E,e,a,c,i⟩:=h;refine iN e a c i λv d l j st r k=>?_
 cases d<;>try exact az k
 rename_i b;unfold Rep at r;subst r;refine⟨b,rfl,?_⟩
 cases b with
 |true=>exact CC (oV c st a k)
 |false=>exact CS (k.ok_now st.gh bS)
def Nl{σ:St}{H:Hp}{Q:VK}(h:tE X ad (rOr f g) σ H Q):Op (tE X ad f) (tE X ad g) σ H Q:=by
 obtain⟨G,m,E,e,a,c,i⟩:=h;refine iN e a c i λv d l j st r k=>?_
 cases d<;>try exact az k
 rename_i b;unfold Rep at r;subst r;refine⟨b,rfl,?_⟩
 cases b with
 |true=>exact CC (k.ok_now st.gh bS)
 |false=>exact CS (oV c st a k)
def EK(ha:ME X ad a f)(hb:ME X ad (.BoolOp .And (b::r) pos) g):ME X ad (.BoolOp .And (a::b::r) pos) (iK f g):=PE.imp (JF ha hb) λ_ _ _ h=>Kk h
def Kl(ha:ME X ad a f)(hb:ME X ad (.BoolOp .Or (b::r) pos) g):ME X ad (.BoolOp .Or (a::b::r) pos) (rOr f g):=PE.imp (MP ha hb) λ_ _ _ h=>Nl h
def EL(hb:ME X ad b g):ME X ad (.BoolOp op [b] pos) g:=JE hb
def Nm{σ:St}{H:Hp}{Q:Bool->Hp->Prop}(h:tT X ad f σ H Q):tE X ad f σ H λx H1=>∃k,x= .bl k/\Q k H1:=by
 obtain⟨G,d,E,b,a,e,g,c⟩:=h;exact⟨G,d,E,b,a,e,c⟩
def Km(ha:ME X ad a f)(he: ∀whole,isTrue a X.env whole=(do let v<-whole;standAt a.pos;holding [v] (truthy v))):MT X ad a f:=PT.imp (JB ha he) λ_ _ _ h=>Nm h
def fI{r:R}{k:D->R}(h:j9 (r.bind k)):(∃d,r= .ok d/\j9 (k d))\/(∃xs,r= .ow xs/\j9 (k (.lst xs)))\/∃c,r= .ex c:=by
 cases r with
 |ok d=>exact .inl ⟨d,rfl,h⟩
 |ow xs=>exact .inr (.inl ⟨xs,rfl,h⟩)
 |ex c=>exact .inr (.inr ⟨c,rfl⟩)
 |bad=>
  rcases h with ⟨_,h⟩|⟨_,h⟩<;>cases h
def bY: ¬j9 .bad:=by
 rintro(⟨_,h⟩|⟨_,h⟩)<;>cases h
def Kn{σ:St}{H:Hp}{Q:Bool->Hp->Prop}(h:tT X ad (iZ f) σ H Q):Oo (tT X ad f) σ H Q:=by
 obtain⟨G,i,E,n,l,o,g,m⟩:=h;rcases fI g with ⟨d,e,g⟩|⟨y,e,g⟩|⟨c,e⟩
 ·cases d<;>try exact(bY g).elim
  rename_i b;refine⟨G,i,E,n,l,o,.inl ⟨b,e⟩,?_⟩
  have a:RK X.K ad G H ((f i).bind λx=>match x with|.bl b=>.ok (.bl (!b))|_=>.bad) (λv j=>∃b,v= .bl b/\Q b j) E:=m
  rw[e]at a ⊢;intro v s p st r;unfold Rep at r;subst r;obtain⟨u,t,q⟩:=a (.bl (!b)) s p st bS;cases t;exact⟨b,rfl,q⟩
 ·exact(bY g).elim
 ·refine⟨G,i,E,n,l,o,.inr ⟨c,e⟩,?_⟩
  have a:RK X.K ad G H ((f i).bind λx=>match x with|.bl b=>.ok (.bl (!b))|_=>.bad) (λv j=>∃b,v= .bl b/\Q b j) E:=m
  rw[e]at a ⊢;exact a
def Ko(ha:MT X ad a f):MT X ad (.UnaryOp .Not a pos) (iZ f):=PT.imp (JC ha) λ_ _ _ h=>Kn h
def Kp{σ:St}{H:Hp}{Q:Bool->Hp->Prop}(h:tT X ad (iK f g) σ H Q):On (tT X ad f) (tT X ad g) σ H Q:=by
 obtain⟨G,j,E,o,l,m,i,p⟩:=h
 have a:RK X.K ad G H ((f j).bind λx=>match x with|.bl qz=>g j|.bl q4=>.ok (.bl q4)|_=>.bad) (λv s=>∃b,v= .bl b/\Q b s) E:=p
 rcases fI i with ⟨d,e,i⟩|⟨z,e,i⟩|⟨c,e⟩
 ·cases d<;>try exact(bY i).elim
  rename_i b;refine⟨G,j,E,o,l,m,.inl ⟨b,e⟩,?_⟩;rw[e]at a ⊢;intro v n t st r;unfold Rep at r;subst r;refine⟨b,rfl,?_⟩
  cases b with
  |true=>exact CC ⟨n,j,E,st.gh,l.step st,m,i,RK.step a st⟩
  |false=>
   obtain⟨y,u,q⟩:=a (.bl q4) n t st bS;cases u;exact CS q
 ·exact(bY i).elim
 ·refine⟨G,j,E,o,l,m,.inr ⟨c,e⟩,?_⟩;rw[e]at a ⊢;exact a
def Nn{σ:St}{H:Hp}{Q:Bool->Hp->Prop}(h:tT X ad (rOr f g) σ H Q):tOr (tT X ad f) (tT X ad g) σ H Q:=by
 obtain⟨G,j,E,o,l,m,i,p⟩:=h
 have a:RK X.K ad G H ((f j).bind λx=>match x with|.bl qz=>.ok (.bl qz)|.bl q4=>g j|_=>.bad) (λv s=>∃b,v= .bl b/\Q b s) E:=p
 rcases fI i with ⟨d,e,i⟩|⟨z,e,i⟩|⟨c,e⟩
 ·cases d<;>try exact(bY i).elim
  rename_i b;refine⟨G,j,E,o,l,m,.inl ⟨b,e⟩,?_⟩;rw[e]at a ⊢;intro v n t st r;unfold Rep at r;subst r;refine⟨b,rfl,?_⟩
  cases b with
  |true=>
   obtain⟨y,u,q⟩:=a (.bl qz) n t st bS;cases u;exact CC q
  |false=>exact CS ⟨n,j,E,st.gh,l.step st,m,i,RK.step a st⟩
 ·exact(bY i).elim
 ·refine⟨G,j,E,o,l,m,.inr ⟨c,e⟩,?_⟩;rw[e]at a ⊢;exact a
def EM(ha:MT X ad a f)(hb:MW X ad (.BoolOp .And (b::r) pos) g):MW X ad (.BoolOp .And (a::b::r) pos) (iK f g):=PW.imp (pw_and ha hb) λ_ _ _ h=>Kp h
def Kq(ha:MT X ad a f)(hb:MW X ad (.BoolOp .Or (b::r) pos) g):MW X ad (.BoolOp .Or (a::b::r) pos) (rOr f g):=PW.imp (pw_or ha hb) λ_ _ _ h=>Nn h
def EN(hb:MT X ad b g):MW X ad (.BoolOp op [b] pos) g:=by
 cases op with
 |And=>exact pw_and1 hb
 |Or=>exact pw_or1 hb
def Kr(hu:X.A.units+62<cLine)(ha:ME X ad a f)(hb:ME X ad b g)(hm:behindInMarks op b=q4):ME X ad (.Compare a [op] [b] pos) (bH op f g):=by
 refine λj s m H Q I d=>d.el λG l E e c i h=>?_
 exact wpAny_Compare1 (Am (gF op hu) ha hb I e c i h) hm
def Ks(hu:X.A.units+62<cLine)(ha:ME X ad a f)(hb:ME X ad b g)(hm:behindInMarks op b=q4):MT X ad (.Compare a [op] [b] pos) (bH op f g):=by
 refine λJ s B H Q I n=>n.el λG L E p i t K j=>?_
 refine wpAny_isTrue_Compare1 (L2.thn (Am (gF op hu) ha hb I p i t j) λv z l=>L2.thn l λu y r=>L2.thn r λc C d=>?_) hm
 obtain⟨x,m,o,h,k,e,q⟩:=d;subst e;cases h;exact wpAny_truthy_bool ⟨m,o,q⟩
def Ap:(∃k,fC op x y= .ok (.bl k))\/fC op x y= .bad:=by
 cases op<;>unfold fC<;>(try unfold inS)<;>(repeat' split)<;>first|exact .inr rfl|exact .inl ⟨_,rfl⟩
def No{op:CmpOp}{x y:D}{v w:V}{u z:Value}(hu:X.A.units+62<cLine)(I:Inv X cf σ H s)(hG:Same G H)(rx:Rep X.K ad G x v)(ry:Rep X.K ad G y w)(ru:bG v u)(rz:bG w z){k:D->R}(hr:RK X.K ad G H ((fC op x y).bind k) Q E):wpAny (model X.prog X.w) X.A (compareOp op u z) (λd s3=>∃b G' H',d= .bool b/\Step G H G' H'/\Inv X cf σ H' s3/\RK X.K ad G' H' (k (.bl b)) Q E) X.xe s:=by
 rcases Ap (op:=op) (x:=x) (y:=y)with ⟨b,e⟩|e
 ·rw[e]at hr;refine L2.thn (gF op hu cf s σ H G x y v w u z (λq H'=>∃G',Step G H G' H'/\q= .bl b) E I hG rx ry ru rz (by rw[e];exact λq G' H' st r=>⟨G',st,by unfold Rep at r;exact r⟩)) λd s3 a=>?_
  obtain⟨q,H',f,g,G',st,c⟩:=a;subst c;cases g;exact⟨b,G',H',rfl,st,f,RK.step hr st⟩
 ·rw[e]at hr;exact hr.elim
def C3(hu:X.A.units+62<cLine)(ha:ME X ad a f)(hb:ME X ad b g)(hc:ME X ad c h)(hm:lastMarks [op,op'] [b,c]=q4):ME X ad (.Compare a [op,op'] [b,c] pos) (j7 op op' f g h):=by
 refine λJ s T H Q I C=>C.el λG ρ E Y n o P=>?_
 refine Compare_chain (L2.thn (ha.thn I Y n o P) λv s1 ⟨x,d1,G1,H1,W,L,l,q1,k1⟩=>chain_link (L2.thn (hb.thn W l.gh (n.step l) o k1) λu s2 ⟨y,O,G2,H2,N,r,j,q2,k2⟩=>
  L2.thn (No hu N j.gh (q1.mono j.sg) q2 L r k2) λd s3 ⟨k,G3,H3,e,i,q,k3⟩=>?_)) hm
 subst e;refine wpAny_truthy_bool ?_
 cases k with
 |false=>exact ite_ff ⟨.bl q4,H3,q,rfl,k3.ok_now i.gh bS⟩
 |true=>
  refine ite_tt (chain_last (L2.thn (hc.thn q i.gh (((n.step l).step j).step i) o k3) λS B p=>?_))
  obtain⟨U,K,M,H4,z,Z,m,t,k4⟩:=p;exact gF op' hu J B T H4 M O K y U u S Q E z m.gh ((q2.mono i.sg).mono m.sg) t r Z k4
def C4(hu:X.A.units+62<cLine)(ha:ME X ad a f)(hb:ME X ad b g)(hc:ME X ad c h)(hm:lastMarks [op,op'] [b,c]=q4):MT X ad (.Compare a [op,op'] [b,c] pos) (j7 op op' f g h):=by
 refine λK s σ H Q I J=>J.el λG ρ E hG o p ht Y=>?_
 refine isTrue_chain (L2.thn (ha.thn I hG o p Y) λv s1 ⟨x,d1,G1,H1,I1,N,m,q1,k1⟩=>test_link (L2.thn (hb.thn I1 m.gh (o.step m) p k1) λu s2 ⟨y,W,G2,H2,T,r,l,q2,k2⟩=>
  L2.thn (No hu T l.gh (q1.mono l.sg) q2 N r k2) λd s3 ⟨k,G3,H3,e,i,q,k3⟩=>?_)) hm
 subst e;refine wpAny_truthy_bool ?_
 cases k with
 |false=>
  obtain⟨k',L,U⟩:=k3.ok_now (v:=.bl q4) i.gh bS;cases L;exact ite_ff ⟨H3,q,U⟩
 |true=>
  refine ite_tt (test_last (L2.thn (hc.thn q i.gh (((o.step m).step l).step i) p k3) λZ C j=>?_))
  obtain⟨z',M,S,H4,B,r4,n,z,k4⟩:=j;refine L2.thn (gF op' hu K C σ H4 S W M y z' u Z _ E B n.gh ((q2.mono i.sg).mono n.sg) z r r4 k4) λd' s5 j=>?_
  obtain⟨z2,H5,P,t,k2,O,q5⟩:=j;subst O;cases t;exact wpAny_truthy_bool ⟨H5,P,q5⟩
def C5(hc:MT X ad c h)(ha:ME X ad a f)(hb:ME X ad b g):ME X ad (.IfExp c a b pos) (rIf h f g):=by
 refine PE.imp (CJ hc ha hb) ?_;rintro q H Q ⟨G,j,E,n,l,m,o⟩
 have i:RK X.K ad G H ((h j).bind λx=>match x with|.bl qz=>f j|.bl q4=>g j|_=>.bad) Q E:=o
 cases e:h j with
 |ok d=>
  rw[e]at i
  cases d<;>try exact i.elim
  rename_i k;refine⟨G,j,E,n,l,m,.inl ⟨k,e⟩,?_⟩;rw[e];intro v t s st r;unfold Rep at r;subst r;refine⟨k,rfl,?_⟩
  cases k with
  |true=>exact CC (oV m st l (RK.step i st))
  |false=>exact CS (oV m st l (RK.step i st))
 |ow p=>rw[e]at i;exact i.elim
 |ex k=>
  rw[e]at i;exact⟨G,j,E,n,l,m,.inr ⟨k,e⟩,by rw[e];exact i⟩
 |bad=>rw[e]at i;exact i.elim
def Kt:MA X ad [] []:=PA.imp cZ λf H Q a=>by obtain⟨G,e,E,b,d,g,c⟩:=a;exact c [] G H (Step.refl b) aJ.nil
def Gn(ha:ME X ad a f)(hr:MA X ad es fs)(hs:starEach (a::es) X.env=(q4,eval a X.env)::starEach es X.env):MA X ad (a::es) (f::fs):=by
 refine PA.imp (b8 ha hr hs) ?_;rintro x H Q ⟨G,l,E,z,q,u,hr⟩
 have g: ∀d,AK X.K ad G H ((args fs l).cons d) Q E->∀v i h,Step G H i h->Rep X.K ad i d v->tA X ad fs x h λt H2=>Q (v::t) H2:=λd hk v i h st r=>by
  refine⟨i,l,E,st.gh,q.step st,u,?_⟩
  cases e:args fs l with
  |ok A=>rw[e]at hk;exact λs j H2 b o=>hk (v::s) j H2 (st.trans b) (aJ.cons (r.mono b.sg) o)
  |ex c=>rw[e]at hk;exact λj H2 b=>hk j H2 (st.trans b)
  |bad=>rw[e]at hk;exact hk
 refine⟨G,l,E,z,q,u,?_⟩;unfold args at hr
 cases e:f l with
 |ok d=>rw[e]at hr;exact λv i h st r=>g d hr v i h st r
 |ow t=>
  rw[e]at hr;intro p s i h st n m y r;obtain⟨j,b,o⟩:=cS (X:=X) (ad:=ad) st n m y r;exact g _ hr _ j h b o
 |ex c=>rw[e]at hr;exact hr
 |bad=>rw[e]at hr;exact hr
def fJ(h:args fs ρ= .ok ds):ds.length=fs.length:=by
 induction fs generalizing ds with
 |nil=>cases h;rfl
 |cons f fs b=>
  unfold args at h
  cases e:f ρ with
  |ok d=>
   rw[e]at h
   cases a:args fs ρ with
   |ok r=>rw[a]at h;cases h;simp[b a]
   |ex c=>rw[a]at h;cases h
   |bad=>rw[a]at h;cases h
  |ow d=>
   rw[e]at h
   cases a:args fs ρ with
   |ok r=>rw[a]at h;cases h;simp[b a]
   |ex c=>rw[a]at h;cases h
   |bad=>rw[a]at h;cases h
  |ex c=>rw[e]at h;cases h
  |bad=>rw[e]at h;cases h
def Go{σ:St}{H:Hp}{Q:VK}(hG:Same G H)(hS:SL X.K ad G H ρ σ)(hx:XP X ad σ E)(hr:RK X.K ad G H (mX fs ρ k) Q E)(q: ∀vs ds G1 H1,Step G H G1 H1->aJ X.K ad G1 ds vs->ds.length=fs.length->RK X.K ad G1 H1 (k ds) Q E->Q' vs H1):tA X ad fs σ H Q':=by
 refine⟨G,ρ,E,hG,hS,hx,?_⟩;unfold mX at hr
 cases e:args fs ρ with
 |ok ds=>rw[e]at hr;exact λvs G1 H1 st r=>q vs ds G1 H1 st r (fJ e) (RK.step hr st)
 |ex c=>rw[e]at hr;exact hr
 |bad=>rw[e]at hr;exact hr
def Ku(ha:MA X ad es fs)(hl:fs.length<=1000):ME X ad (.Tuple es j pos) (gN fs):=by
 refine PE.imp (Ew ha) ?_;rintro n H Q ⟨G,b,E,i,d,l,g⟩;refine⟨G,b,E,i,d,l,?_⟩
 have a:RK X.K ad G H ((args fs b).then λh=>.ok (.tup h)) Q E:=g
 cases e:args fs b with
 |ok o=>
  rw[e]at a;intro m s q st r;refine⟨?_,λp f=>(RK.step a st).tup_new st.gh r f⟩
  have:=r.length
  rw[this,fJ e];exact ol hl (by decide)
 |ex c=>rw[e]at a;exact a
 |bad=>rw[e]at a;exact a
def Kv(ha:MA X ad es fs)(hl:fs.length<=1000):ME X ad (.List es pos) (iL fs):=by
 refine PE.imp (vJ ha) ?_;rintro m H Q ⟨G,b,E,i,d,j,g⟩;refine⟨G,b,E,i,d,j,?_⟩
 have a:RK X.K ad G H ((args fs b).then λh=>.ow h) Q E:=g
 cases e:args fs b with
 |ok n=>
  rw[e]at a;intro l q o st r;refine⟨?_,λp f=>(RK.step a st).ow_new st.gh r f⟩
  have:=r.length
  rw[this,fJ e];exact ol hl (by decide)
 |ex c=>rw[e]at a;exact a
 |bad=>rw[e]at a;exact a
def Seq(X:Cx)(ad:Ad)(G H:Hp)(x:D)(v:V):Prop:=Rep X.K ad G x v\/∃a vs ds,x= .lst ds/\v= .ref a/\G a=qw/\H a=qv (.lst vs)/\aJ X.K ad G ds vs
def Seq.step(q:Seq X ad G H x v)(st:Step G H G1 H1):Seq X ad G1 H1 x v:=by
 rcases q with q|⟨a,vs,ds,e1,e2,h1,h2,h3⟩
 ·exact .inl (q.mono st.sg)
 ·refine .inr ⟨a,vs,ds,e1,e2,?_,st.sh _ _ h2,h3.mono st.sg⟩
  cases z:G1 a with
  |none=>rfl
  |some o=>
   have:=st.nw a h1 (by rw[z];exact λz=>nomatch z)
   rw[h2]at this;cases this
theorem Seq.items{x:D}{v:V}{ds:List D}(q:Seq X ad G H x v)(hG:Same G H)(e:items x=qv ds): ∃a vs,v= .ref a/\(x= .tup ds/\SqT X.K H a vs\/x= .lst ds/\SqL X.K H a vs)/\aJ X.K ad G ds vs:=by
 rcases q with q|⟨a,vs,ds',e1,e2,d,b,c⟩
 ·cases x with
  |tup _=>cases e;unfold Rep at q;obtain⟨a,vs,d,b,c⟩:=q;exact⟨a,vs,d,.inl ⟨rfl,hG.seqT b⟩,c⟩
  |lst _=>cases e;unfold Rep at q;obtain⟨a,vs,d,b,c⟩:=q;exact⟨a,vs,d,.inr ⟨rfl,hG.seq b⟩,c⟩
  |_=>cases e
 ·subst e1;cases e;exact⟨a,vs,e2,.inr ⟨rfl,SqL.of b⟩,c⟩
def vS(n:Nat)(i:Int):ixD n i=L2.ixN n i:=rfl
def Np(ha:MLk X ad a f)(hb:ME X ad b g)(hs:Aa b):ME X ad (.Subscript a b pos) (rIx f g):=by
 refine λt s z H Q I Y=>Y.el λG Z E hG C L hr=>?_
 refine Subscript_ (L2.thn (ha t s z H G Z _ Q E I hG C L hr) λv s1 l=>?_)
 obtain⟨x,J,G1,H1,I1,M,n,q1,k1⟩:=l;refine L2.thn (hb.thn I1 n.gh (C.step n) L k1) λu P l=>?_
 obtain⟨y,d2,U,H2,N,O,h,q2,k2⟩:=l;have A:Seq X ad U H2 J x:=Seq.step (X:=X) (ad:=ad) q1 h;unfold dIx at k2
 cases e:items J with
 |none=>
  rw[e]at k2;exact k2.elim
 |some q=>
  rw[e]at k2
  cases d2<;>try exact k2.elim
  rename_i i;unfold Rep at q2;subst q2;obtain⟨p,r,rfl,m,S⟩:=A.items h.gh e
  have c:RK X.K ad U H2 (match(ixD q.length i).bind λj=>q[j]? with|some d=>.ok d|none=>.bad) Q E:=k2
  cases B:(ixD q.length i).bind λj=>q[j]? with
  |none=>rw[B]at c;exact c.elim
  |some d=>
   rw[B]at c;obtain⟨j,W,e5⟩:=zBd B;obtain⟨w,e6,T⟩:=S.get e5
   have o:atI r i=qv w:=by
    unfold atI;rw[S.length, <-vS,W];exact e6
   rcases m with ⟨_,m⟩|⟨_,m⟩
   ·exact J2 a b t P z H2 _ _ v u Q N M O ⟨p,r,i,w,rfl,rfl,m,o,c.ok_now h.gh T⟩ (hs _ _)
   ·exact FZ a b t P z H2 _ _ v u Q N M O ⟨p,r,i,w,rfl,rfl,m,o,c.ok_now h.gh T⟩ (hs _ _)
def iO{Ex:cg}{s:Shared}{items:Array Value}{lo hi:Option Int}{Q:cg}(ht:IsTup s.heap t items)(hs:s.heap.IsSliceOf sl vl vu .none)(pl:IsPart vl lo)(pu:IsPart vu hi)(hw:HT.sIx items.size 0 lo=0/\HT.sIx items.size items.size hi=items.size)(h:Q (.ref t) s)(hsz:items.size<=sizeLine):wpAny (model prog w) A (getItem (.ref t) (.ref sl)) Q Ex s:=by
 obtain⟨d,c,b,f⟩:=id hs;have e:s.TypeIs (.ref sl) "slice":=⟨d,c,b⟩;unfold getItem
 try with_reducible refine wpAny_holding ?_
 first|refine aa (ae ?_)|skip
 refine aa (wpAny_sequenceKey ht.typeIs (by decide) ?_)
 refine aa (wpAny_callSpecial?_slot (name:=ox "__getitem__") ht.typeIs dw
  (wpAny_call_entry dw ht.typeIs entry_tuple_getitem ?_ (args_tuple_getitem _ _)))
 show wpAny _ _ (ef (.ref t) >>= _) _ _ s;refine aa (tupleItemsOf_ ht ?_);refine aa (wpAny_typeOf e ?_);rw[if_pos (by decide)]
 refine aa (HT.sliceApplied_gen hs pl pu ?_)
 have a:(((HT.sIx items.size 0 lo:Nat):Int)==0&&(1:Int)==1&&(HT.sIx items.size items.size hi-HT.sIx items.size 0 lo)==items.size)=qz:=by
  rw[hw.1,hw.2];simp
 show wpAny _ _ (if(((HT.sIx items.size 0 lo:Nat):Int)==0&&(1:Int)==1&&(HT.sIx items.size items.size hi-HT.sIx items.size 0 lo)==items.size)=qz then _ else _) _ _ s
 rw[if_pos a];unfold Builtin.Tuple.tupleIsExact;refine aa (m:=(do let z<-typeOf (.ref t);return z== .type "tuple")) (aa (wpAny_typeOf ht.typeIs (ae ?_)))
 rw[if_pos (by decide)]
 first
  |exact aa (wpAny_rule (aa (ae (ae ⟨_,rfl,ae h⟩))))
  |exact aa (wpAny_rule (ae ⟨_,rfl,ae h⟩))
  |exact aa (aa (wpAny_rule (ae (ae ⟨_,rfl,ae h⟩))))
  |skip
def vT: ∀{ds:List D} {vs:List V} (lo hi:Option Int),aJ X.K ad G ds vs->aJ X.K ad G (zH ds lo hi) (CB vs lo hi):=by
 intro ds vs lo hi r;unfold zH CB;rw[r.length];exact(r.drop _).take _
def OG(l u:Option Int)(n:Nat):d9 l u 1 n=(pw (cT n n u-cT n 0 l)).map λk=>cT n 0 l+k:=by
 have a: ∀(d:Nat) (v:Option Int),d<=n->(match v with|none=>(d:Int)|some i=>max 0 (min (if i<0 then i+n else i) (n:Int)))=((cT n d v:Nat):Int):=λd v c=>by
  cases v with
  |none=>rfl
  |some i=>
   show max 0 (min (if i<0 then i+n else i) (n:Int))=(((if i<0 then(i+n).toNat else min i.toNat n):Nat):Int)
   split<;>lia
 have e:d9 l u 1 n=sliceRange ((cT n 0 l:Nat):Int) ((cT n n u:Nat):Int) 1:=by
  rw[<-a 0 l (cb _), <-a n u (aj _)]
  cases l<;>cases u<;>rfl
 rw[e];unfold sliceRange
 have b:(if(1:Int) > 0 then(if((cT n 0 l:Nat):Int)<((cT n n u:Nat):Int)then(((cT n n u:Nat):Int)-((cT n 0 l:Nat):Int)+1-1)/1 else 0)else(if((cT n 0 l:Nat):Int) > ((cT n n u:Nat):Int)then(((cT n 0 l:Nat):Int)-((cT n n u:Nat):Int)-1-1)/(-1)else 0):Int).toNat=cT n n u-cT n 0 l:=by
  rw[if_pos (by decide)]
  split<;>lia
 show(pw (if(1:Int) > 0 then _ else _:Int).toNat).map _=_
 rw[b];refine i4 λk _=>?_
 show(((cT n 0 l:Nat):Int)+1*(k:Int)).toNat=_
 lia
theorem i5{α:Type}(xs:List α): ∀(m a:Nat),((pw m).map λk=>a+k).filterMap (xs[·]?)=(xs.drop a).take m
 |0,a=>by simp
 |m+1,a=>by
  rw[List.range_succ,List.map_append,List.filterMap_append,i5 xs m a,List.take_succ]
  congr 1
  show nl (xs[·]?) [a+m]=_
  rw[List.getElem?_drop]
  cases e:xs[a+m]? <;>simp[e]
def Aq(z:Str)(lo hi:Option Int):Txt.slice z lo hi=⟨(CT z.cps.toList lo hi).toArray⟩:=by
 have a:z.length=z.cps.toList.length:=by simp[Str.length]
 have d:((d9 lo hi 1 z.length).filterMap (z.cps[·]?))=CT z.cps.toList lo hi:=by
  rw[OG];unfold CT;rw[<-a, <-i5];refine congrArg (λf=>nl f _) (funext λk=>?_)
  simp
 unfold Txt.slice;split
 ·rename_i h
  have c:(d9 lo hi 1 z.length).length=z.length:=by simpa using h
  refine PySem.Str.ext' ?_;show z.cps=(CT z.cps.toList lo hi).toArray;rw[OG,ao,jy]at c;unfold CT;rw[<-a,c]
  have:cT z.length z.length hi<=z.length:=by
   unfold cT
   cases hi with
   |none=>exact aj _
   |some v=>simp only[];split<;>lia
  by_cases g:z.length=0
  ·have b:z.cps.toList=[]:=List.eq_nil_of_length_eq_zero (by rw[<-a];exact g)
   rw[b];simpa using b
  have e:cT z.length 0 lo=0:=by lia
  rw[e,List.drop_zero,a,List.take_length]
 ·rw[d]
def Nq(X:Cx)(x:V)(lo hi:Option Int)(H:Hp)(Q:VK):Prop:=(∃a vs,x= .ref a/\((SqT X.K H a vs/\(HT.sIx vs.length 0 lo=0/\HT.sIx vs.length vs.length hi=vs.length->Q (.ref a) H)/\∀p,H p=qw->Q (.ref p) (upd H p (.tup (CB vs lo hi))))\/
  (SqL X.K H a vs/\∀p,H p=qw->Q (.ref p) (upd H p (.lst (CB vs lo hi))))))\/∃z,x= .str z/\z.length<=LIM/\Q (.str ⟨(CT z.cps.toList lo hi).toArray⟩) H
def Ar(h:IsPart v o): ∃l:Option (Int×Tok),v=partValue l/\l.map (·.1)=o:=by
 cases h with
 |none=>exact⟨qw,rfl,rfl⟩
 |int i t=>exact⟨qv (i,t),rfl,rfl⟩
def Gp:SlR X (λx lo hi H Q=>∃z,x= .str z/\z.length<=LIM/\Q (.str ⟨(CT z.cps.toList lo hi).toArray⟩) H):=by
 intro r s p H x v o n lo hi y Q I g i f j q;obtain⟨z,rfl,m,q⟩:=q;obtain⟨t,rfl⟩:=(show ∃t,v=qi z t from g)
 obtain⟨l,rfl,rfl⟩:=Ar f;obtain⟨u,rfl,rfl⟩:=Ar j;obtain⟨e,b,a,d⟩:=i;refine⟨"str",_,F.slot_str_getitem.lookup,typeIs_str _ _ _,wpAny_getItem_str_slice (l:=l) (u:=u) (st:=qw) ⟨e,b,a,d⟩ rfl ?_⟩
 have c:z.length<=sizeLine:=ol m (by decide)
 refine post_val_or_str ⟨ol (Txt.slice_le z _ _) c,λh k=>?_⟩
 rw[<-Aq]at q;exact⟨.str _,H,I.tok k,⟨h,rfl⟩,q⟩
def Kw:SlR X (Nq X):=by
 intro t s o H x v m l f d u Q I g h e j q;obtain⟨a,c,rfl,⟨i,q1,q2⟩|⟨i,q⟩⟩|q:=q
 ·by_cases n:HT.sIx c.length 0 f=0/\HT.sIx c.length c.length d=c.length
  ·cases g;obtain⟨p,r,y,z⟩:=I.tuple i
   have b:p.toArray.size=c.length:=by rw[aw];exact r.length.symm
   refine⟨"tuple",_,dw.lookup,y.typeIs,?_⟩;refine iO y h e j (by rw[b];exact n) ⟨.ref a,H,I,rfl,q1 n⟩ (by rw[b];exact z)
  ·exact J1 t s o H _ v m l f d u Q I g h e j ⟨a,c,rfl,i,n,q2⟩
 ·exact F0 t s o H _ v m l f d u Q I g h e j ⟨a,c,rfl,i,q⟩
 ·exact Gp t s o H x v m l f d u Q I g h e j q
def vU{lo hi:Option Int}(q:Seq X ad G H x v)(hG:Same G H)(hr:RK X.K ad G H (J5 x lo hi) Q E):
  Nq X v lo hi H Q:=by
 cases x with
 |tup b=>
  rcases q with q|⟨_,_,_,z,_⟩
  ·unfold Rep at q;obtain⟨a,h,rfl,f,g⟩:=q;refine .inl ⟨a,h,rfl,.inl ⟨hG.seqT f,λe=>?_,λp j=>RK.tup_new (xs:=zH b lo hi) hr hG (vT lo hi g) j⟩⟩
   refine RK.ok_now (d:=.tup (zH b lo hi)) hr hG ?_
   have n:zH b lo hi=b:=by
    rw[g.length]at e
    have l:cT b.length 0 lo=0:=e.1
    have m:cT b.length b.length hi=b.length:=e.2
    unfold zH;rw[l,m];simp
   rw[n];unfold Rep;exact⟨a,h,rfl,f,g⟩
  ·cases z
 |lst b=>
  obtain⟨a,h,rfl,f,g⟩:=q.items hG (rfl:items (.lst b)=qv b);rcases f with ⟨z,_⟩|⟨_,f⟩
  ·cases z
  ·exact .inl ⟨a,h,rfl,.inr ⟨f,λp j=>RK.ow_new (xs:=zH b lo hi) hr hG (vT lo hi g) j⟩⟩
 |str z=>
  have c:RK X.K ad G H (if z.length<=LIM then .ok (.str ⟨(CT z.cps.toList lo hi).toArray⟩)else .bad) Q E:=hr
  by_cases i:z.length<=LIM
  ·rw[if_pos i]at c;rcases q with q|⟨_,_,_,w,_⟩
   ·unfold Rep at q;subst q;exact .inr ⟨z,rfl,i,c.ok_now hG eN⟩
   ·cases w
  ·rw[if_neg i]at c;exact c.elim
 |_=>exact az hr
def Kx(ha:MLk X ad a f)(hl:match l,fl with|none,qw=>True|some e,qv k=>ME X ad e k|_,_=>False)(hu:match u,fu with|none,qw=>True|some e,qv k=>ME X ad e k|_,_=>False):
  ME X ad (.Subscript a (.Slice l u qw p2) pos) (t9 f fl fu):=by
 refine λm s p H Q I h9=>h9.el λG ρ E hG C J hr=>?_
 -- the value first
 have Y: ∀(k:D->R),RK X.K ad G H ((f ρ).bind k) Q E->(∀(m:ci) (S:Shared) (x:V) (d:D) (z o:Hp),Inv X m p o S->Step G H z o->Seq X ad z o d x->RK X.K ad z o (k d) Q E->
   wpAny (model X.prog X.w) X.A (evalPart l X.env) (λr P=>wpAny (model X.prog X.w) X.A (evalPart u X.env) (λn i=>∃W U H3,Inv X m p H3 i/\IsPart r W/\IsPart n U/\
    Nq X x W U H3 Q) X.xe P) X.xe S)->
   wpAny (model X.prog X.w) X.A (eval (.Subscript a (.Slice l u qw p2) pos) X.env) (EP X m p Q) X.xe s:=λk hk go=>by
  refine Subscript_ (L2.thn (ha m s p H G ρ k Q E I hG C J hk) λv S c=>?_)
  obtain⟨x,d1,z,o,B,r1,g,q1,k1⟩:=c;refine wpAny_Slice (L2.thn (go m S x d1 z o B g q1 k1) λr P h2=>L2.thn h2 λn i c=>?_)
  obtain⟨W,U,H3,Z,pl,pu,q3⟩:=c;rw[evalPart_none];refine ae ?_;have I4:Inv X m p H3 {i with heap:=i.heap.push {cls:=.type "slice",data:=.fields #[r,n,.none]} }:=Z.kept (t':=i.toks) λb ob q=>af _ q
  obtain⟨T,id,hT,ht,hg⟩:=Kw m {i with heap:=i.heap.push {cls:=.type "slice",data:=.fields #[r,n,.none]} } p H3 x v r n W U i.heap.objs.size Q I4 r1 (Heap.IsSliceOf.new ..) pl pu q3
  show wpAny (model X.prog X.w) X.A (subscriptTail a (.Slice l u qw p2) v (.ref i.heap.objs.size)) (EP X m p Q) X.xe {i with heap:=i.heap.push {cls:=.type "slice",data:=.fields #[r,n,.none]} }
  exact tail_any (ops:=[.ref i.heap.objs.size,v]) ht hT hg (by with_unfolding_all rfl)
 unfold t9 at hr;refine Y _ hr λm S x d z o B g q1 k1=>?_
 cases l with
 |none=>
  cases fl with
  |some _=>exact hl.elim
  |none=>
   rw[evalPart_none];refine ae ?_
   cases u with
   |none=>
    cases fu with
    |some _=>exact hu.elim
    |none=>
     rw[evalPart_none];exact ae ⟨qw,qw,o,B,.none,.none,vU q1 g.gh k1⟩
   |some e=>
    cases fu with
    |none=>exact hu.elim
    |some k=>
     rw[evalPart_some];refine L2.thn (ME.thn hu B g.gh (C.step g) J k1) λn P c=>?_
     obtain⟨y,O,G2,H2,M,N,h,q2,k2⟩:=c
     cases O<;>try exact az k2
     rename_i j;unfold Rep at q2;subst q2;obtain⟨t,rfl⟩:=N;exact⟨qw,qv j,H2,M,.none,.int j t,vU (Seq.step q1 h) h.gh k2⟩
 |some e=>
  cases fl with
  |none=>exact hl.elim
  |some k=>
   cases u with
   |none=>
    cases fu with
    |some _=>exact hu.elim
    |none=>
     rw[evalPart_some];refine L2.thn (ME.thn hl B g.gh (C.step g) J k1) λn P c=>?_
     obtain⟨y,O,G2,H2,M,N,h,q2,k2⟩:=c
     cases O<;>try exact az k2
     rename_i j;unfold Rep at q2;subst q2;obtain⟨t,rfl⟩:=N;rw[evalPart_none];exact ae ⟨qv j,qw,H2,M,.int j t,.none,vU (Seq.step q1 h) h.gh k2⟩
   |some e'=>
    cases fu with
    |none=>exact hu.elim
    |some k'=>
     rw[evalPart_some];refine L2.thn (ME.thn hl B g.gh (C.step g) J k1) λn P c=>?_
     obtain⟨y,O,G2,H2,M,N,h,q2,k2⟩:=c
     cases O<;>try exact az k2
     rename_i j;unfold Rep at q2;subst q2;obtain⟨t,rfl⟩:=N;rw[evalPart_some];refine L2.thn (ME.thn hu M h.gh ((C.step g).step h) J k2) λn i c=>?_
     obtain⟨y3,d3,G3,H3,Z,r3,L,q3,k3⟩:=c
     cases d3<;>try exact az k3
     rename_i j';unfold Rep at q3;subst q3;obtain⟨t',rfl⟩:=r3;exact⟨qv j,qv j',H3,Z,.int j t,.int j' t',vU (Seq.step (Seq.step q1 h) L) L.gh k3⟩
end
section
variable{X:Cx}{ad:Ad}{cf:ci}{s:Shared}{σ:St}{H G:Hp}{ρ:Rho}{Q:VK}{E:Nat->Hp->Prop}{p:Pos}{a b c:Expr}{f g h:F}
def RK.impE{K:og}{r:R}{E E':Nat->Hp->Prop}(h:RK K ad G H r Q E)(k: ∀c H',E c H'->E' c H'):RK K ad G H r Q E':=by
 cases r with
 |ok d=>exact h
 |ow b=>exact h
 |ex c=>exact λa H' st=>k c H' (h a H' st)
 |bad=>exact h
def LK(X:Cx)(ad:Ad)(G H:Hp)(r:R)(Q:VK)(E:Nat->Hp->Prop):Prop:=match r with
 |.ok d=>∀v G' H',Step G H G' H'->Seq X ad G' H' d v->Q v H'
 |.ow xs=>∀p vs G' H',Step G H G' H'->H p=qw->G' p=qw->H' p=qv (.lst vs)->aJ X.K ad G' xs vs->Q (.ref p) H'
 |.ex c=>∀G' H',Step G H G' H'->E c H'
 |.bad=>False
def tL(X:Cx)(ad:Ad)(f:F):TE:=λσ H Q=>∃G ρ E,Same G H/\SL X.K ad G H ρ σ/\XP X ad σ E/\LK X ad G H (f ρ) Q E
abbrev ML(X:Cx)(ad:Ad)(e:Expr)(f:F):Prop:=PE X e (tL X ad f)
def LK.rk(h:LK X ad G H r Q E):RK X.K ad G H r Q E:=by
 cases r with
 |ok d=>exact λv b a st q=>h v b a st (.inl q)
 |ow e=>exact h
 |ex c=>exact h
 |bad=>exact h
def ME.ml(ha:ME X ad a f):ML X ad a f:=PE.imp ha λi H Q b=>by obtain⟨G,g,E,d,c,h,e⟩:=b;exact⟨G,g,E,d,c,h,e.rk⟩
def As(hN:X.N[i]? =qv x)(hv:Vis X.env.scope x)(hd:(x==("__debug__":Str))=q4)(hcd:(x==("__classdict__":Str))=q4):ML X ad (.Name x pos) (aI i):=by
 rintro j s h H Q I ⟨G,t,E,l,g,u,a⟩;unfold aI at a
 cases e:t[i]? with
 |none=>
  rw[e]at a;exact a.elim
 |some r=>
  rw[e]at a
  cases r with
  |no=>exact a.elim
  |dc f=>exact a.elim
  |sd f=>exact a.elim
  |rk _ _=>exact a.elim
  |ow o=>
   obtain⟨p,n,b,c,q,m⟩:=g.ow e;exact b9 hN hv hd hcd j s h H Q I ⟨.ref p,b,a (.ref p) G H (Step.refl l) (.inr ⟨p,n,o,rfl,rfl,c,q,m⟩)⟩
  |sh d=>
   obtain⟨w,b,c⟩:=g.sh e;exact b9 hN hv hd hcd j s h H Q I ⟨w,b,a w G H (Step.refl l) (.inl c)⟩
def ML.lk(ha:ML X ad a f):MLk X ad a f:=by
 intro x s t H G o k Q E I y r z i
 cases e:f o with
 |ok d=>
  rw[e]at i;refine L2.thn (ha x s t H (λv b=>∃g,Step G H g b/\Seq X ad g b d v) I ⟨G,o,E,y,r,z,by rw[e];exact λv g b st q=>⟨g,st,q⟩⟩) λu A h=>?_
  obtain⟨v,b,l,j,g,st,q⟩:=h;exact⟨v,d,g,b,l,j,st,q,RK.step i st⟩
 |ow B=>
  rw[e]at i;refine L2.thn (ha x s t H (λv b=>∃g,Step G H g b/\Rep X.K ad g (.lst B) v) I ⟨G,o,E,y,r,z,by rw[e];exact λp J g b st n m C q=>cS st n m C q⟩) λu A h=>?_
  obtain⟨v,b,l,j,g,st,q⟩:=h;exact⟨v,.lst B,g,b,l,j,st,.inl q,RK.step i st⟩
 |ex c=>
  rw[e]at i;refine L2.thn (ha x s t H (λv b=>False) I ⟨G,o,E,y,r,z,by rw[e];exact i⟩) λu A h=>by obtain⟨v,b,l,j,q⟩:=h;exact q.elim
 |bad=>
  rw[e]at i;exact az i
def uF{σ:St}{H:Hp}{Q Q':VK}(hG:Same G H)(hS:SL X.K ad G H ρ σ)(hx:XP X ad σ E)(hr:RK X.K ad G H ((f ρ).bind k) Q E)(q: ∀v d G1 H1,Step G H G1 H1->Seq X ad G1 H1 d v->RK X.K ad G1 H1 (k d) Q E->Q' v H1):tL X ad f σ H Q':=by
 refine⟨G,ρ,E,hG,hS,hx,?_⟩
 cases e:f ρ with
 |ok d=>
  rw[e]at hr;exact λv G1 H1 st r=>q v d G1 H1 st r (RK.step hr st)
 |ow j=>
  rw[e]at hr;intro p i G1 H1 st n m g r;obtain⟨h,a,b⟩:=cS (X:=X) (ad:=ad) st n m g r;exact q _ _ h H1 a (.inl b) (RK.step hr a)
 |ex c=>
  rw[e]at hr;exact hr
 |bad=>
  rw[e]at hr;exact hr
def oW:mX [f] ρ k=(f ρ).bind λx=>k [x]:=by
 unfold mX args
 cases f ρ<;>rfl
def BOp(X:Cx)(ad:Ad)(fv:Value)(r:Fn):Prop:=
 ∀(cf:ci) (s:Shared) (σ:St) (H G:Hp) (x:D) (v:V) (u:Value) (Q:VK) (E:Nat->Hp->Prop),Inv X cf σ H s->Same G H->Seq X ad G H x v->bG v u->RK X.K ad G H (r [x]) Q E->
  wpAny (model X.prog X.w) X.A (call fv [u]) (EP X cf σ Q) X.xe s
def iP{id:String}(ho:BOp X ad (.builtin id) r)(hg:L2.Gl X x)(hm:X.mg x=qw)(hv:bootBuiltins x=qv (.builtin id))(ha:ML X ad a f)(hn:x≠"__name__")(hdb:(x==("__debug__":Str))=q4)(he:starEach [a] X.env=(q4,eval a X.env)::starEach [] X.env):ME X ad (.Call (.Name x p) [a] [] pos) (aB r [f]):=by
 rintro i s h H Q I ⟨G,B,E,y,l,z,e⟩;refine wpAny_Call_Name_kw (gB I hg hm hv ?_ hn hdb);unfold aB at e;rw[oW]at e;refine dy (L2.thn (b8 ha cZ he pos i s h H (λg c=>∃v d b,g=[v]/\Step G H b c/\Seq X ad b c d v/\RK X.K ad b c (r [d]) Q E) I ?_) λA o ⟨g,c,t,m,v,d,b,j,st,q,k⟩=>?_) he rfl
 ·exact uF y l z e λv d b c st q k=>⟨v,d,b,rfl,st,q,k⟩
 ·subst j;obtain⟨u,rfl,n⟩:=mU m;exact ho i o h c b d v u Q E t st.gh q n k
def vV(ho:BOp X ad (.type T) r)(hg:L2.Gl X x)(hm:X.mg x=qw)(hv:bootBuiltins x=qv (.type T))(ha:ML X ad a f)(hn:x≠"__name__")(hdb:(x==("__debug__":Str))=q4)(he:starEach [a] X.env=(q4,eval a X.env)::starEach [] X.env):ME X ad (.Call (.Name x p) [a] [] pos) (aB r [f]):=by
 rintro i s h H Q I ⟨G,B,E,y,l,z,e⟩;refine wpAny_Call_Name_kw (gB I hg hm hv ?_ hn hdb);unfold aB at e;rw[oW]at e;refine d8 (L2.thn (b8 ha cZ he pos i s h H (λg c=>∃v d b,g=[v]/\Step G H b c/\Seq X ad b c d v/\RK X.K ad b c (r [d]) Q E) I ?_) λA o ⟨g,c,t,m,v,d,b,j,st,q,k⟩=>?_) he rfl
 ·exact uF y l z e λv d b c st q k=>⟨v,d,b,rfl,st,q,k⟩
 ·subst j;obtain⟨u,rfl,n⟩:=mU m;exact ho i o h c b d v u Q E t st.gh q n k
def Au:BOp X ad (.builtin "len") iB:=by
 intro j s i H G x v u Q E I f q h m
 have a:RK X.K ad G H (match items x with|some xs=>.ok (.int xs.length)|none=>Ow x) Q E:=m
 cases e:items x with
 |none=>
  rw[e]at a
  cases x with
  |str z=>
   have b:RK X.K ad G H (if z.length<=100000 then .ok (.int z.length)else .bad) Q E:=a
   by_cases c:z.length<=100000
   ·rw[if_pos c]at b;rcases q with q|⟨_,_,_,y,_⟩
    ·unfold Rep at q;subst q;exact qL j s i H _ [u] Q I (.cons h .nil) ⟨_,rfl,ol c (by decide),b.ok_now f bF⟩
    ·cases y
   ·rw[if_neg c]at b;exact b.elim
  |_=>exact az a
 |some o=>
  rw[e]at a;obtain⟨p,d,rfl,n,l⟩:=q.items f e;have g:SqL X.K H p d\/SqT X.K H p d:=n.elim (λz=>.inr z.2) λz=>.inl z.2
  refine qK j s i H [.ref p] [u] Q I (.cons h .nil) ⟨p,d,rfl,g,?_⟩;rw[l.length];exact a.ok_now f bF
def Gq:BOp X ad (.type "int") J6:=by
 intro j s i H G x v u Q E I g q e b
 cases x<;>try exact az b
 ·rcases q with q|⟨_,_,_,z,_⟩
  ·unfold Rep at q;subst q;exact qD j s i H _ [u] Q I (.cons e .nil) (.inr ⟨_,rfl,b.ok_now g bF⟩)
  ·cases z
 ·rcases q with q|⟨_,_,_,z,_⟩
  ·unfold Rep at q;subst q;exact qD j s i H _ [u] Q I (.cons e .nil) (.inl ⟨_,rfl,b.ok_now g bF⟩)
  ·cases z
 ·rename_i x;rcases q with q|⟨_,_,_,z,_⟩
  ·unfold Rep at q;subst q;obtain⟨t,rfl⟩:=(show ∃t,u=qi x t from e)
   have a:RK X.K ad G H (match x.cps.toList with|[c]=>if 48<=c/\c<58 then .ok (.int ((c-48:Nat):Int))else .bad|_=>.bad) Q E:=b
   split at a
   ·rename_i c l
    by_cases h:48<=c/\c<58
    ·rw[if_pos h]at a;obtain⟨d,m,rfl⟩: ∃d,d<10/\c=48+d:=⟨c-48,by lia,by lia⟩
     have f:x=⟨#[48+d]⟩:=PySem.Str.ext' (by rw[<-Array.toList_inj];exact l)
     subst f
     have n:PySem.intText? ⟨#[48+d]⟩=qv (((48+d-48:Nat):Nat):Int):=(by decide+kernel: ∀d:Fin 10,PySem.intText? ⟨#[48+d.val]⟩=qv (((48+d.val-48:Nat):Nat):Int)) ⟨d,m⟩
     exact PySem.W.KIN.call_text n (by show 1<=640;decide) ⟨.int _,H,I.tok _,⟨_,rfl⟩,a.ok_now g bF⟩
    ·rw[if_neg h]at a;exact a.elim
   ·exact a.elim
  ·cases z
def Gr:BOp X ad (.type "str") Mm:=by
 intro j s h H G x v u Q E I l q g c
 cases x<;>try exact az c
 rename_i i;rcases q with q|⟨_,_,_,z,_⟩
 ·unfold Rep at q;subst q
  have a:RK X.K ad G H (if 0<=i/\i<10 then .ok (.str ⟨#[48+i.toNat]⟩)else .bad) Q E:=c
  by_cases b:0<=i/\i<10
  ·rw[if_pos b]at a;obtain⟨d,f,rfl⟩: ∃d:Nat,d<10/\i=(d:Int):=⟨i.toNat,by lia,by lia⟩
   have e:(PySem.Str.ofString (toString ((d:Nat):Int)))=⟨#[48+((d:Nat):Int).toNat]⟩:=(by decide+kernel: ∀d:Fin 10,(PySem.Str.ofString (toString ((d.val:Nat):Int)))=⟨#[48+((d.val:Nat):Int).toNat]⟩) ⟨d,f⟩
   refine qE j s h H _ [u] Q I (.cons g .nil) ⟨_,rfl,?_,by rw[e];exact a.ok_now l eN⟩
   exact(by decide+kernel: ∀d:Fin 10,((d.val:Nat):Int).natAbs.log2<1920) ⟨d,f⟩
  ·rw[if_neg b]at a;exact a.elim
 ·cases z
def C6:BOp X ad (.type "list") uB:=by
 intro m s j H G x v u Q E I d q g i
 have a:RK X.K ad G H (match items x with|some xs=>.ow xs|none=>.bad) Q E:=i
 cases e:items x with
 |none=>rw[e]at a;exact a.elim
 |some o=>
  rw[e]at a;obtain⟨p,b,rfl,n,h⟩:=q.items d e;have c:SqL X.K H p b\/SqT X.K H p b:=n.elim (λz=>.inr z.2) λz=>.inl z.2
  exact qM m s j H [.ref p] [u] Q I (.cons g .nil) ⟨p,b,rfl,c,λl f=>a.ow_new d h f⟩
def Av:BOp X ad (.type "tuple") eV:=by
 intro i s h H G x v u Q E I d q g n
 have a:RK X.K ad G H (match items x with|some xs=>.ok (.tup xs)|none=>.bad) Q E:=n
 cases e:items x with
 |none=>rw[e]at a;exact a.elim
 |some o=>
  rw[e]at a;obtain⟨p,f,rfl,b,m⟩:=q.items d e;rcases b with ⟨c,b⟩|⟨c,b⟩
  ·refine iY i s h H [.ref p] [u] Q I (.cons g .nil) ⟨p,f,rfl,.inr ⟨b,a.ok_now d ?_⟩⟩;rcases q with q|⟨_,_,_,z,_⟩
   ·rw[c]at q;exact q
   ·rw[c]at z;cases z
  ·exact iY i s h H [.ref p] [u] Q I (.cons g .nil) ⟨p,f,rfl,.inl ⟨b,λl j=>a.tup_new d m j⟩⟩
theorem lQ: ∀{ds:List D} {ns:List Int} {vs:List V},dX ds=qv ns->aJ X.K ad G ds vs->vs=ns.map V.int
 |[],ns,vs,e,r=>by
  cases e;unfold aJ at r;exact r
 |d::ds,ns,vs,e,r=>by
  cases d<;>try (unfold dX at e;cases e)
  rename_i i;unfold dX at e;obtain⟨g,b,c⟩:=zMd e;subst c;unfold aJ at r;obtain⟨v,h,rfl,a,f⟩:=r;unfold Rep at a;subst a;rw[lQ b f];rfl
theorem jN: ∀{ds:List D} {ns:List Bool} {vs:List V},eC ds=qv ns->aJ X.K ad G ds vs->vs=ns.map V.bl
 |[],ns,vs,e,r=>by
  cases e;unfold aJ at r;exact r
 |d::ds,ns,vs,e,r=>by
  cases d<;>try (unfold eC at e;cases e)
  rename_i i;unfold eC at e;obtain⟨g,b,c⟩:=zMd e;subst c;unfold aJ at r;obtain⟨v,h,rfl,a,f⟩:=r;unfold Rep at a;subst a;rw[jN b f];rfl
def i6{A:Around}(hh:A.handled=qw)(I:Inv X cf σ H s){p:Addr}{vs:List V}(hq:SqL X.K H p vs\/SqT X.K H p vs){Ex:cg}{Q':cg}(k: ∀(its:List Value) (s2:Shared) (I':Addr) (fp wr:List Addr) (Stt:Nat->Heap->Prop),bQ vs its->Walks X.prog X.w A I' fp wr its.length (λi v=>its[i]? =qv v) Stt->Stt 0 s2.heap->(∀b∈fp,b<s2.heap.objs.size)->s2.os=s.os->s2.gens=s.gens->s2.drawn=s.drawn->
   (∀b o,s.heap.get? b=qv o->b∉wr)->(∀b o,s.heap.get? b=qv o->s2.heap.get? b=qv o)->Q' (.ref I') s2):wpAny (model X.prog X.w) A (pyIter (.ref p)) Q' Ex s:=by
 rcases hq with hq|hq
 ·obtain⟨its,j,g,_⟩:=I.list hq;have a:p<s.heap.objs.size:=by obtain⟨o,n,e,_⟩:=g;exact ah e
  refine wpAny_pyIter_list g.isList (k its _ s.heap.objs.size [s.heap.objs.size,p] [s.heap.objs.size] (λi h=>h.IsListIter s.heap.objs.size p i/\h.IsList p its.toArray) j ?_ (And.intro ⟨_,ag _ rfl,rfl,rfl⟩ ?_) ?_ rfl rfl rfl ?_ ?_)
  ·have W:=Walks.list (prog:=X.prog) (w:=X.w) hh s.heap.objs.size p (bj a) its.toArray;simpa using W
  ·obtain⟨o,n,e,c,d⟩:=g;exact⟨o,af _ e,c,n,d.2⟩
  ·intro b f;rcases au.mp f with rfl|f
   ·rw[ai];exact kn _
   ·have:b=p:=by simpa using f
    subst this;rw[ai];exact jz a
  ·intro b o e f
   have:b=s.heap.objs.size:=by simpa using f
   subst this;exact absurd (ah e) (nv _)
  ·exact λb o e=>af _ e
 ·obtain⟨its,j,g,_⟩:=I.tuple hq;have a:p<s.heap.objs.size:=g.lt;refine wpAny_pyIter_tuple (show s.heap.IsTuple p its.toArray from g) (k its _ s.heap.objs.size [s.heap.objs.size,p] [s.heap.objs.size] (λi h=>h.IsTupleIter s.heap.objs.size p i/\h.IsTuple p its.toArray) j ?_ (And.intro ⟨_,ag _ rfl,rfl,rfl⟩ ?_) ?_ rfl rfl rfl ?_ ?_)
  ·have W:=Walks.tuple (prog:=X.prog) (w:=X.w) hh s.heap.objs.size p (bj a) its.toArray;simpa using W
  ·obtain⟨o,e,c⟩:=g;exact⟨o,af _ e,c⟩
  ·intro b f;rcases au.mp f with rfl|f
   ·rw[ai];exact kn _
   ·have:b=p:=by simpa using f
    subst this;rw[ai];exact jz a
  ·intro b o e f
   have:b=s.heap.objs.size:=by simpa using f
   subst this;exact absurd (ah e) (nv _)
  ·exact λb o e=>af _ e
end
section
variable{X:Cx}{ad:Ad}{cf:ci}{s:Shared}{σ:St}{H G:Hp}{Q:VK}{E:Nat->Hp->Prop}{a b c:Expr}{f:F}
def _root_.L2.Inv.moved{wr:List Addr}{s2 s':Shared}(I:Inv X cf σ H s)(k1: ∀b o,s.heap.get? b=qv o->s2.heap.get? b=qv o)(k2: ∀b o,s.heap.get? b=qv o->b∉wr)(e1:s2.os=s.os)(e2:s2.gens=s.gens)(e3:s2.drawn=s.drawn)
  (m:Moved wr (λa b=>b=a) s2 s'):Inv X cf σ H s':=by
 have e:s'={s with heap:=s'.heap,toks:=s'.toks}:=by
  obtain⟨i,n,l,g,h⟩:=s';obtain⟨p,c,d,f,j⟩:=m
  simp only at c d f ⊢
  rw[c,d,f,e1,e2,e3]
 rw[e];exact I.kept λb o q=>m.heap b o (k2 b o q) (k1 b o q)
def EO{ns:List Int}{its:List Value}(r:bQ (ns.map V.int) its){i:Nat}{v:Value}(e:its[i]? =qv v): ∃t,v= .int (ns.getD i 0) t:=by
 have c:=r.length;have g:i<its.length:=(ax.mp e).1;have a:i<ns.length:=by rw[ao]at c;lia
 have d:(ns.map V.int)[i]? =qv (V.int ns[i]):=by simp[a]
 obtain⟨u,b,t,f⟩:=r.get d;rw[e]at b;cases b;refine⟨t,?_⟩;rw[f];simp[List.getD,a]
def Gu(hh:X.A.handled=qw):BOp X ad (.builtin "sum") zI:=by
 intro Y s σ H G x v u Q E I o q t J
 have b:RK X.K ad G H (match(items x).bind dX with|some xs=>.ok (.int xs.sum)|none=>.bad) Q E:=J
 cases e:items x with
 |none=>rw[e]at b;exact b.elim
 |some n=>
  rw[e]at b
  have a:RK X.K ad G H (match dX n with|some xs=>.ok (.int xs.sum)|none=>.bad) Q E:=b
  cases f:dX n with
  |none=>rw[f]at a;exact a.elim
  |some l=>
   rw[f]at a;obtain⟨p,h,rfl,y,M⟩:=q.items o e;have d:SqL X.K H p h\/SqT X.K H p h:=y.elim (λz=>.inr z.2) λz=>.inl z.2
   cases (show u=qj p from t)
   have ev:=lQ f M;subst ev;refine call_sum_walkAnyS (i6 (A:=X.A.in1) hh I d λc s2 L S C r j W st g O T U B N=>?_)
   refine⟨L,S,C,_,c.length,_,_,λi=>l.getD i 0,rfl,W.toS,st,g,λi v e=>EO j e,λZ P m=>?_⟩
   refine⟨.int l.sum,H,I.moved N B O T U m,⟨P,?_⟩,a.ok_now o bF⟩;rw[preSum_getD, <-j.length,ao,List.take_length]
def Ky{ns:List Bool}{its:List Value}(r:bQ (ns.map V.bl) its){i:Nat}{v:Value}(e:its[i]? =qv v):v= .bool (ns.getD i q4):=by
 have c:=r.length;have h:i<its.length:=(ax.mp e).1;have a:i<ns.length:=by rw[ao]at c;lia
 have d:(ns.map V.bl)[i]? =qv (V.bl ns[i]):=by simp[a]
 obtain⟨u,b,g⟩:=r.get d;rw[e]at b;cases b
 have f:v= .bool ns[i]:=g
 rw[f];simp[List.getD,a]
def Aw(ns:List Bool):(pw ns.length).all (λi=>ns.getD i q4)=ns.all id:=by
 induction ns with
 |nil=>rfl
 |cons x a b=>
  rw[bu,gy,List.all_cons,List.all_map,List.all_cons]
  have:(pw a.length).all ((λi=>(x::a).getD i q4) ∘ Nat.succ)=a.all id:=by
   rw[<-b];rfl
  rw[this];rfl
def Ax(ns:List Bool):(pw ns.length).any (λi=>ns.getD i q4)=ns.any id:=by
 induction ns with
 |nil=>rfl
 |cons x a b=>
  rw[bu,gy,n4,List.any_map,n4]
  have:(pw a.length).any ((λi=>(x::a).getD i q4) ∘ Nat.succ)=a.any id:=by
   rw[<-b];rfl
  rw[this];rfl
def Gv(hh:X.A.handled=qw):BOp X ad (.builtin "all") EA:=by
 intro cf s σ H G x v u Q E I l q o J
 have b:RK X.K ad G H (match(items x).bind eC with|some xs=>.ok (.bl (xs.all id))|none=>.bad) Q E:=J
 cases e:items x with
 |none=>rw[e]at b;exact b.elim
 |some j=>
  rw[e]at b
  have a:RK X.K ad G H (match eC j with|some xs=>.ok (.bl (xs.all id))|none=>.bad) Q E:=b
  cases f:eC j with
  |none=>rw[f]at a;exact a.elim
  |some N=>
   rw[f]at a;obtain⟨p,g,rfl,t,M⟩:=q.items l e;have d:SqL X.K H p g\/SqT X.K H p g:=t.elim (λz=>.inr z.2) λz=>.inl z.2
   cases (show u=qj p from o)
   have ev:=jN f M;subst ev;refine call_all_walkS (i6 (A:=X.A.in1) hh I d λc s2 L T B n h W st S P U Y y O=>?_)
   refine⟨L,T,B,_,c.length,_,_,λi=>N.getD i q4,rfl,W.toS,st,?_,λC m=>?_⟩
   ·intro i v C Q' E' Z r;rw[Ky h Z];exact wpAny_truthy_bool r
   ·refine⟨.bl _,H,I.moved O y P U Y m,?_,a.ok_now l bS⟩;rw[<-h.length,ao,Aw];rfl
def Gw(hh:X.A.handled=qw):BOp X ad (.builtin "any") Nb:=by
 intro cf s σ H G x v u Q E I l q o J
 have b:RK X.K ad G H (match(items x).bind eC with|some xs=>.ok (.bl (xs.any id))|none=>.bad) Q E:=J
 cases e:items x with
 |none=>rw[e]at b;exact b.elim
 |some j=>
  rw[e]at b
  have a:RK X.K ad G H (match eC j with|some xs=>.ok (.bl (xs.any id))|none=>.bad) Q E:=b
  cases f:eC j with
  |none=>rw[f]at a;exact a.elim
  |some N=>
   rw[f]at a;obtain⟨p,g,rfl,t,M⟩:=q.items l e;have d:SqL X.K H p g\/SqT X.K H p g:=t.elim (λz=>.inr z.2) λz=>.inl z.2
   cases (show u=qj p from o)
   have ev:=jN f M;subst ev;refine call_any_walkS (i6 (A:=X.A.in1) hh I d λc s2 L T B n h W st S P U Y y O=>?_)
   refine⟨L,T,B,_,c.length,_,_,λi=>N.getD i q4,rfl,W.toS,st,?_,λC m=>?_⟩
   ·intro i v C Q' E' Z r;rw[Ky h Z];exact wpAny_truthy_bool r
   ·refine⟨.bl _,H,I.moved O y P U Y m,?_,a.ok_now l bS⟩;rw[<-h.length,ao,Ax];rfl
def CF(K:og)(ad:Ad)(n:Nat)(F:Fn):Sp:=λvs H Q E=>∃G ds,Same G H/\aJ K ad G ds vs/\ds.length=n/\RK K ad G H (F ds) Q (λc H'=>E (.ref (ad.cls c)) qw H')
def oX{f:Addr}{E:XK}(F:FnOk X.prog X.w X.K X.mg X.base CX k f fd ps sp)(hr:Room k X.A)(hb:fB X.K fd ps [])(I:Inv X cf σ H s)(r:bQ vs us)(h:sp vs H Q E)(hx: ∀e s',CX X.stack H s E e s'->X.xe e s'):wpAny (model X.prog X.w) X.A (call (.ref f) us) (EP X cf σ Q) X.xe s:=by
 have b:(us++[]).length=ps.length:=by rw[mf, <-r.length];exact F.len _ _ _ _ h
 refine wpAny_call (codeAny_mono (F.run X.A X.stack s H ⟨us,[]⟩ us vs Q E hr I.env0 (by have:=hb s us I.kIn b;rwa [mf]at this) r h) λr s' a=>?_)
 cases r with
 |error e=>exact hx e s' a
 |ok c=>
  cases c with
  |ret u=>exact I.after a
  |next=>exact az a
  |brk=>exact az a
  |cont=>exact az a
structure FnGood(X:Cx)(ad:Ad)(k:Nat)(x:Str)(n:Nat)(F:Fn)(f:Addr):Prop where
 mg:X.mg x=qv (.ref f)
 kp:ni X.K (.ref f)=qz
 ok: ∃fd ps,FnOk X.prog X.w X.K X.mg X.base (CXe X.prog X.w) k f fd ps (CF X.K ad n F)/\fB X.K fd ps []
def Ay{F:Fn}{f:Addr}(T:FnGood X ad k x n F f)(hr:Room k X.A)(I:Inv X cf σ H s)(hG:Same G H)(hx:XP X ad σ E)(r:bQ vs us)(rq:aJ X.K ad G ds vs)(hl:ds.length=n)(h:RK X.K ad G H (F ds) Q E):wpAny (model X.prog X.w) X.A (call (.ref f) us) (EP X cf σ Q) X.xe s:=by
 obtain⟨i,l,b,g⟩:=T.ok;exact oX (E:=xk ad E) b hr g I r ⟨G,ds,hG,rq,hl,h.impE λc j e=>⟨c,rfl,e⟩⟩ λe d a=>hx cf H s e d I a
def Gx{F:Fn}{f:Addr}(T:FnGood X ad k x n F f)(hr:Room k X.A)(hg:L2.Gl X x)(hdb:(x==("__debug__":Str))=q4)(ha:MA X ad (a::es) fs)(hn:fs.length=n)(he:starEach (a::es) X.env=(q4,eval a X.env)::starEach es X.env)(hpl:(backTo pos (starEach es X.env)).any (·.1)=q4):ME X ad (.Call (.Name x p) (a::es) [] pos) (aB F fs):=by
 refine λt s o H Q I q=>q.el λG z E u m l i=>?_
 refine wpAny_Call_Name_kw (gA I hg T.mg ?_ hdb)
 refine jh (h₀:=X.base) I.ok.mod.kin T.kp (L2.thn (ha pos t s o H (λg d=>∃b c,Step G H c d/\aJ X.K ad c b g/\b.length=fs.length/\RK X.K ad c d (F b) Q E) I
  (Go u m l i λg b c d st h e k=>⟨b,c,st,h,e,k⟩)) λy v ⟨g,d,j,r,b,c,st,h,e,k⟩=>⟨j.kIn,?_⟩) he hpl
 exact Ay T hr j st.gh l r h (e.trans hn) k
structure FnAt(X:Cx)(ad:Ad)(k:Nat)(n:Nat)(F:Fn)(f:Addr):Prop where
 kp:ni X.K (.ref f)=qz
 ok: ∃fd ps,FnOk X.prog X.w X.K X.mg X.base (CXe X.prog X.w) k f fd ps (CF X.K ad n F)/\fB X.K fd ps []
end
noncomputable def tV(cells:List (Str×Addr)):List (Str×NameKind)->List (Str×Addr)->List (Str×Addr)
 |[],acc=>acc
 |(x,k)::r,acc=>tV cells r (if k== .free then(x,(cells.lookup x).getD 0)::acc else acc)
theorem oY{cells:List (Str×Addr)}: ∀{ns:List (Str×NameKind)} {acc:List (Str×Addr)} {x:Str} {c:Addr},(tV cells ns acc).lookup x=qv c->(∃k,(x,k)∈ns/\k= .free/\c=(cells.lookup x).getD 0)\/acc.lookup x=qv c
 |[],acc,x,c,h=>.inr h
 |(y,k)::r,acc,x,c,h=>by
  rcases oY (ns:=r) h with ⟨b,g,d,f⟩|h
  ·exact .inl ⟨b,.tail _ g,d,f⟩
  ·by_cases hk:(k==n5)=qz
   ·rw[if_pos hk,ky]at h
    cases a:x==y with
    |true=>
     rw[a]at h
     have e:x=y:=eq_of_beq a
     subst e;exact .inl ⟨k,.head _,eq_of_beq hk,(lz h).symm⟩
    |false=>
     rw[a]at h;exact .inr h
   ·rw[if_neg hk]at h;exact .inr h
theorem vW{cells:List (Str×Addr)}: ∀{ns:List (Str×NameKind)} {acc:List (Str×Addr)} {x:Str},(acc.lookup x).isSome=qz->((tV cells ns acc).lookup x).isSome=qz
 |[],_,_,h=>h
 |(y,k)::r,acc,x,h=>by
  refine vW (ns:=r) ?_
  by_cases hk:(k==n5)=qz
  ·rw[if_pos hk,ky]
   cases x==y with
   |true=>rfl
   |false=>exact h
  ·rw[if_neg hk];exact h
theorem oZ{cells:List (Str×Addr)}: ∀{ns:List (Str×NameKind)} {acc:List (Str×Addr)} {x:Str},(x,n5)∈ns->((tV cells ns acc).lookup x).isSome=qz
 |[],_,_,h=>nomatch h
 |(y,k)::r,acc,x,h=>by
  rcases au.mp h with e|h
  ·cases e;refine vW (ns:=r) ?_;rw[if_pos (by rfl),ky,beq_self_eq_true]
   rfl
  ·exact oZ (ns:=r) h
def nQ(h: ∀x,(x,n5)∈sc.names->(env.cells.lookup x).isSome=qz):closureFor sc env=pure (tV env.cells sc.names []):=by
 have o: ∀(d:List (Str×NameKind)) (a:List (Str×Addr)),(∀x,(x,n5)∈d->(env.cells.lookup x).isSome=qz)->
   (forIn d a (λ(p:Str×NameKind) (b:List (Str×Addr))=>if p.2== .free then do let c<-cellOf env p.1;pure (mw ((p.1,c)::b))else pure (mw b)):Sem (List (Str×Addr)))=pure (tV env.cells d a):=by
  intro d
  induction d with
  |nil=>intro a _;rfl
  |cons p r l=>
   intro a i;obtain⟨x,k⟩:=p;rw[List.forIn_cons]
   by_cases hk:(k==n5)=qz
   ·have n:k= .free:=eq_of_beq hk
    subst n;obtain⟨c,j⟩:=e7.mp (i x (.head _))
    have m:cellOf env x=pure c:=by unfold cellOf;rw[j]
    have f:=l ((x,c)::a) λy g=>i y (.tail _ g)
    simp only[beq_self_eq_true,if_true,m]
    show(forIn r ((x,c)::a) _:Sem (List (Str×Addr)))=_
    rw[f];show pure _=pure (tV env.cells r (if(n5==n5)=qz then(x,(env.cells.lookup x).getD 0)::a else a))
    rw[if_pos (by rfl),j]
    rfl
   ·simp only[hk]
    show(forIn r a _:Sem (List (Str×Addr)))=_
    rw[l a λy g=>i y (.tail _ g)]
    show pure _=pure (tV env.cells r (if(k==n5)=qz then _ else a))
    rw[if_neg hk]
 have e:=o sc.names [] h
 have f:closureFor sc env=((forIn sc.names ([]:List (Str×Addr)) (λ(p:Str×NameKind) (b:List (Str×Addr))=>if p.2== .free then do let c<-cellOf env p.1;pure (mw ((p.1,c)::b))else pure (mw b)):Sem (List (Str×Addr))) >>= λb=>pure b):=rfl
 rw[f,e];rfl
theorem cE{env:PySem.Env}{x:Str}: ∀{names:List (Str×NameKind)},(names.map λ(n,k)=>if(k==n5&&env.scope.kind== .function&&env.kindOf n==qv .cell)then(n,n6)else(n,k)).lookup x=
  (names.lookup x).map λk=>if(k==n5&&env.scope.kind== .function&&env.kindOf x==qv .cell)then n6 else k
 |[]=>rfl
 |(n,k)::r=>by
  rw[ny];have c:= @cE env x r;show pf x ((if(k==n5&&env.scope.kind== .function&&env.kindOf n==qv .cell)=qz then(n,n6)else(n,k))::_)=_
  by_cases a:(k==n5&&env.scope.kind== .function&&env.kindOf n==qv .cell)=qz
  ·rw[if_pos a,ky,ky]
   cases b:x==n with
   |true=>
    have e:x=n:=eq_of_beq b
    subst e;simp only[pz,a,if_true]
   |false=>exact c
  ·rw[if_neg a,ky,ky]
   cases b:x==n with
   |true=>
    have e:x=n:=eq_of_beq b
    subst e;simp only[pz];rw[if_neg a]
   |false=>exact c
def Mt:Nat->Nat->TGs
 |_,0=>MQ
 |j,n+1=>FN (kN j) (Mt (j+1) n)
noncomputable def iD:Nat->List V->St->St
 |_,[],σ=>σ
 |j,v::r,σ=>iD (j+1) r (σ.set j (qv v))
theorem Az: ∀{vs:List V} {j:Nat} {σ:St} {H:Hp} {Q:St->Hp->Prop},Q (iD j vs σ) H->Mt j vs.length vs σ H Q
 |[],_,_,_,_,h=>⟨rfl,h⟩
 |v::r,j,σ,H,Q,h=>⟨v,r,rfl,Az (vs:=r) (j:=j+1) (σ:=σ.set j (qv v)) h⟩
theorem fK: ∀{vs:List V} {j:Nat} {σ:St},(iD j vs σ).length=σ.length
 |[],_,_=>rfl
 |v::r,j,σ=>by
  show(iD (j+1) r (σ.set j (qv v))).length=_
  rw[fK (vs:=r),mn]
theorem lR: ∀{vs:List V} {j i:Nat} {σ:St},j+vs.length<=i\/i<j->(iD j vs σ)[i]? =σ[i]?
 |[],_,_,_,_=>rfl
 |v::r,j,i,σ,h=>by
  show(iD (j+1) r (σ.set j (qv v)))[i]? =_
  simp only[bu]at h;rw[lR (vs:=r) (by lia),ba (by lia)]
theorem rE: ∀{vs:List V} {j i:Nat} {σ:St} {v:V},vs[i]? =qv v->j+vs.length<=σ.length->(iD j vs σ)[j+i]? =qv (qv v)
 |[],_,_,_,_,h,_=>by simp at h
 |w::r,j,0,σ,v,h,hl=>by
  simp at h
  subst h
  show(iD (j+1) r (σ.set j (qv w)))[j]? =_
  rw[lR (vs:=r) (.inr (by lia)),bn (by simp only[bu]at hl;lia)]
 |w::r,j,i+1,σ,v,h,hl=>by
  show(iD (j+1) r (σ.set j (qv w)))[j+(i+1)]? =_
  have e:j+(i+1)=(j+1)+i:=by lia
  rw[e];exact rE (vs:=r) (by simpa using h) (by simp only[bu,mn]at hl ⊢;lia)
section
variable{X:Cx}
theorem rF(hN:X.N.Nodup): ∀{es:List Expr} {xs:List Str} {j:Nat},fW (λ(e:Expr)=>match e with|.Name x _=>qv x|_=>qw) es=qv xs->(∀(i:Nat) (x:Str),xs[i]? =qv x->X.N[j+i]? =qv x/\X.env.scope.names.lookup x=qv .local)->PGs X es (Mt j xs.length)
 |[],xs,j,e,_=>by
  cases e;exact zR
 |a::es,xs,j,e,h=>by
  unfold fW at e
  cases a<;>try (cases e)
  rename_i x n
  simp only at e
  obtain⟨r,c,d⟩:=zMd e;subst d;obtain⟨m,b⟩:=h 0 x rfl;refine vH (lD hN (by simpa using m) (.inl b) (.inr b)) (rF hN c λi y f=>?_) rfl
  obtain⟨l,g⟩:=h (i+1) y (by simpa using f)
  exact⟨by rw[<-l];congr 1;lia,g⟩
def gTg(K:og)(k:Nat):TG:=match k with
 |0=>kN 0
 |n+1=>JL K (n+1) (Mt 0 (n+1))
def Nr(hc:X.calm=qz)(hN:X.N.Nodup)(e:cG tg=qv (xs,k))(h: ∀(i:Nat) (x:Str),xs[i]? =qv x->X.N[i]? =qv x/\X.env.scope.names.lookup x=qv .local):PG X tg (gTg X.K k):=by
 cases tg<;>try (cases e)
 ·rename_i x p;obtain⟨l,f⟩:=h 0 x rfl;exact lD hN l (.inl f) (.inr f)
 ·rename_i es j p;unfold cG at e;obtain⟨t,c,d⟩:=zBd e
  by_cases g:2<=t.length
  ·rw[if_pos g]at d;cases d
   have P:=rF (X:=X) hN (j:=0) c λi x v=>by
    obtain⟨l,f⟩:=h i x v;exact⟨by rw[Nat.zero_add];exact l,f⟩
   have b:(assignEach es X.env).length=xs.length/\(assignEach es X.env).findIdx? (·.1)=qw:=by
    clear P g h e
    induction es generalizing xs with
    |nil=>cases c;exact⟨rfl,rfl⟩
    |cons a r y=>
     unfold fW at c
     cases a<;>try (cases c)
     rename_i z m
     simp only at c
     obtain⟨C,B,s⟩:=zMd c;subst s;obtain⟨u,q⟩:=y B
     have A:assignEach (Expr.Name z m::r) X.env=(q4,assign (.Name z m) X.env)::assignEach r X.env:=rfl
     rw[A];refine⟨by simp[u],?_⟩
     rw[jg];simp[q]
   obtain⟨n,o⟩: ∃n,xs.length=n+1:=⟨xs.length-1,by lia⟩
   rw[o]at P ⊢;exact Et hc P (by rw[<-o];exact b.1) b.2
  ·rw[if_neg g]at d;cases d
end
structure ItH(X:Cx)(ad:Ad)(J:It)(G H:Hp)(ds:List D):Prop where
 go: ∀(i:Nat) (G1 H1:Hp) (d:D),Step G H G1 H1->ds[i]? =qv d->J.go i H1/\∀x H2,J.yld i H1 x H2->∃G2,Step G1 H1 G2 H2/\Rep X.K ad G2 d x
 stop: ∀(G1 H1:Hp),Step G H G1 H1->J.stop ds.length H1
 few:ds.length<=sizeLine
def IK(X:Cx)(ad:Ad)(G H:Hp)(r:R)(W:It->Hp->Prop)(E:Nat->Hp->Prop):Prop:=match r with
 |.ok d=>∃ds,j6 d=qv ds/\∀J G' H',Step G H G' H'->ItH X ad J G' H' ds->W J H'
 |.ow xs=>∀J G' H',Step G H G' H'->ItH X ad J G' H' xs->W J H'
 |.ex c=>∀G' H',Step G H G' H'->E c H'
 |.bad=>False
def tI(X:Cx)(ad:Ad)(f:F):TI:=λσ H W=>∃G ρ E,Same G H/\SL X.K ad G H ρ σ/\XP X ad σ E/\IK X ad G H (f ρ) W E
abbrev MI(X:Cx)(ad:Ad)(tg e:Expr)(f:F):Prop:=PI X tg e (tI X ad f)
def Cel(sc:Scope):Prop:=qX sc=[]\/∃x,qX sc=[x]/\sc.names.lookup x=qv .cell
theorem cf0: ∀{ns:List (Str×NameKind)} {a:Nat} {acc:List (Str×Addr)},(ns.filter λp=>p.2== .cell).map (·.1)=[]->cellsFrom a ns acc=acc/\∀h,pushCells h ns=h
 |[],_,_,_=>⟨rfl,λ_=>rfl⟩
 |(y,k)::r,a,acc,e=>by
  by_cases hk:(k==n6)=qz
  ·simp[kz,hk]at e
  ·have d:(r.filter λp=>p.2== .cell).map (·.1)=[]:=by simpa[kz,hk]using e
   obtain⟨b,c⟩:=cf0 (a:=a) (acc:=acc) d;unfold cellsFrom pushCells;exact⟨by rw[if_neg hk];exact b,λh=>by rw[if_neg hk];exact c h⟩
theorem cf1: ∀{ns:List (Str×NameKind)} {a:Nat} {acc:List (Str×Addr)} {x:Str},(ns.filter λp=>p.2== .cell).map (·.1)=[x]->cellsFrom a ns acc=(x,a)::acc/\∀h,pushCells h ns=h.push {cls:=.type "cell",data:=.cell qw}
 |[],_,_,_,e=>by simp at e
 |(y,k)::r,a,acc,x,e=>by
  by_cases hk:(k==n6)=qz
  ·have b:y=x/\(r.filter λp=>p.2== .cell).map (·.1)=[]:=by simpa[kz,hk]using e
   obtain⟨rfl,b⟩:=b;obtain⟨d,c⟩:=cf0 (a:=a+1) (acc:=(y,a)::acc) b;unfold cellsFrom pushCells;exact⟨by rw[if_pos hk];exact d,λh=>by rw[if_pos hk];exact c _⟩
  ·have b:(r.filter λp=>p.2== .cell).map (·.1)=[x]:=by simpa[kz,hk]using e
   obtain⟨d,c⟩:=cf1 (a:=a) (acc:=acc) b;unfold cellsFrom pushCells;exact⟨by rw[if_neg hk];exact d,λh=>by rw[if_neg hk];exact c h⟩
def clC(X:Cx)(sc:Scope)(L:Addr):List (Str×Addr):=cellsFrom (L+1) sc.names (tV X.env.cells sc.names [])
def fL(hc:Cel sc)(h:(clC X sc L).lookup y=qv c):(qX sc=[y]/\c=L+1)\/(tV X.env.cells sc.names []).lookup y=qv c:=by
 unfold clC at h;rcases hc with e|⟨x,e,_⟩
 ·rw[(cf0 e).1]at h;exact .inr h
 ·rw[(cf1 e).1,ky]at h
  cases q:y==x with
  |true=>rw[q]at h;rw[eq_of_beq q];exact .inl ⟨e,(lz h).symm⟩
  |false=>rw[q]at h;exact .inr h
def AA(e:qX sc=[x]):(clC X sc L).lookup x=qv (L+1):=by
 unfold clC;rw[(cf1 e).1,ky,beq_self_eq_true]
def vX(hc:Cel sc)(hy:sc.names.lookup y=qv .free)(h:(tV X.env.cells sc.names []).lookup y=qv c):(clC X sc L).lookup y=qv c:=by
 unfold clC;rcases hc with e|⟨x,e,hx⟩
 ·rw[(cf0 e).1];exact h
 ·rw[(cf1 e).1,ky]
  cases q:y==x with
  |true=>rw[eq_of_beq q,hx]at hy;cases hy
  |false=>exact h
def cX(X:Cx)(N':List Str)(sc:Scope)(s3:Shared)(H3:Hp)(fp:List Addr)(cf:ci):Cx:=
 {X with N:=N',s₀:=s3,H₀:=H3,env:=compEnvC sc (clC X sc s3.heap.objs.size) s3.heap.objs.size X.env,outer:=X.stack,stack:=X.stack,ex:=fp,fn:=λy=>decide (qX sc=[y]),pn:=X.pn++cf,xe:=λ_ _=>False}
section
variable{ad:Ad}{σ:St}{fp:List Addr}
def C7{σ:St}(h:Y.xe=λ_ _=>False):XP Y ad σ (λ_ _=>False):=by
 intro i H s e j I a;obtain⟨f,b,g,d,B,_,_,_,_,_,_,_,_,_,c,_,z⟩:=a;exact z.elim
def Un.sameBut(u:Un fs ex H H' h h1)(sb:oo C h1 h2)(hC:h.objs.size<=C):Un fs ex H H' h h2:=by
 have c: ∀b o,h.get? b=qv o->b≠C:=λb o e z=>by
  subst z;exact absurd (bh (ah e) hC) (nv _)
 refine⟨λb o e n d a=>?_,λb o e n d a=>?_,u.free,λb o e a=>?_,u.tups,u.frzs,u.tbls⟩
 ·exact(sb.2 b (c b o e)).trans (u.keep b o e n d a)
 ·obtain⟨g,z⟩:=u.slot b o e n d a;exact⟨g,(sb.2 b (c b o e)).trans z⟩
 ·obtain⟨f,z⟩:=u.there b o e a;exact⟨f,(sb.2 b (c b o e)).trans z⟩
def C8{fpO: ∀b∈fp,t3 X cf H3 b}(I:Inv X cf σ H3 s3)(hk:sc.kind= .function)(hc:Cel sc)(hfree: ∀x,(x,n5)∈sc.names->X.env.kindOf x=qv .cell\/X.env.kindOf x=qv .free)(hnd: ∀x,(x,n5)∈sc.names->sc.names.lookup x=qv .free)(hfo: ∀b∈fp,b<s3.heap.objs.size)(hns:h4.Ns s3.heap.objs.size m)(hkeep: ∀b o,s3.heap.get? b=qv o->h4.get? b=qv o)(hnew: ∀x,qX sc=[x]->h4.IsCell (s3.heap.objs.size+1) qw){σc:St}(hl:σc.length=N'.length)(hσ: ∀(i:Nat) (x:Str) (v:V),N'[i]? =qv x->σc[i]? =qv (qv v)->∃j:Nat,X.N[j]? =qv x/\σ[j]? =qv (qv v)/\(x,n5)∈sc.names):
  Inv (cX X N' sc s3 H3 fp cf) [] σc H3 {s3 with heap:=h4,toks:=t'}:=by
 have g: ∀x c,(tV X.env.cells sc.names []).lookup x=qv c->(x,n5)∈sc.names/\X.env.cells.lookup x=qv c:=λx c e=>by
  rcases oY e with ⟨k,B,s,h3⟩|h
  ·subst s;refine⟨B,?_⟩;obtain⟨c',f⟩:=I.ok.has x (hfree x B);rw[f]at h3;rw[h3];exact f
  ·cases h
 have M: ∀x c,(tV X.env.cells sc.names []).lookup x=qv c->c<s3.heap.objs.size:=λx c e=>by
  obtain⟨v,o,L,_⟩:=I.cell x c (g x c e).2;exact ah L
 have K: ∀b,b∈frs X.stack->b=X.env.locals\/b∈X.fs:=λb A=>au.mp (I.stkSub b A)
 refine⟨⟨I.ok.mod,hk,I.ok.glob,I.ok.blt,aj _,λx y c B s=>?_,λx hx=>?_,λx c B s=>?_,I.ok.hd,I.ok.frames,.inl rfl,λb A=>?_,I.bs,ol I.ok.bsz I.sz,λb o e A=>?_,λb A Y=>?_,I.stack,I.stkFree⟩,
  rfl,I.bare,Un.kept hkeep,⟨m,hns,λi x v B s h3=>?_⟩,λx c h=>?_,I.hok.fresh (aj _),λx c h=>?_,λq hq=>?_,I.hok.kept hkeep,hl⟩
 ·rcases fL hc B with ⟨Q,O⟩|O
  ·rcases fL hc s with ⟨J,G⟩|G
   ·rw[Q]at J;exact(List.cons.inj J).1
   ·have:=M y c G
    rw[O]at this;exact absurd this (Nat.not_lt.mpr (ph _))
  ·rcases fL hc s with ⟨J,G⟩|G
   ·have:=M x c O
    rw[G]at this;exact absurd this (Nat.not_lt.mpr (ph _))
   ·exact I.ok.inj x y c (g x c O).2 (g y c G).2
 ·-- a name that is a cell here was free in the scope
  have e:(sc.names.lookup x).map (λk=>if(k==n5&&X.env.scope.kind== .function&&X.env.kindOf x==qv .cell)then n6 else k)=qv .cell\/(sc.names.lookup x).map (λk=>if(k==n5&&X.env.scope.kind== .function&&X.env.kindOf x==qv .cell)then n6 else k)=qv .free:=by
   rw[<-cE];exact hx
  cases q:sc.names.lookup x with
  |none=>rw[q]at e;rcases e with e|e<;>cases e
  |some k=>
   have hm:=i0 q
   by_cases E:k= .free
   ·subst E;obtain⟨c,f⟩:=e7.mp (oZ (cells:=X.env.cells) (acc:=[]) hm);exact⟨c,vX hc q f⟩
   ·have U:(k==n5)=q4:=by simpa using E
    rw[q]at e;simp only[pz,U,Bool.false_and]at e;rcases e with e|e
    ·have ad:k= .cell:=by simpa using e
     subst ad;have p:x∈qX sc:=aq.mpr ⟨(x,.cell),l8.mpr ⟨hm,by simp⟩,rfl⟩
     have C:qX sc=[x]:=by
      rcases hc with z|⟨y,z,_⟩
      ·rw[z]at p;cases p
      ·rw[z]at p ⊢;rw[ji.mp p]
     exact⟨_,AA C⟩
    ·exact absurd (by simpa using e) E
 ·have C:qX sc=[x]:=of_decide_eq_true B
  have:=s.symm.trans (AA C)
  cases this;exact ph _
 ·obtain⟨f0,Z,f2,T,S,f5⟩:=fpO b A;refine⟨bj (hfo b A),λx c h=>?_⟩
  rcases fL hc h with ⟨_,z⟩|z
  ·rw[z];exact(bj (jz (hfo b A))).symm
  ·exact S x c (g x c z).2
 ·obtain⟨f0,Z,f2,T,S,f5⟩:=fpO b A;rcases T with z|z
  ·exact I.ok.noex b o e z
  ·exact absurd (bh (ah e) (ol I.ok.bsz z)) (nv _)
 ·obtain⟨f0,Z,f2,T,S,f5⟩:=fpO b A;rcases K b Y with z|z
  ·exact Z z
  ·exact f2 z
 ·obtain⟨j,j1,j2,P⟩:=hσ i x v B s;obtain⟨m0,am,al⟩:=I.loc;have H:=hfree x P
  have ac:Vis X.env.scope x:=by
   rcases H with z|z
   ·exact .inr (.inl z)
   ·exact .inr (.inr z)
  obtain⟨u,r,l⟩:=al j x v j1 j2 ac;refine⟨u,r,.inr ?_⟩;rcases l with ⟨z,_⟩|⟨_,c,ab,t⟩
  ·rcases H with z'|z'
   ·have:X.env.kindOf x=qv .local:=z
    rw[z']at this;cases this
   ·have:X.env.kindOf x=qv .local:=z
    rw[z']at this;cases this
  ·refine⟨?_,c,?_,?_⟩
   ·have Q:(relabel sc X.env).names.lookup x=(sc.names.lookup x).map (λk=>if(k==n5&&X.env.scope.kind== .function&&X.env.kindOf x==qv .cell)then n6 else k):=cE
    have J:(relabel sc X.env).names.lookup x=qv .cell\/(relabel sc X.env).names.lookup x=qv .free:=by
     rw[Q,hnd x P];simp only[pz];split
     ·exact .inl rfl
     ·exact .inr rfl
    exact J
   ·obtain⟨c',f⟩:=e7.mp (oZ (cells:=X.env.cells) (acc:=[]) P)
    have:=(g x c' f).2
    rw[ab]at this;cases this;exact vX hc (hnd x P) f
   ·obtain⟨o,L,hd⟩:=t;exact⟨o,hkeep _ _ L,hd⟩
 ·rcases fL hc h with ⟨e,z⟩|z
  ·rw[z];exact⟨qw,hnew x e⟩
  ·obtain⟨v,o,L,hd⟩:=I.cell x c (g x c z).2;exact⟨v,o,hkeep _ _ L,hd⟩
 ·rcases fL hc h with ⟨e,z⟩|z
  ·rw[z];exact I.hok.fresh (ph _)
  ·exact I.freeC x c (g x c z).2
 ·have W:q∈X.pn++cf:=by
   have s:q∈(X.pn++cf)++[]:=hq
   rwa [mf]at s
  obtain⟨e,n,ne,nf,d⟩:=I.pin q W;refine⟨hkeep _ _ e,n,bj (ah e),λz=>?_,d⟩
  rcases K _ z with z|z
  ·exact ne z
  ·exact nf z
def EQ{fpO: ∀b∈fp,t3 X cf H3 b}{σc:St}(I:Inv X cf σ H3 s3)(J:Inv (cX X N' sc s3 H3 fp cf) pn' σc H' s')(sb:oo s3.heap.objs.size s'.heap h'):Inv X cf σ H' {s' with heap:=h'}:=by
 have a:H' s3.heap.objs.size=qw:=J.free
 refine I.call' (ch:=fp) (s':={s' with heap:=h'}) J.os (Un.sameBut J.base sb (aj _)) (λb u e=>?_) J.bare λb i=>?_
 ·refine(J.hok b u e).stay (λc v f q=>?_) (λ_ q=>q) λ_ _ q=>q
  have l:c≠s3.heap.objs.size:=by
   rintro rfl;rcases f with z|z
   ·rw[<-z]at e;rw[a]at e;cases e
   ·rw[a]at z;cases z
  exact(sb.2 c l).trans q
 ·obtain⟨n,d,m,j,g,h⟩:=fpO b i;exact⟨j,d,g,h⟩
def uG(Iv:Nat->Shared->Prop)(turn: ∀n s,Iv n s->wpAny (model prog w) A (pyNext it) (λr s₁=>match r with
   |none=>Rr (.ok .next) s₁
   |some v=>wpAny (model prog w) A (letOwnedTupleGo target it v) (λ_ s₁'=>wpAny (model prog w) A (assign target env v) (λ_ s₂=>
     wpAny (model prog w) A (forIn ifs qz λc r=>if r=qz then do let ok<-isTrue c env (eval c env);pure (mw ok)else pure (mw r)) (λok s₃=>
      if ok=qz then wpAny (model prog w) A (eval elt env) (λx s₄=>
       wpAny (model prog w) A (call (.builtin "list.append") [acc,x]) (λ_ s₅=>∃m,m<n/\Iv m s₅) (λ_ _=>False) s₄) (λ_ _=>False) s₃
      else ∃m,m<n/\Iv m s₃) (λ_ _=>False) s₂) (λ_ _=>False) s₁') (λ_ _=>False) s₁) (λ_ _=>False) s)(n:Nat)(h:Iv n s):
  codeAny (model prog w) A (.compLoop (.ListComp elt [⟨target,iter,ifs,0⟩] scope pos) 0 it acc env) Rr s:=by
 refine codeAny_loop rfl Iv (λn s j=>?_) n h
 show wpAny _ A ((compTurn (.ListComp elt [⟨target,iter,ifs,0⟩] scope pos) 0 it acc env).onRaise (λx=>do noteFrame x env;theTreesLotGoes x)) _ _ s
 refine wpAny_noted (wpAny_noRaise ?_);rw[compTurn_list];refine aa (wpAny_standAt (aa (wpAny_mono (turn n s j) (λr s₁ d=>?_) λ_ _ a=>a)))
 cases r with
 |none=>exact ae d
 |some v=>
  refine aa (wpAny_mono d (λ_ s₁' e=>?_) λ_ _ a=>a)
  refine aa (wpAny_mono e (λ_ s₂ f=>aa (wpAny_mono f (λok s₃ b=>?_) λ_ _ a=>a)) λ_ _ a=>a)
  cases ok with
  |false=>exact ae ⟨rfl,b⟩
  |true=>
   exact aa (aa (wpAny_mono b (λx s₄ g=>aa (wpAny_mono g (λ_ s₅ i=>ae (ae ⟨rfl,i⟩)) λ_ _ a=>a)) λ_ _ a=>a))
def lS(h:bR f (d::r)=qv all):(f d=qv qw/\bR f r=qv all)\/∃x all',f d=qv (qv x)/\bR f r=qv all'/\all=x::all':=by
 unfold bR at h
 cases e:f d with
 |none=>rw[e]at h;cases h
 |some o=>
  rw[e]at h
  cases o with
  |none=>exact .inl ⟨rfl,h⟩
  |some x=>
   obtain⟨a,c,b⟩:=zMd h;exact .inr ⟨x,a,rfl,c,b.symm⟩
def AB{K:og}{ts cs:List Slot}{σ:St}(h:SL K ad G H (ts++cs) σ):SL K ad G H (ak ts.length .no++cs) σ:=by
 refine⟨by rw[<-h.len];simp,λi c e=>?_⟩
 by_cases a:i<ts.length
 ·rw[cc (by simpa using a),fy,if_pos a]at e
  cases e;have b:i<σ.length:=by rw[<-h.len,bq];lia
  exact⟨σ[i],by simp[b],trivial⟩
 ·rw[bo (by simpa using a),ic]at e
  refine h.at_ i c ?_;rw[bo (by lia)]
  exact e
def ER{K:og}{cs:List Slot}{σ:St}(h:SL K ad G H (ak n .no++cs) σ)(r:aJ K ad G ds vs)(hn:ds.length=n):SL K ad G H (ds.map Slot.sh++cs) (iD 0 vs σ):=by
 have q:=r.length;have b:=h.len;rw[bq,ic]at b;refine⟨by rw[fK,bq,ao];lia,λi m e=>?_⟩
 by_cases p:i<n
 ·rw[cc (by rw[ao];lia),ju]at e
  cases a:ds[i]? with
  |none=>rw[a]at e;cases e
  |some d=>
   rw[a]at e;cases e;obtain⟨v,c,g⟩:=r.get a;refine⟨qv v,?_,v,rfl,g⟩
   have:=rE (j:=0) (σ:=σ) c (by lia)
   rwa [Nat.zero_add]at this
 ·rw[bo (by rw[ao];lia),ao,hn]at e
  obtain⟨f,o,l⟩:=h.at_ i m (by rw[bo (by rw[ic];lia),ic];exact e)
  exact⟨f,by rw[lR (.inl (by lia))];exact o,l⟩
def Kz{K:og}{ts cs:List Slot}{σ:St}{W:St->Hp->Prop}(e:tgt k d=qv ts)(hn:n=if k=0 then 1 else k)(hG:Same G H)(r:Rep K ad G d v)(h:SL K ad G Hs (ak n .no++cs) σ)(q: ∀σ',σ'.length=σ.length->SL K ad G Hs (ts++cs) σ'->W σ' H):ts.length=n/\gTg K k v σ H W:=by
 cases k with
 |zero=>
  cases e;subst hn;refine⟨rfl,q _ (by rw[mn]) ?_⟩
  have:=ER (ds:=[d]) (vs:=[v]) h (aJ.cons r aJ.nil) rfl
  exact this
 |succ k=>
  unfold tgt at e
  cases d<;>try (cases e)
  rename_i ds
  simp only at e
  by_cases b:ds.length=k+1
  ·rw[if_pos b]at e;cases e;rw[if_neg (by lia)]at hn
   subst hn;unfold Rep at r;obtain⟨a,vs,rfl,g,c⟩:=r;refine⟨by rw[ao];exact b,a,vs,rfl,hG.seqT g,by rw[c.length];exact b,?_⟩
   have f:vs.length=k+1:=by rw[c.length];exact b
   have:=Az (vs:=vs) (j:=0) (σ:=σ) (H:=H) (Q:=W) (q _ fK (ER h c b))
   rwa [f]at this
  ·rw[if_neg b]at e;cases e
end
section
variable{X:Cx}{ad:Ad}{cf:ci}{s2 s3:Shared}{σ:St}{H H2 H3 G2:Hp}{ρ:Rho}{pos:Pos}{sc:Scope}{N':List Str}{fp:List Addr}{tg it elt:Expr}{ifs:List Expr}{k nt:Nat}{cs:List Slot}{fc:Option F}{fe:F}
theorem jO{x:Str}: ∀{N:List Str} {i:Nat},idx x N=qv i->N[i]? =qv x
 |[],_,e=>by cases e
 |y::r,i,e=>by
  unfold idx at e
  by_cases h:x=y
  ·rw[if_pos h]at e;cases e;subst h;rfl
  ·rw[if_neg h]at e;obtain⟨j,a,b⟩:=zMd e;subst b;simpa using jO a
def MTs(X:Cx)(ad:Ad)(ifs:List Expr)(fc:Option F):Prop:=match ifs,fc with
 |[],qw=>True
 |[c],qv f=>MT X ad c f
 |_,_=>False
def Gy(K:og)(ad:Ad)(H G':Hp)(d:SK.D)(v:V):Prop:= ∃l q ws,d= .lst l/\v= .ref q/\H q=qw/\G' q=qv (.lst ws)/\aJ K ad G' l ws
def RN(K:og)(ad:Ad)(H G':Hp):List SK.D->List V->Prop:=Paired (Gy K ad H G')
def Gy.up{K:og}{H H1 G' G2:Hp}(h:Gy K ad H1 G' d v)(s:Same H H1)(t:Same G' G2):Gy K ad H G2 d v:=by
 obtain⟨l,q,b,g,c,e,a,f⟩:=h;exact⟨l,q,b,g,c,s.free e,t _ _ a,f.mono t⟩
def RN.mono{K:og}{H G' G2:Hp}(h:RN K ad H G' ds vs)(t:Same G' G2):RN K ad H G2 ds vs:=Paired.mapP h λ_ _ z=>z.up (Same.refl _) t
theorem RN.snoc{K:og}{H G':Hp}{d:SK.D}{v:V}(h:Gy K ad H G' d v): ∀{ds:List SK.D} {vs:List V},RN K ad H G' ds vs->RN K ad H G' (ds++[d]) (vs++[v])
 |_,_,.nil=>.cons h .nil
 |_,_,.cons a r=>.cons a (RN.snoc h r)
def ME.val(ha:ME X ad a f)(I:Inv X cf σ H s)(hG:Same G H)(hS:SL X.K ad G H ρ σ)(hx:XP X ad σ E)(hf:f ρ= .ok x\/∃l,f ρ= .ow l/\x= .lst l):
  wpAny (model X.prog X.w) X.A (eval a X.env) (λu s1=>∃v G1 H1,Inv X cf σ H1 s1/\bG v u/\Step G H G1 H1/\Rep X.K ad G1 x v/\((∀y,f ρ≠ .ok y)->Gy X.K ad H G1 x v)) X.xe s:=by
 rcases hf with e|⟨l,e,rfl⟩
 ·exact L2.thn (ha cf s σ H (λv H1=>∃G1,Step G H G1 H1/\Rep X.K ad G1 x v) I ⟨G,ρ,E,hG,hS,hx,by rw[e];exact λv G1 H1 st q=>⟨G1,st,q⟩⟩) λu s1 b=>by obtain⟨v,H1,g,d,G1,st,q⟩:=b;exact⟨v,G1,H1,g,d,st,q,λz=>absurd e (z x)⟩
 ·exact L2.thn (ha cf s σ H (λv H1=>∃G1,Step G H G1 H1/\Rep X.K ad G1 (.lst l) v/\Gy X.K ad H G1 (.lst l) v) I ⟨G,ρ,E,hG,hS,hx,by
   rw[e];intro p c G1 H1 st n m j q;have h:=q.mono (Same.upd_new (o:=.lst c) m);exact⟨upd G1 p (.lst c),st.share n m j,by unfold Rep;exact⟨p,c,rfl,SqL.of aG,h⟩,l,p,c,rfl,rfl,n,aG,h⟩⟩) λu s1 b=>by obtain⟨v,H1,g,d,G1,st,q,i⟩:=b;exact⟨v,G1,H1,g,d,st,q,λ_=>i⟩
def MT.val{k:Bool}(ha:MT X ad a f)(I:Inv X cf σ H s)(hG:Same G H)(hS:SL X.K ad G H ρ σ)(hx:XP X ad σ E)(hf:f ρ= .ok (.bl k)):
  wpAny (model X.prog X.w) X.A (isTrue a X.env (eval a X.env)) (λb s1=>b=k/\∃G1 H1,Inv X cf σ H1 s1/\Step G H G1 H1) X.xe s:=by
 exact L2.thn (ha cf s σ H (λb H1=>b=k/\∃G1,Step G H G1 H1) I ⟨G,ρ,E,hG,hS,hx,.inl ⟨k,hf⟩,by rw[hf];exact λv G1 H1 st q=>⟨k,by unfold Rep at q;exact q,rfl,G1,st⟩⟩) λb s1 c=>by obtain⟨H1,d,e,G1,st⟩:=c;exact⟨e,G1,H1,d,st⟩
def eI{G1 H1 G2 H2:Hp}{D:Addr}(st:Step G1 H1 G2 H2)(g:G1 D=qw)(h:H1 D=qv (.lst vs)):G2 D=qw/\H2 D=qv (.lst vs):=by
 refine⟨?_,st.sh _ _ h⟩
 cases z:G2 D with
 |none=>rfl
 |some o=>
  have:=st.nw D g (by rw[z];exact λz=>nomatch z)
  rw[h]at this;cases this
def rG{G1 H1 G2 H2:Hp}{D:Addr}(st:Step G1 H1 G2 H2)(n:H1 D=qw)(g:G2 D=qw):Step G1 H1 G2 (upd H2 D o):=by
 refine⟨st.sg,λb u e=>?_,λb u e=>?_,st.nw⟩
 ·have a:b≠D:=λz=>by subst z;rw[g]at e;cases e
  rw[aD a];exact st.gh b u e
 ·have a:b≠D:=λz=>by subst z;rw[n]at e;cases e
  rw[aD a];exact st.sh b u e
noncomputable def hid(D:Addr)(H:Hp):Hp:=λb=>if b=D then qw else H b
def lT{D b:Addr}{H:Hp}(h:b≠D):hid D H b=H b:=by unfold hid;rw[if_neg h]
def gP{D:Addr}{H:Hp}:hid D H D=qw:=by unfold hid;rw[if_pos rfl]
def AC{D:Addr}{H:Hp}:Same (hid D H) H:=λb o e=>by
 by_cases z:b=D
 ·subst z;rw[gP]at e;cases e
 ·rwa [lT z]at e
def AD{D:Addr}{H:Hp}:hid D (upd H D o)=hid D H:=by
 funext b
 by_cases z:b=D
 ·subst z;rw[gP,gP]
 ·rw[lT z,lT z,aD z]
def KA{D:Addr}{H:Hp}(h:H D=qw):hid D H=H:=by
 funext b
 by_cases z:b=D
 ·subst z;rw[gP,h]
 ·rw[lT z]
def kT{G1 H1 G2 H2:Hp}{D:Addr}(st:Step G1 H1 G2 H2)(g:G2 D=qw):Step G1 (hid D H1) G2 (hid D H2):=by
 refine⟨st.sg,λb u e=>?_,λb u e=>?_,λb d c=>?_⟩
 ·have a:b≠D:=λz=>by subst z;rw[g]at e;cases e
  rw[lT a];exact st.gh b u e
 ·have a:b≠D:=λz=>by subst z;rw[gP]at e;cases e
  rw[lT a]at e ⊢;exact st.sh b u e
 ·by_cases z:b=D
  ·subst z;exact gP
  ·rw[lT z];exact st.nw b d c
theorem SL.up{K:og}{G H H':Hp}{ρ:Rho}{σ:St}(h:SL K ad G H ρ σ)(s:Same H H'):SL K ad G H' ρ σ:=by
 refine⟨h.len,λi m e=>?_⟩
 obtain⟨n,t,g⟩:=h.at_ i m e;refine⟨n,t,?_⟩
 cases m with
 |no=>trivial
 |sh d=>exact g
 |ow x=>
  obtain⟨a,q,b,c,j,f⟩:=g;exact⟨a,q,b,c,s _ _ j,f⟩
 |dc l=>
  obtain⟨a,es,b,c,j,f⟩:=g;exact⟨a,es,b,c,s _ _ j,f⟩
 |sd l=>
  obtain⟨a,es,b,c,j,f⟩:=g;exact⟨a,es,b,c,s _ _ j,f⟩
 |rk C r=>
  obtain⟨p,o,d,v,u,b,c⟩:=g;exact⟨p,o,d,v,u,b,c.up s⟩
def C9{Ex:cg}{s:Shared}{sc:Scope}(hc:Cel sc)(h: ∀h4:Heap,h4.Ns s.heap.objs.size (λ_=>qw)->(∀b ob,s.heap.get? b=qv ob->h4.get? b=qv ob)->(∀x,qX sc=[x]->h4.IsCell (s.heap.objs.size+1) qw)->
   Q (newEnv sc s.heap.objs.size gl (cellsFrom (s.heap.objs.size+1) sc.names cl) q qw .none (qv o) builtinsNs) {s with heap:=h4}):
  wpAny M A (newFunctionEnv sc gl cl [] q qw .none (qv o)) Q Ex s:=by
 simp only[newFunctionEnv,Option.isSome_some,if_true];refine aa (wpAny_alloc ?_);refine aa (wpAny_layCells _ (λj c d=>by cases i:c==n6<;>simp[i]) _ _ _ _ ?_)
 have f:(s.heap.push {cls:=.type "dict",data:=.dict #[]}).Ns s.heap.objs.size (λ_=>qw):=Heap.Ns.new s.heap (.type "dict")
 have g: ∀b ob,s.heap.get? b=qv ob->(pushCells (s.heap.push {cls:=.type "dict",data:=.dict #[]}) sc.names).get? b=qv ob:=λb ob e=>pushCells_keeps _ _ b ob (af _ e)
 have l:(s.heap.push {cls:=.type "dict",data:=.dict #[]}:Heap).objs.size=s.heap.objs.size+1:=ai ..;rw[List.forIn_nil];refine aa (ae (ae ?_))
 have:=h _ (f.keeps (pushCells_keeps _ _)) g λx e=>by
  rw[(cf1 (a:=0) (acc:=[]) e).2];refine⟨{cls:=.type "cell",data:=.cell qw},?_,rfl⟩;rw[<-l];exact ag _ rfl
 rw[<-l]at this;exact this
def rH{W:Prop}(hw:W->∀ρ y,fe ρ≠ .ok y){J:It}{ds all:List D}{itA:Addr}{tn:Nat->Heap->Prop}{RR:Value->Addr->Result->Shared->Prop}{Ex:cg}(hc:X.calm=qz)(I2:Inv X cf σ H2 s2)(T:Turn X.prog X.w X.K tg J fp itA tn)(st2:tn 0 s2.heap)
  (f2: ∀b∈fp,t3 X cf H2 b) (hit:ItH X ad J G2 H2 ds) (hgo:bR (dG k cs fc fe) ds=qv all) (hG2:Same G2 H2)
  (hk:sc.kind= .function) (hC:Cel sc)
  (hfree: ∀x,(x,n5)∈sc.names->X.env.kindOf x=qv .cell\/X.env.kindOf x=qv .free) (hnd: ∀x,(x,n5)∈sc.names->sc.names.lookup x=qv .free)
  {σc:St} (hl:σc.length=N'.length) (hσ: ∀(i:Nat) (x:Str) (v:V),N'[i]? =qv x->σc[i]? =qv (qv v)->∃j:Nat,X.N[j]? =qv x/\σ[j]? =qv (qv v)/\(x,n5)∈sc.names)
  (hnt:nt=if k=0 then 1 else k) (hsl:SL X.K ad G2 H2 (ak nt .no++cs) σc)
  (hg: ∀s3 H3 pins',PG (cX X N' sc s3 H3 fp pins') tg (gTg X.K k)) (hts: ∀s3 H3 pins',MTs (cX X N' sc s3 H3 fp pins') ad ifs fc) (he: ∀s3 H3 pins',ME (cX X N' sc s3 H3 fp pins') ad elt fe)
  (hEnd: ∀(s3 s':Shared) (H3 H' G':Hp) (σ':St) (D:Addr) (vs:List V),Inv X cf σ H3 s3->(∀b∈fp,t3 X cf H3 b)->Inv (cX X N' sc s3 H3 fp cf) [] σ' H' s'->Step G2 H2 G' H'->H2 D=qw->G' D=qw->H' D=qv (.lst vs)->aJ X.K ad G' all vs->(W->RN X.K ad H2 G' all vs)->RR (.ref D) s3.heap.objs.size (.ok .next) s'):
  wpAny (model X.prog X.w) X.A (newList []) (λacc s₃=>wpAny (model X.prog X.w) X.A (newFunctionEnv sc X.env.globals (tV X.env.cells sc.names []) [] X.env.qual qw .none (qv X.env)) (λcenv s₄=>
   codeAny (model X.prog X.w) X.A (.compStart (.ListComp elt [⟨tg,it,ifs,0⟩] sc pos) 0 (.ref itA) acc {cenv with scope:=relabel sc X.env}) (RR acc cenv.locals) s₄) Ex s₃) Ex s2:=by
 refine wpAny_newObj_type ?_
 have hD:H2 s2.heap.objs.size=qw:=I2.fresh
 have I3:Inv X cf σ (upd H2 s2.heap.objs.size (.lst [])) {s2 with heap:=s2.heap.push {cls:=.type "list",data:=.seq ([]:List Value).toArray} }:=I2.lnew (t':=s2.toks) .nil (cb _)
 generalize e3:({s2 with heap:=s2.heap.push {cls:=.type "list",data:=.seq ([]:List Value).toArray} }:Shared)=s3 at I3
 have a1:s3.heap.objs.size=s2.heap.objs.size+1:=by rw[<-e3];exact ai ..
 have c9: ∀b o,s2.heap.get? b=qv o->s3.heap.get? b=qv o:=λb o e=>by rw[<-e3];exact af _ e
 generalize eD:s2.heap.objs.size=D at hD I3 a1 ⊢;generalize eH:upd H2 D (.lst [])=H3 at I3
 have ck:H3 D=qv (.lst []):=by rw[<-eH];exact aG
 have a3:Step G2 H2 G2 H3:=by rw[<-eH];exact Step.own hG2 hD
 have as: ∀b∈fp,b<D:=λb t=>by
  obtain⟨o,e,_⟩:=T.obj 0 _ st2 b t;rw[<-eD];exact ah e
 have f3: ∀b∈fp,t3 X cf H3 b:=λb t=>by
  obtain⟨f0,fr⟩:=f2 b t;refine⟨?_,fr⟩;rw[<-eH,aD (bj (as b t))];exact f0
 refine C9 hC λh4 c1 P bv=>?_
 have I4:Inv (cX X N' sc s3 H3 fp cf) [] σc H3 {s3 with heap:=h4}:=
  C8 (t':=s3.toks) (fpO:=f3) I3 hk hC hfree hnd (λb t=>bh (as b t) (by rw[a1];exact ph _)) c1 P bv hl hσ
 have ch:tn 0 h4:=T.keep _ _ _ st2 λb t o e=>P b o (c9 b o e)
 have few:=hit.few
 -- what holds of the iterator's objects in the block
 have ap: ∀{H':Hp},(∀b∈fp,H' b=qw)->∀b∈fp,t3 (cX X N' sc s3 H3 fp cf) [] H' b:=λ{H'} hn b t=>by
  obtain⟨f0,f1,da,dk,f4,f5⟩:=f3 b t;refine⟨hn b t,?_,λz=>?_,.inl t,λx c h=>?_,λq hq=>?_⟩
  ·have bm:D<=s3.heap.objs.size:=by rw[a1];exact ph _
   exact bj (bh (as b t) bm)
  ·rcases au.mp (I3.stkSub b z)with z|z
   ·exact f1 z
   ·exact da z
  ·rcases fL hC h with ⟨_,z⟩|h'
   ·have bm:D<=s3.heap.objs.size:=by rw[a1];exact ph _
    rw[z];exact(bj (jz (bh (as b t) bm))).symm
   rcases oY h' with ⟨kk,h1,h2,h3⟩|h
   ·subst h2;obtain⟨c',b5⟩:=I3.ok.has x (hfree x h1);rw[b5]at h3
    have e:c=c':=h3
    rw[e];exact f4 x c' b5
   ·cases h
  ·have h2:q∈(X.pn++cf)++[]:=hq;rw[mf]at h2;exact f5 q h2
 have bc: ∀s4:Shared,s4={s3 with heap:=h4}->
   codeAny (model X.prog X.w) X.A (.compLoop (.ListComp elt [⟨tg,it,ifs,0⟩] sc pos) 0 (.ref itA) (.ref D) (cX X N' sc s3 H3 fp cf).env) (RR (.ref D) s3.heap.objs.size) s4:=by
  rintro s4 rfl
  obtain⟨Iv,b1⟩: ∃Iv:Nat->Shared->Prop, ∀n s',Iv n s'↔ ∃(i:Nat) (σ':St) (H' G':Hp) (ys eU:List SK.D) (vs:List V),Inv (cX X N' sc s3 H3 fp cf) [] σ' H' s'/\tn i s'.heap/\(∀b∈fp,H' b=qw)/\Step G2 H2 G' H'/\G' D=qw/\H' D=qv (.lst vs)/\aJ X.K ad G' ys vs/\
   bR (dG k cs fc fe) (ds.drop i)=qv eU/\ys++eU=all/\i<=ds.length/\n=ds.length-i/\ys.length<=i/\SL X.K ad G' (hid D H') (ak nt .no++cs) σ'/\(W->RN X.K ad H2 G' ys vs):=⟨_,λ_ _=>Iff.rfl⟩
  refine uG Iv ?_ ds.length
   ((b1 _ _).mpr ⟨0,σc,H3,G2,[],all,[],I4,ch,λb t=>(f3 b t).1,a3,rC hG2 hD,ck,aJ.nil,hgo,rfl,cb _,rfl,aj _,by rw[<-eH,AD,KA hD];exact hsl,λ_=>.nil⟩)
  intro n s5 c8;obtain⟨i,a6,H5,G5,ys,eU,vs,I5,b2,b6,a0,b3,cj,r5,an,al,dj,rfl,dn,cx,be⟩:=(b1 _ _).mp c8
  by_cases ca:i<ds.length
  ·-- a turn
   have ed:ds[i]? =qv ds[i]:=by simp[ca]
   generalize ds[i]=d at ed
   have bw:ds.drop i=d::ds.drop (i+1):=by
    rw[ew ca]
    congr 1
    have:=ax.mp ed
    exact this.2
   rw[bw]at an;obtain⟨go,yl⟩:=hit.go i G5 H5 d a0 ed;refine L2.thn (T.item (cX X N' sc s3 H3 fp cf) rfl rfl rfl hc i [] s5 a6 H5 (λ_ _=>False) I5 (ap b6) b2 go) λr s6 g=>?_
   obtain⟨u,hr,h6⟩:=g;subst hr;refine L2.thn h6 λ_ s7 g=>?_
   obtain⟨x,H7,I7,r7,y7,bt,c2⟩:=g;obtain⟨G7,p,cv⟩:=yl x H7 y7;have c4:=I7.pinned (ap c2) (T.obj _ _ bt);obtain⟨br,cn⟩:=eI p b3 cj;have db:=cx.step (kT p br)
   -- the target
   have bx: ∃E,tgt k d=qv E:=by
    cases z:tgt k d with
    |some E=>exact⟨E,rfl⟩
    |none=>
     exfalso;rcases lS an with ⟨e,_⟩|⟨Z,_,e,_,_⟩<;>(unfold dG at e;rw[z]at e;cases e)
   obtain⟨E,b0⟩:=bx;obtain⟨cu,gt⟩:=Kz (W:=λσ' H'=>H'=H7/\SL X.K ad G7 (hid D H7) (E++cs) σ') b0 hnt p.gh cv db (λσ' _ q=>⟨rfl,q⟩)
   refine L2.thn (hg s3 H3 cf _ s7 a6 H7 x u _ c4 r7 gt) λ_ s8 g=>?_
   obtain⟨O,H8,I8,e8,a2⟩:=g;subst e8
   -- L, at the turn's end
   have L: ∀{s9:Shared} {U Y:Hp} {Q G:List SK.D} {ar:List V},Inv (cX X N' sc s3 H3 fp cf) ([]++nH fp s7.heap) O U s9->Step G2 H2 Y U->Y D=qw->U D=qv (.lst ar)->aJ X.K ad Y Q ar->bR (dG k cs fc fe) (ds.drop (i+1))=qv G->Q++G=all->Q.length<=i+1->
     SL X.K ad Y (hid D U) (E++cs) O->(W->RN X.K ad H2 Y Q ar)->∃m,m<ds.length-i/\Iv m s9:=by
    intro s9 U Y Q G ar I9 f M ab r9 cw c6 cy a5 cp;refine⟨ds.length-(i+1),by lia,(b1 _ _).mpr ⟨i+1,O,U,Y,Q,G,ar,I9.unpinned,T.keep _ _ _ bt λb t o e=>(I9.pin (b,o) (bz _ (bz _ (gM t e)))).1,λb t=>?_,f,M,ab,r9,cw,c6,by lia,rfl,cy,?_,cp⟩⟩
    ·obtain⟨o,e,d'⟩:=T.obj _ _ bt b t;exact(I9.pin (b,o) (bz _ (bz _ (gM t e)))).2.1
    ·have:=AB a5
     rwa [cu]at this
   have bp:XP (cX X N' sc s3 H3 fp cf) ad O (λ_ _=>False):=C7 rfl
   have bd:Step G2 H2 G7 H8:=a0.trans p
   -- the element
   have a7: ∀{s9:Shared} {U Y:Hp} (Z:SK.D) (B:List SK.D),Inv (cX X N' sc s3 H3 fp cf) ([]++nH fp s7.heap) O U s9->Step G7 H8 Y U->(fe (E++cs)= .ok Z\/∃l,fe (E++cs)= .ow l/\Z= .lst l)->bR (dG k cs fc fe) (ds.drop (i+1))=qv B->eU=Z::B->
     wpAny (model X.prog X.w) X.A (eval elt (cX X N' sc s3 H3 fp cf).env) (λx s₄=>wpAny (model X.prog X.w) X.A (call (.builtin "list.append") [.ref D,x]) (λ_ b4=>∃m,m<ds.length-i/\Iv m b4) (λ_ _=>False) s₄) (λ_ _=>False) s9:=by
    intro s9 U Y Z B I9 f hf s H;obtain⟨M,ab⟩:=eI f br cn;have a5:=a2.step (kT f M);refine L2.thn (ME.val (X:=cX X N' sc s3 H3 fp cf) (he s3 H3 cf) I9 f.gh (a5.up AC) bp hf) λcq ct g=>?_
    obtain⟨S,a4,ac,cr,dh,I,de,b7⟩:=g;obtain⟨am,cm⟩:=eI I M ab
    have cd:vs.length<sizeLine:=by
     have:=r5.length
     lia
    refine L2.thn (lI (X:=cX X N' sc s3 H3 fp cf) _ ct O ac (.ref D) [S] (.ref D) [cq] (λ_ H'=>H'=upd ac D (.lst (vs++[S]))) cr rfl (.cons dh .nil) ⟨D,vs,S,rfl,rfl,cm,cd,rfl⟩) λ_ dm g=>?_
    obtain⟨_,dl,cz,_,c7⟩:=g;subst c7;have c5:Step G2 H2 a4 ac:=(bd.trans f).trans I;have df:Step G2 H2 a4 (upd ac D (.lst (vs++[S]))):=rG c5 hD am;have rA:aJ X.K ad a4 (ys++[Z]) (vs++[S]):=((r5.mono p.sg).mono f.sg).mono I.sg |>.append (aJ.cons de aJ.nil)
    have c3:SL X.K ad a4 (hid D (upd ac D (.lst (vs++[S])))) (E++cs) O:=by
     rw[AD];exact a5.step (kT I am)
    refine L cz df am aG rA s ?_ (by simp;lia) c3 λw=>((((be w).mono p.sg).mono f.sg).mono I.sg).snoc ((b7 (hw w _)).up (bd.trans f).sh (Same.refl _))
    rw[List.append_assoc];rw[H]at al;exact al
   rcases lS an with ⟨e,s⟩|⟨Z,B,e,s,H⟩
   ·-- left out
    unfold dG at e;rw[b0]at e
    cases fc with
    |none=>
     exfalso
     simp only at e
     cases z:fe (E++cs)<;>rw[z]at e<;>cases e
    |some f0=>
     simp only at e
     have C:=hts s3 H3 cf
     match ifs,C with
     |[c0],C=>
      have hv:f0 (E++cs)= .ok (.bl q4):=by
       cases z:f0 (E++cs)with
       |ok dd=>
        rw[z]at e
        cases dd<;>try (cases e)
        rename_i bb
        cases bb with
        |false=>rfl
        |true=>
         exfalso
         simp only at e
         cases z':fe (E++cs)<;>rw[z']at e<;>cases e
       |ow _=>rw[z]at e;cases e
       |ex _=>rw[z]at e;cases e
       |bad=>rw[z]at e;cases e
      refine wpAny_tests_one (L2.thn (MT.val (X:=cX X N' sc s3 H3 fp cf) C I8 p.gh (a2.up AC) bp hv) λok s9 g=>?_)
      obtain⟨eb,Y,U,I9,f⟩:=g;subst eb;obtain⟨M,ab⟩:=eI f br cn;exact CS (L I9 (bd.trans f) M ab ((r5.mono p.sg).mono f.sg) s al (by lia) (a2.step (kT f M)) λw=>((be w).mono p.sg).mono f.sg)
     |[],C=>exact C.elim
     |_::_::_,C=>exact C.elim
   ·-- taken
    unfold dG at e;rw[b0]at e
    cases fc with
    |none=>
     have C:=hts s3 H3 cf
     match ifs,C with
     |[],_=>
      refine wpAny_tests_nil (CC ?_);refine a7 Z B I8 (Step.refl p.gh) ?_ s H
      simp only at e
      cases z:fe (E++cs)with
      |ok dd=>rw[z]at e;cases e;exact .inl rfl
      |ow l=>rw[z]at e;cases e;exact .inr ⟨l,rfl,rfl⟩
      |ex _=>rw[z]at e;cases e
      |bad=>rw[z]at e;cases e
     |_::r1,C=>cases r1<;>exact az C
    |some f0=>
     simp only at e
     have C:=hts s3 H3 cf
     match ifs,C with
     |[c0],C=>
      have hv:f0 (E++cs)= .ok (.bl qz)/\(fe (E++cs)= .ok Z\/∃l,fe (E++cs)= .ow l/\Z= .lst l):=by
       cases z:f0 (E++cs)with
       |ok dd=>
        rw[z]at e
        cases dd<;>try (cases e)
        rename_i bb
        cases bb with
        |false=>simp only at e;cases e
        |true=>
         simp only at e
         refine⟨rfl,?_⟩
         cases z':fe (E++cs)with
         |ok dd=>rw[z']at e;cases e;exact .inl rfl
         |ow l=>rw[z']at e;cases e;exact .inr ⟨l,rfl,rfl⟩
         |ex _=>rw[z']at e;cases e
         |bad=>rw[z']at e;cases e
       |ow _=>rw[z]at e;cases e
       |ex _=>rw[z]at e;cases e
       |bad=>rw[z]at e;cases e
      refine wpAny_tests_one (L2.thn (MT.val (X:=cX X N' sc s3 H3 fp cf) C I8 p.gh (a2.up AC) bp hv.1) λok s9 g=>?_)
      obtain⟨eb,Y,U,I9,f⟩:=g;subst eb;exact CC (a7 Z B I9 f hv.2 s H)
     |[],C=>exact C.elim
     |_::_::_,C=>exact C.elim
  ·-- the end
   have ei:i=ds.length:=by lia
   subst ei;rw[List.drop_length]at an;cases an;rw[mf]at al;subst al;refine L2.thn (T.done (cX X N' sc s3 H3 fp cf) rfl rfl rfl hc ds.length [] s5 a6 H5 (λ_ _=>False) I5 (ap b6) b2 (hit.stop G5 H5 a0)) λr s6 g=>?_
   obtain⟨hr,I6⟩:=g;subst hr;exact hEnd s3 s6 H3 H5 G5 a6 D vs I3 f3 I6 a0 hD b3 cj r5 be
 exact codeAny_compStart_list (bc _ rfl) (T.self _ 0 _ _ _ ch (bc _ rfl))
def nR{cs:List Nat}{nt:Nat}(hxs:xs.length=nt)(hN:X.N=C.N)(hcs:fW (λx=>fV C x) (bK sc)=qv cs)(hfr: ∀x∈bK sc,(x,n5)∈sc.names)(hS:SL X.K ad G H ρ σ)(hlen:σ.length=X.N.length):
  ∃σc:St,σc.length=(xs++bK sc).length/\(∀(i:Nat) (x:Str) (v:V),(xs++bK sc)[i]? =qv x->σc[i]? =qv (qv v)->∃j:Nat,X.N[j]? =qv x/\σ[j]? =qv (qv v)/\(x,n5)∈sc.names)/\
   SL X.K ad G H (ak nt .no++jK cs ρ) σc:=by
 have s: ∀(f:List Str) (m:List Nat),fW (λx=>fV C x) f=qv m->m.length=f.length/\∀(i:Nat) (y:Str),f[i]? =qv y->∃j,m[i]? =qv j/\C.N[j]? =qv y:=by
  intro f
  induction f with
  |nil=>intro m e;cases e;exact⟨rfl,λi y h=>by simp at h⟩
  |cons y r Q=>
   intro m e;unfold fW at e
   cases b:fV C y with
   |none=>rw[b]at e;cases e
   |some j=>
    rw[b]at e;obtain⟨p,P,J⟩:=zMd e;subst J;obtain⟨M,L⟩:=Q p P;refine⟨by simp[M],λi z h=>?_⟩
    cases i with
    |zero=>
     simp at h
     subst h;refine⟨j,rfl,?_⟩
     have d:idx y C.N=qv j:=by
      unfold fV at b;split at b
      ·exact b
      ·exact b
      ·cases b
     exact jO d
    |succ i=>
     obtain⟨O,g,c⟩:=L i z (by simpa using h)
     exact⟨O,by simpa using g,c⟩
 obtain⟨k1,k2⟩:=s (bK sc) cs hcs;refine⟨ak nt qw++cs.map (λj=>(σ[j]?).getD qw),by simp[k1,hxs],λi x v g c=>?_,?_,λi u e=>?_⟩
 ·by_cases a:i<nt
  ·rw[cc (by simpa using a),fy,if_pos a]at c
   cases c
  ·rw[bo (by simpa using a),ic,ju]at c
   rw[bo (by lia),hxs]at g
   obtain⟨j,I,S⟩:=k2 (i-nt) x g;rw[I]at c
   have o:(σ[j]?).getD qw=qv v:=lz c
   refine⟨j,by rw[hN];exact S,?_,hfr x (List.mem_of_getElem? g)⟩
   cases q:σ[j]? with
   |none=>rw[q]at o;cases o
   |some A=>rw[q]at o;exact congrArg qv o
 ·simp[jK]
 ·by_cases a:i<nt
  ·rw[cc (by simpa using a),fy,if_pos a]at e
   cases e;refine⟨qw,?_,trivial⟩;rw[cc (by simpa using a),fy,if_pos a]
  ·rw[bo (by simpa using a),ic]at e
   unfold jK at e;rw[ju]at e
   cases q:cs[i-nt]? with
   |none=>rw[q]at e;cases e
   |some j=>
    rw[q]at e
    have n:(ρ[j]?).getD .no=u:=lz e
    refine⟨(σ[j]?).getD qw,?_,?_⟩
    ·rw[bo (by simpa using a),ic,ju,q]
     rfl
    ·cases q2:ρ[j]? with
     |none=>rw[q2]at n;subst n;trivial
     |some l=>
      rw[q2]at n
      have t:l=u:=n
      subst t;obtain⟨A,E,B⟩:=hS.at_ j l q2;rw[E];exact B
end
open PySem.W
noncomputable def Its(x:Str):It:=⟨λi _=>i<x.cps.size,λi H v H'=>H'=H/\∃c,x.cps[i]? =qv c/\v= .str ⟨#[c]⟩,λi _=>x.cps.size<=i⟩
def Da{K:og}(it:Addr)(hty:ty="str_ascii_iterator"\/ty="str_iterator"):Turn P w K tg (Its x) [it] it (λi h=>h.IsStrIter it ty x t i) where
 mem:=by simp
 obj:=λi h st b f=>by
  have e:b=it:=by simpa using f
  subst e;obtain⟨o,e,c,d⟩:=st;exact⟨o,e,λv z=>by rw[d]at z;cases z⟩
 keep:=λi h a st k=>by
  obtain⟨o,e,r⟩:=st;exact⟨o,k it (by simp) o e,r⟩
 item:=by
  intro X Z T Y N i O s U H E I L st S;subst Z T Y;have m:i<x.cps.size:=S;obtain⟨G,J,f2,M,B,C⟩:=L it (by simp)
  have q: ∀(a:Heap),a.IsStrIter it ty x t (i+1)->(∀b o,b≠it->s.heap.get? b=qv o->a.get? b=qv o)->∀(p:Nat) (u:Tok), ∃u',(qv (qi ⟨#[x.cps[i]]⟩ u):Option Value)=qv u'/\wpAny (model X.prog X.w) X.A (letOwnedTupleGo tg (.ref it) u') (λ_ s2=>∃y H',Inv X O U H' s2/\bG y u'/\(Its x).yld i H y H'/\s2.heap.IsStrIter it ty x t (i+1)/\∀b∈[it],H' b=qw) E {s with heap:=a,toks:=p}:=by
   intro a n sb p u;have I1:Inv X O U H {s with heap:=a,toks:=p}:=I.turned (t':=p) (λb o f e=>sb b o f e) G J M B C
   obtain⟨o,e,c,d⟩:=id n;refine⟨_,rfl,zT (s:={s with heap:=a,toks:=p}) e c d (by rcases hty with rfl|rfl<;>decide) ⟨.str ⟨#[x.cps[i]]⟩,H,I1,⟨u,rfl⟩,⟨rfl,_,by simp[m],rfl⟩,n,λb f=>(L b f).1⟩⟩
  rcases hty with rfl|rfl
  ·exact wpAny_pyNext_ascii_item st (c:=x.cps[i]) (by simp[m]) λa g j=>q a g (λb o f e=>j.extBut b o f e) _ _
  ·exact wpAny_pyNext_wide_item st (c:=x.cps[i]) (by simp[m]) λa g j=>q a g (λb o f e=>j.extBut b o f e) _ _
 done:=by
  intro X Z T Y N i O s U H E I L st S;subst Z T Y
  have m:x.cps.size<=i:=S
  obtain⟨G,J,f2,M,B,C⟩:=L it (by simp)
  rcases hty with rfl|rfl
  ·exact wpAny_pyNext_ascii_end (I.ok.hd N) st (by simp[m]) λa l=>⟨rfl,I.turned (t':=s.toks) (λb o f e=>l b o f e) G J M B C⟩
  ·exact wpAny_pyNext_wide_end (I.ok.hd N) st (by simp[m]) λa l=>⟨rfl,I.turned (t':=s.toks) (λb o f e=>l b o f e) G J M B C⟩
 self:=λA i s Q E st h=>by
  rcases hty with rfl|rfl
  ·exact wpAny_pyIter_striter_ascii st h
  ·exact wpAny_pyIter_striter_wide st h
section
variable{ad:Ad}
def Gz(hG:Same G H)(few:x.cps.size<=1000):ItH X ad (Its x) G H (yD x):=by
 have a:(yD x).length=x.cps.size:=by simp[yD]
 refine⟨λi f j d st e=>?_,λf j st=>by rw[a];exact aj _,by rw[a];exact ol few (by decide)⟩
 have l: ∃c,x.cps.toList[i]? =qv c/\D.str ⟨#[c]⟩=d:=by simpa[yD]using e
 obtain⟨c,h,rfl⟩:=l
 have b:x.cps[i]? =qv c:=by simpa using h
 refine⟨(Array.getElem?_eq_some_iff.mp b).1,λv H2 m=>?_⟩
 obtain⟨rfl,n,g,rfl⟩:=m;rw[b]at g;cases g;exact⟨f,Step.refl st.gh,by unfold Rep;rfl⟩
end
section
variable{X:Cx}{ad:Ad}{s3:Shared}{σ:St}{H H2 H3 G G2:Hp}{ρ:Rho}{Q:VK}{E:Nat->Hp->Prop}{pos:Pos}{sc:Scope}{fp:List Addr}{tg it elt:Expr}{ifs:List Expr}{k:Nat}{xs:List Str}{cs:List Nat}{fc:Option F}{fi fe:F}
def Db(h: ∀a b c,it≠ .Set a b c): ∀x,foldedSetIterable it X.env x=pure x:=by
 intro x
 cases it<;>first|rfl|exact absurd rfl (h _ _ _)
structure CompSc(X:Cx)(C:Ctx)(sc:Scope)(xs:List Str)(cs:List Nat):Prop where
 kind:sc.kind= .function
 cell:Cel sc
 names: ∀y∈sc.names,y.2= .local->sc.names.lookup y.1=qv .local
 fre: ∀x,(x,n5)∈sc.names->X.env.kindOf x=qv .cell\/X.env.kindOf x=qv .free
 frl: ∀x,(x,n5)∈sc.names->sc.names.lookup x=qv .free
 N:X.N=C.N
 cs:fW (λx=>fV C x) (bK sc)=qv cs
def rJ(h:x∈bK sc):(x,n5)∈sc.names:=by
 unfold bK at h;obtain⟨p,a,rfl⟩:=aq.mp h;obtain⟨c,b⟩:=l8.mp a;obtain⟨y,d⟩:=p
 have:d= .free:=by simpa using b
 subst this;exact c
noncomputable def RKW(K:og)(ad:Ad)(W:Prop)(G H:Hp)(r:R)(Q:VK)(E:Nat->Hp->Prop):Prop:=match r with
 |.ow xs=>∀p vs G' H',Step G H G' H'->H p=qw->G' p=qw->H' p=qv (.lst vs)->aJ K ad G' xs vs->(W->RN K ad H G' xs vs)->Q (.ref p) H'
 |r=>RK K ad G H r Q E
def RK.w{K:og}(h:RK K ad G H r Q E):RKW K ad W G H r Q E:=by
 cases r with
 |ow d=>exact λp b c a st n m e q _=>h p b c a st n m e q
 |_=>exact h
theorem RKW.step{K:og}(h:RKW K ad W G H r Q E)(st:Step G H G' H'):RKW K ad W G' H' r Q E:=by
 cases r with
 |ow g=>exact λp a f H2 b n m e q w=>h p a f H2 (st.trans b) (st.sh.free n) m e q λz=>Paired.mapP (w z) λ_ _ y=>y.up st.sh (Same.refl _)
 |ok d=>exact RK.step (K:=K) (ad:=ad) (r:=.ok d) (E:=E) h st
 |ex c=>exact RK.step (K:=K) (ad:=ad) (r:=.ex c) (Q:=Q) h st
 |bad=>exact h
def KB{U:Prop}{W:It->Hp->Prop}(hr:RKW X.K ad U G H (aO k cs fi fc fe ρ) Q E)
  (q: ∀J G2 H2 ds all,Step G H G2 H2->ItH X ad J G2 H2 ds->bR (dG k (jK cs ρ) fc fe) ds=qv all->RKW X.K ad U G2 H2 (.ow all) Q E->W J H2):IK X ad G H (fi ρ) W E:=by
 unfold aO at hr
 cases e:fi ρ with
 |ok d=>
  rw[e]at hr
  have b:RKW X.K ad U G H (match j6 d with|some ds=>(match bR (dG k (jK cs ρ) fc fe) ds with|some xs=>.ow xs|none=>.bad)|none=>.bad) Q E:=hr
  cases i:j6 d with
  |none=>rw[i]at b;exact b.elim
  |some ds=>
   rw[i]at b
   have a:RKW X.K ad U G H (match bR (dG k (jK cs ρ) fc fe) ds with|some xs=>.ow xs|none=>.bad) Q E:=b
   cases f:bR (dG k (jK cs ρ) fc fe) ds with
   |none=>rw[f]at a;exact a.elim
   |some all=>
    rw[f]at a;exact⟨ds,i,λJ j h st g=>q J j h ds all st g f (RKW.step a st)⟩
 |ow l=>
  rw[e]at hr
  have a:RKW X.K ad U G H (match bR (dG k (jK cs ρ) fc fe) l with|some xs=>.ow xs|none=>.bad) Q E:=hr
  cases f:bR (dG k (jK cs ρ) fc fe) l with
  |none=>rw[f]at a;exact a.elim
  |some all=>
   rw[f]at a;exact λJ j h st g=>q J j h l all st g f (RKW.step a st)
 |ex c=>rw[e]at hr;exact hr
 |bad=>rw[e]at hr;exact hr
def tEW(X:Cx)(ad:Ad)(W:Prop)(f:F):TE:=λσ H Q=>∃G ρ E,Same G H/\SL X.K ad G H ρ σ/\XP X ad σ E/\RKW X.K ad W G H (f ρ) Q E
def Dc{U:Prop}(hw:U->∀ρ y,fe ρ≠ .ok y){C:Ctx}(hc:X.calm=qz)(S:CompSc X C sc xs cs)(hi:MI X ad tg it fi)(hset: ∀a b c,it≠ .Set a b c)(hxs:xs.length=if k=0 then 1 else k)
  (hg: ∀fp s3 H3 pins',PG (cX X (xs++bK sc) sc s3 H3 fp pins') tg (gTg X.K k)) (hts: ∀fp s3 H3 pins',MTs (cX X (xs++bK sc) sc s3 H3 fp pins') ad ifs fc) (he: ∀fp s3 H3 pins',ME (cX X (xs++bK sc) sc s3 H3 fp pins') ad elt fe):
  PE X (.ListComp elt [⟨tg,it,ifs,0⟩] sc pos) (tEW X ad U (aO k cs fi fc fe)):=by
 rintro Z s σ H Q I ⟨G,ρ,E,hG,z,p,hr⟩;rw[eval_ListComp]
 have l:closureFor sc X.env=pure (tV X.env.cells sc.names []):=nQ λx p=>by
  obtain⟨c,h⟩:=I.ok.has x (S.fre x p);rw[h];rfl
 refine wpAny_comprehension_free (use:=qw) rfl (Db hset) l S.kind S.names ?_;show wpAny (model X.prog X.w) X.A (eval it X.env) _ X.xe s
 refine L2.thn (hi Z s σ H _ I ⟨G,ρ,E,hG,z,p,KB (W:=λJ H2=>∃f g all,Step G H f H2/\ItH X ad J f H2 g/\bR (dG k (jK cs ρ) fc fe) g=qv all/\RKW X.K ad U f H2 (.ow all) Q E) hr λJ f H2 g all a b c d=>⟨f,g,all,a,b,c,d⟩⟩) λv s1 h1=>
  L2.thn h1 λac s2 r=>?_
 obtain⟨al,fp,tn,J,H2,e,M,T,t,f2,f,g,all,B,hit,o,j⟩:=r;subst e;obtain⟨σc,l1,l2,l3⟩:=nR (xs:=xs) (sc:=sc) (nt:=if k=0 then 1 else k) hxs S.N S.cs (λx h=>rJ h) (z.step B) M.len
 refine rH (σc:=σc) hw hc M T t f2 hit o B.gh S.kind S.cell S.fre S.frl l1 l2 rfl l3 (hg fp) (hts fp) (he fp) λs3 s' H3 O G' ab D P I3 f3 L n hD gD i r' q=>?_
 obtain⟨m,u,_⟩:=L.loc;refine⟨m,u,λh' Y=>⟨.ref D,O,EQ (fpO:=f3) I3 L Y,rfl,j D P G' O n hD gD i r' q⟩⟩
def GA{C:Ctx}(hc:X.calm=qz)(S:CompSc X C sc xs cs)(hi:MI X ad tg it fi)(hset: ∀a b c,it≠ .Set a b c)(hxs:xs.length=if k=0 then 1 else k)
  (hg: ∀fp s3 H3 pins',PG (cX X (xs++bK sc) sc s3 H3 fp pins') tg (gTg X.K k)) (hts: ∀fp s3 H3 pins',MTs (cX X (xs++bK sc) sc s3 H3 fp pins') ad ifs fc) (he: ∀fp s3 H3 pins',ME (cX X (xs++bK sc) sc s3 H3 fp pins') ad elt fe):
  ME X ad (.ListComp elt [⟨tg,it,ifs,0⟩] sc pos) (aO k cs fi fc fe):=
 PE.imp (Dc (U:=False) az hc S hi hset hxs hg hts he) λj H Q d=>by obtain⟨G,h,E,f,e,i,g⟩:=d;exact⟨G,h,E,f,e,i,g.w⟩
def GB(hq:SqT X.K H a vs)(r:aJ X.K ad G ds vs)(hG:Same G H)(few:vs.length<=sizeLine):ItH X ad (Itt X.K a) G H ds:=by
 refine⟨λi c g d st e=>?_,λc g st=>⟨vs,st.sh.seqT hq,by rw[r.length];exact aj _⟩,by rw[<-r.length];exact few⟩
 obtain⟨v,b,f⟩:=r.get e;refine⟨⟨vs,v,st.sh.seqT hq,b⟩,?_⟩;rintro x H2 ⟨rfl,y⟩
 have:=y vs (st.sh.seqT hq)
 rw[b]at this;cases this;exact⟨c,Step.refl st.gh,f.mono st.sg⟩
def GC(hq:SqL X.K H a vs)(r:aJ X.K ad G ds vs)(hG:Same G H)(few:vs.length<=sizeLine):ItH X ad (Itl X.K a) G H ds:=by
 refine⟨λi c g d st e=>?_,λc g st=>⟨vs,st.sh.seq hq,by rw[r.length];exact aj _⟩,by rw[<-r.length];exact few⟩
 obtain⟨v,b,f⟩:=r.get e;refine⟨⟨vs,v,st.sh.seq hq,b⟩,?_⟩;rintro x H2 ⟨rfl,y⟩
 have:=y vs (st.sh.seq hq)
 rw[b]at this;cases this;exact⟨c,Step.refl st.gh,f.mono st.sg⟩
def vY(ha:ML X ad a f):MI X ad tg a f:=by
 rintro C s O H W I ⟨G,Z,E,hG,hS,hx,N⟩
 -- the value, then P iterator
 have L: ∀(d:D) (r:List D),items d=qv r->(∀J G' H',Step G H G' H'->ItH X ad J G' H' r->W J H')->∀u g v h i,Inv X C O h g->bG v u->Step G H i h->Seq X ad i h d v->wpAny (model X.prog X.w) X.A (pyIter u) (PIE X C O tg W) X.xe g:=by
  intro d r e M u g v h i j B st q;obtain⟨p,vs,rfl,Q,rq⟩:=q.items st.gh e
  cases (show u=qj p from B)
  rcases Q with ⟨_,Q⟩|⟨_,Q⟩
  ·obtain⟨P,rv,pt,hz⟩:=j.tuple Q;refine wpAny_pyIter_tuple (show g.heap.IsTuple p P.toArray from pt) ?_
   refine⟨g.heap.objs.size,[g.heap.objs.size],_,_,h,rfl,j.kept (t':=g.toks) λb o e=>af _ e,nG p _,⟨_,ag _ rfl,rfl,rfl⟩,λb Y=>?_,M _ i h st (GB Q rq st.gh hz)⟩
   have e:b=g.heap.objs.size:=by simpa using Y
   subst e;exact j.fpOk (aj _) (j.hok.fresh (aj _))
  ·obtain⟨P,rv,pt,hz⟩:=j.list Q;refine wpAny_pyIter_list pt.isList ?_;refine⟨g.heap.objs.size,[g.heap.objs.size],_,_,h,rfl,j.kept (t':=g.toks) λb o e=>af _ e,qA p _,⟨_,ag _ rfl,rfl,rfl⟩,λb Y=>?_,M _ i h st (GC Q rq st.gh hz)⟩
   have e:b=g.heap.objs.size:=by simpa using Y
   subst e;exact j.fpOk (aj _) (j.hok.fresh (aj _))
 have U: ∀(d:D) (r:List D),j6 d=qv r->(∀J G' H',Step G H G' H'->ItH X ad J G' H' r->W J H')->∀u g v h i,Inv X C O h g->bG v u->Step G H i h->Seq X ad i h d v->wpAny (model X.prog X.w) X.A (pyIter u) (PIE X C O tg W) X.xe g:=by
  intro d r e M u g v h i j B st q
  cases d with
  |tup T=>exact L (.tup T) r (show items (.tup T)=qv r from e) M u g v h i j B st q
  |lst T=>exact L (.lst T) r (show items (.lst T)=qv r from e) M u g v h i j B st q
  |str x=>
   have S:(if x.cps.size<=1000 then qv (yD x)else qw)=qv r:=e
   by_cases hl:x.cps.size<=1000
   ·rw[if_pos hl]at S;cases S
    have q':Rep X.K ad i (.str x) v:=by
     rcases q with q|⟨_,_,_,z,_⟩
     ·exact q
     ·cases z
    unfold Rep at q';subst q';obtain⟨t,rfl⟩:=(show ∃t,u=qi x t from B)
    have go: ∀(ty:String) (o:Obj),(ty="str_ascii_iterator"\/ty="str_iterator")->(g.heap.push o).IsStrIter g.heap.objs.size ty x t 0->PIE X C O tg W (.ref g.heap.objs.size) {g with heap:=g.heap.push o}:=λty o ab ac=>by
     refine⟨g.heap.objs.size,[g.heap.objs.size],_,_,h,rfl,j.kept (t':=g.toks) λb o e=>af _ e,Da _ ab,ac,λb Y=>?_,M _ i h st (Gz st.gh hl)⟩
     have e:b=g.heap.objs.size:=by simpa using Y
     subst e;exact j.fpOk (aj _) (j.hok.fresh (aj _))
    cases hA:x.cps.all (· <128)
    ·exact wpAny_pyIter_wide hA (go _ _ (.inr rfl) ⟨_,ag _ rfl,rfl,rfl⟩)
    ·exact wpAny_pyIter_ascii hA (go _ _ (.inl rfl) ⟨_,ag _ rfl,rfl,rfl⟩)
   ·rw[if_neg hl]at S;cases S
  |_=>cases e
 cases e:f Z with
 |ok d=>
  rw[e]at N;obtain⟨r,e2,M⟩:=N;exact L2.thn (ha C s O H (λv h=>∃i,Step G H i h/\Seq X ad i h d v) I ⟨G,Z,E,hG,hS,hx,by rw[e];exact λv i h st q=>⟨i,st,q⟩⟩) λu g y=>by obtain⟨v,h,j,B,i,st,q⟩:=y;exact U d r e2 M u g v h i j B st q
 |ow l=>
  rw[e]at N;exact L2.thn (ha C s O H (λv h=>∃i,Step G H i h/\Rep X.K ad i (.lst l) v) I ⟨G,Z,E,hG,hS,hx,by rw[e];exact λp vs i h st n m S q=>cS st n m S q⟩) λu g y=>by obtain⟨v,h,j,B,i,st,q⟩:=y;exact U (.lst l) l rfl N u g v h i j B st (.inl q)
 |ex c=>
  rw[e]at N;exact L2.thn (ha C s O H (λv h=>False) I ⟨G,Z,E,hG,hS,hx,by rw[e];exact N⟩) λu g y=>by obtain⟨v,h,j,B,q⟩:=y;exact q.elim
 |bad=>
  rw[e]at N;exact az N
def GD{lo:Int}(hG:Same G H)(few:n<=sizeLine):ItH X ad (Itr lo n) G H ((pw n).map λ(i:Nat)=>D.int (lo+(i:Int))):=by
 refine⟨λi c f d st e=>?_,λc f st=>by simp[Itr],by simpa using few⟩
 rw[ju]at e
 cases q:(pw n)[i]? with
 |none=>rw[q]at e;cases e
 |some j=>
  rw[q]at e;obtain⟨a,b⟩:=ax.mp q;rw[jy]at a;rw[jj]at b;subst b;cases e;refine⟨a,?_⟩;rintro x H2 ⟨rfl,rfl⟩;exact⟨c,Step.refl st.gh,bF⟩
def AE(n:Nat):nM n=(pw n).map λ(i:Nat)=>D.int (0+(i:Int)):=by
 unfold nM
 congr 1
 funext i
 rw[Int.zero_add]
def o0{k:D->R}(hG:Same G H)(hS:SL X.K ad G H ρ σ)(hx:XP X ad σ E)(hr:IK X ad G H ((f ρ).bind k) W E)(q: ∀v d G1 H1,Step G H G1 H1->Rep X.K ad G1 d v->IK X ad G1 H1 (k d) W E->Q' v H1):tE X ad f σ H Q':=by
 have b: ∀{r:R} {G1 H1:Hp},IK X ad G H r W E->Step G H G1 H1->IK X ad G1 H1 r W E:=λ{r G1 H1} h st=>by
  cases r with
  |ok d=>obtain⟨u,e,h⟩:=h;exact⟨u,e,λJ g j a o=>h J g j (st.trans a) o⟩
  |ow l=>exact λJ g j a o=>h J g j (st.trans a) o
  |ex c=>exact λg j a=>h g j (st.trans a)
  |bad=>exact h
 refine⟨G,ρ,E,hG,hS,hx,?_⟩
 cases e:f ρ with
 |ok d=>
  rw[e]at hr;exact λv G1 H1 st r=>q v d G1 H1 st r (b hr st)
 |ow z=>
  rw[e]at hr;intro p y G1 H1 st n m x r;obtain⟨t,i,s⟩:=cS (X:=X) (ad:=ad) st n m x r;exact q _ _ t H1 i s (b hr i)
 |ex c=>
  rw[e]at hr;exact hr
 |bad=>
  rw[e]at hr;exact hr
def Dd(hg:L2.Gl X "range")(hm:X.mg "range"=qw)(ha:ME X ad a f)(hs:starEach [a] X.env=(q4,eval a X.env)::starEach [] X.env):MI X ad tg (.Call (.Name "range" p) [a] [] pos) (bE f):=by
 rintro q s h H W I ⟨G,y,E,t,m,u,o⟩;refine qB (ta:=oQ (tE X ad f) Ev) hg hm (b8 ha cZ hs) hs q s h H W I ?_;show tE X ad f h H λv c=>∃j:Int,[v]=[.int j]/\ -(2^62)<=j/\j<2^62/\W (Itr 0 j.toNat) c
 refine o0 t m u o λv d l c st r k=>?_
 cases d<;>try exact az k
 rename_i i;unfold Rep at r;subst r
 have b:IK X ad l c (if -100000<=i/\i<=100000 then .ok (.lst (nM i.toNat))else .bad) W E:=k
 by_cases g: -100000<=i/\i<=100000
 ·rw[if_pos g]at b;obtain⟨x,e,n⟩:=b;cases e;refine⟨i,rfl,by lia,by lia,n _ l c (Step.refl st.gh) ?_⟩
  rw[AE];exact GD st.gh (by rw[sizeLine_eq];lia)
 ·rw[if_neg g]at b;exact b.elim
end
def gQ(H:Hp)(ρ:Rho)(σ:St)(i:Nat)(as:List Addr):Prop:= ∃C r p dx d l1 l2,ρ[i]? =qv (Slot.rk C r)/\σ[i]? =qv (qv (V.ref p))/\H p=qv (HO.ins C dx [("held",V.ref d),("done",V.ref l1),("undone",V.ref l2)])/\as=[p,dx,d,l1,l2]
structure RS(H₀ H:Hp)(ρ:Rho)(σ:St):Prop where
 h0: ∀i as,gQ H ρ σ i as->∀a∈as,H₀ a=qw
 ow: ∀i as,gQ H ρ σ i as->∀a∈as, ∀(j:Nat) (sl:Slot),ρ[j]? =qv sl->sl.owns=qz->σ[j]? ≠qv (qv (.ref a))
 rr: ∀i j as as' a,gQ H ρ σ i as->gQ H ρ σ j as'->a∈as->a∈as'->i=j
section
variable{K:og}{ad:Ad}
def gQ.in(h:SL K ad G H ρ σ)(f:gQ H ρ σ i as): ∃C r p dx d l1 l2,ρ[i]? =qv (.rk C r)/\σ[i]? =qv (qv (V.ref p))/\RackIn K ad C G H p r dx d l1 l2/\as=[p,dx,d,l1,l2]:=by
 obtain⟨C,r,p,dx,d,l1,l2,a,b,l,c⟩:=f;obtain⟨n,j,m,e,g,q1,q2⟩:=h.rk a;rw[b]at q1;cases q1
 have:=q2.ins
 rw[l]at this;cases this;exact⟨C,r,p,dx,d,l1,l2,a,b,q2,c⟩
theorem gQ.at(h:SL K ad G H ρ σ)(f:gQ H ρ σ i as): ∀a∈as,G a=qw/\H a≠qw:=by
 obtain⟨C,r,p,n,d,v,t,j,l,q,rfl⟩:=f.in h;obtain⟨g,b,u⟩:=q.held;obtain⟨y,e,o⟩:=q.done;obtain⟨x,c,s⟩:=q.undone;intro a m;simp only[au,k7,or_false]at m;rcases m with rfl|rfl|rfl|rfl|rfl
 ·exact⟨q.gp,by rw[q.ins];exact λz=>nomatch z⟩
 ·exact⟨q.gx,by rw[q.own];exact λz=>nomatch z⟩
 ·exact⟨q.gd,by rw[b];exact λz=>nomatch z⟩
 ·exact⟨q.g1,by rw[e];exact λz=>nomatch z⟩
 ·exact⟨q.g2,by rw[c];exact λz=>nomatch z⟩
def gQ.back(h:SL K ad G H ρ σ)(s:Same H H1)(f:gQ H1 ρ σ i as):gQ H ρ σ i as:=by
 obtain⟨C,r,p,g,d,l,j,a,b,o,c⟩:=f;obtain⟨t,n,q,e,m,q1,q2⟩:=h.rk a;rw[b]at q1;cases q1
 have:=s _ _ q2.ins
 rw[o]at this;cases this;exact⟨C,r,p,g,d,l,j,a,b,q2.ins,c⟩
def RS.same(R:RS H₀ H ρ σ)(h:SL K ad G H ρ σ)(s:Same H H1):RS H₀ H1 ρ σ:=
 ⟨λi b f=>R.h0 i b (f.back h s),λi b f=>R.ow i b (f.back h s),λi j b c a f d=>R.rr i j b c a (f.back h s) (d.back h s)⟩
def gQ.unset(w:sn.isRk=q4)(f:gQ H (ρ.set i sn) (σ.set i ov) k as):k≠i/\gQ H ρ σ k as:=by
 obtain⟨C,r,p,h,d,l,j,a,b,m,e⟩:=f
 have c:k≠i:=λz=>by
  subst z;have g:k<ρ.length:=by have:=(ax.mp a).1;rwa [mn]at this
  rw[bn g]at a;cases a;cases w
 rw[ba (qu c)]at a b;exact⟨c,C,r,p,h,d,l,j,a,b,m,e⟩
theorem RS.set(R:RS H₀ H ρ σ)(w:sn.isRk=q4)(n: ∀a,sn.owns=qz->ov=qv (.ref a)->∀k as,gQ H ρ σ k as->a∉as):RS H₀ H (ρ.set i sn) (σ.set i ov):=by
 refine⟨λk as f=>R.h0 k as (f.unset w).2,λk as f a h j p b g c=>?_,λk m as d a f o=>R.rr k m as d a (f.unset w).2 (o.unset w).2⟩
 by_cases z:j=i
 ·subst z;have l:j<ρ.length:=by have:=(ax.mp b).1;rwa [mn]at this
  have e:j<σ.length:=by have:=(ax.mp c).1;rwa [mn]at this
  rw[bn l]at b;rw[bn e]at c;cases b;cases c;exact n a g rfl k as (f.unset w).2 h
 ·rw[ba (qu z)]at b c;exact R.ow k as (f.unset w).2 a h j p b g c
def gQ.reset(w:sn.isRk=q4)(f:gQ H (ρ.set i sn) σ k as):gQ H ρ σ k as:=by
 obtain⟨C,r,p,g,d,j,h,a,b,m,c⟩:=f
 have l:k≠i:=λz=>by
  subst z;have e:k<ρ.length:=by have:=(ax.mp a).1;rwa [mn]at this
  rw[bn e]at a;cases a;cases w
 rw[ba (qu l)]at a;exact⟨C,r,p,g,d,j,h,a,b,m,c⟩
def RS.re(R:RS H₀ H ρ σ)(w:sn.isRk=q4)(e:ρ[i]? =qv sl₀)(w₀:sl₀.owns=qz):RS H₀ H (ρ.set i sn) σ:=by
 refine⟨λk b f=>R.h0 k b (f.reset w),λk b f a g j o d l h=>?_,λk m b c a f n=>R.rr k m b c a (f.reset w) (n.reset w)⟩
 by_cases z:j=i
 ·subst z;exact R.ow k b (f.reset w) a g j sl₀ e w₀ h
 ·rw[ba (qu z)]at d;exact R.ow k b (f.reset w) a g j o d l h
def RackIn.ups(h:RackIn K ad C G H p r dx d l1 l2)(ha:a∉[p,dx,d,l1,l2]):RackIn K ad C G (upd H a o) p r dx d l1 l2:=by
 simp only[au,k7,or_false,not_or]at ha;obtain⟨q,e,n,m,j⟩:=ha;obtain⟨b,g,i⟩:=h.held;obtain⟨u,f,l⟩:=h.done;obtain⟨s,t,c⟩:=h.undone;exact⟨by rw[aD (qu q)];exact h.ins,by rw[aD (qu e)];exact h.own,⟨b,by rw[aD (qu n)];exact g,i⟩,⟨u,by rw[aD (qu m)];exact f,l⟩,⟨s,by rw[aD (qu j)];exact t,c⟩,h.ne,h.gp,h.gx,h.gd,h.g1,h.g2⟩
def RackIn.shr(h:RackIn K ad C G H p r dx d l1 l2)(ha:a∉[p,dx,d,l1,l2])(le:Same G (upd G a o)):RackIn K ad C (upd G a o) H p r dx d l1 l2:=by
 simp only[au,k7,or_false,not_or]at ha;obtain⟨q,e,n,m,j⟩:=ha;obtain⟨b,g,i⟩:=h.held;obtain⟨u,f,l⟩:=h.done;obtain⟨s,t,c⟩:=h.undone;exact⟨h.ins,h.own,⟨b,g,i.mono le⟩,⟨u,f,l.mono le⟩,⟨s,t,c.mono le⟩,h.ne,by rw[aD (qu q)];exact h.gp,by rw[aD (qu e)];exact h.gx,by rw[aD (qu n)];exact h.gd,by rw[aD (qu m)];exact h.g1,by rw[aD (qu j)];exact h.g2⟩
end
structure SS(X:Cx)(ad:Ad)(G₀ G H:Hp)(ρ:Rho)(σ:St):Prop where
 st:Step G₀ X.H₀ G H
 sl:SL X.K ad G H ρ σ
 ow: ∀(i:Nat) (sl:Slot) (a:Addr),ρ[i]? =qv sl->sl.owns=qz->σ[i]? =qv (qv (.ref a))->X.H₀ a=qw
 dj: ∀(i j:Nat) (sl sl':Slot) (a:Addr),ρ[i]? =qv sl->ρ[j]? =qv sl'->sl.owns=qz->sl'.owns=qz->σ[i]? =qv (qv (.ref a))->σ[j]? =qv (qv (.ref a))->i=j
 rs:RS X.H₀ H ρ σ
def OKo(X:Cx)(ad:Ad)(G₀:Hp)(o:Out)(D':Ends)(E:St->Nat->Hp->Prop):Prop:=match o with
 |.nx ρ=>∀σ G H,SS X ad G₀ G H ρ σ->D'.nx σ H
 |.bk ρ=>∀σ G H,SS X ad G₀ G H ρ σ->D'.bk σ H
 |.ct ρ=>∀σ G H,SS X ad G₀ G H ρ σ->D'.ct σ H
 |.ex c ρ=>∀σ G H,SS X ad G₀ G H ρ σ->E σ c H
 |.rt (.ok d)=>∀v G H,Step G₀ X.H₀ G H->Rep X.K ad G d v->D'.rt v H
 |.rt (.ow xs)=>∀p vs G H,Step G₀ X.H₀ G H->X.H₀ p=qw->G p=qw->H p=qv (.lst vs)->aJ X.K ad G xs vs->D'.rt (.ref p) H
 |.rt _=>False
def XA(X:Cx)(ad:Ad)(Z:(St->Nat->Hp->Prop)->Prop)(E:St->Nat->Hp->Prop):Prop:=(∀σ,XP X ad σ (E σ))/\Z E
def tS(X:Cx)(ad:Ad)(Z:(St->Nat->Hp->Prop)->Prop)(g:FS):TS:=λD' σ H=>∃G₀ G ρ E,SS X ad G₀ G H ρ σ/\XA X ad Z E/\OKo X ad G₀ (g ρ) D' E
abbrev MS(X:Cx)(ad:Ad)(Z:(St->Nat->Hp->Prop)->Prop)(st:Stmt)(g:FS):Prop:=PS X st (tS X ad Z g)
abbrev MSs(X:Cx)(ad:Ad)(Z:(St->Nat->Hp->Prop)->Prop)(st:List Stmt)(g:FS):Prop:=PSs X st (tS X ad Z g)
section
variable{X:Cx}{ad:Ad}{σ:St}{H G G₀:Hp}{ρ:Rho}{st:Stmt}
theorem SS.step(S:SS X ad G₀ G H ρ σ)(t:Step G H G1 H1):SS X ad G₀ G1 H1 ρ σ:=⟨S.st.trans t,S.sl.step t,S.ow,S.dj,S.rs.same S.sl t.sh⟩
def jP{G₀ Gs G H H₀ Hs:Hp}(a:Step G₀ H₀ Gs Hs)(b:Step Gs H₀ G H):Step G₀ H₀ G H:=
 ⟨a.sg.trans b.sg,b.gh,b.sh,λx d c=>by
  cases q:Gs x with
  |none=>exact b.nw x q c
  |some o=>exact a.nw x d (by rw[q];exact λz=>nomatch z)⟩
def SS.up(a:Step G₀ X.H₀ Gs Hs)(S:SS X ad Gs G H ρ σ):SS X ad G₀ G H ρ σ:=⟨jP a S.st,S.sl,S.ow,S.dj,S.rs⟩
def SS.here(S:SS X ad G₀ G H ρ σ):SS X ad G G H ρ σ:=⟨⟨Same.refl _,S.st.gh,S.st.sh,λb c a=>absurd c a⟩,S.sl,S.ow,S.dj,S.rs⟩
def OKo.rebase(h:OKo X ad G₀ o D' E)(a:Step G₀ X.H₀ Gs Hs):OKo X ad Gs o D' E:=by
 cases o with
 |nx f=>exact λb G H S=>h b G H (S.up a)
 |bk f=>exact λb G H S=>h b G H (S.up a)
 |ct f=>exact λb G H S=>h b G H (S.up a)
 |ex c f=>exact λb G H S=>h b G H (S.up a)
 |rt r=>
  cases r with
  |ok d=>exact λv G H st q=>h v G H (jP a st) q
  |ow i=>exact λp g G H st n m e q=>h p g G H (jP a st) n m e q
  |ex c=>exact h
  |bad=>exact h
def eW(S:SS X ad G₀ G H ρ σ)(hx:XA X ad Z E)(hr:OKo X ad G₀ (f8 ρ (f ρ) k) D' E)(q: ∀v d G1 H1,Step G H G1 H1->Rep X.K ad G1 d v->OKo X ad G₀ (k d) D' E->Q' v H1):tE X ad f σ H Q':=by
 refine⟨G,ρ,E σ,S.st.gh,S.sl,hx.1 σ,?_⟩;unfold f8 at hr
 cases e:f ρ with
 |ok d=>rw[e]at hr;exact λv G1 H1 st r=>q v d G1 H1 st r hr
 |ow j=>
  rw[e]at hr;intro p i G1 H1 st n m g r;obtain⟨h,a,b⟩:=cS (X:=X) (ad:=ad) st n m g r;exact q _ _ h H1 a b hr
 |ex c=>rw[e]at hr;exact λG1 H1 st=>hr σ G1 H1 (S.step st)
 |bad=>rw[e]at hr;exact hr
def GE:MS X ad Z (.Pass pos) bN:=PS.imp zQ λf d H a=>by obtain⟨b,G,g,E,S,e,c⟩:=a;exact c d G H S
def AF:MSs X ad Z [] bN:=PSs.imp zP λf d H a=>by obtain⟨b,G,g,E,S,e,c⟩:=a;exact c d G H S
def AG(h1:MS X ad Z st g):MSs X ad Z [st] g:=tZ h1
def vZ(h1:MS X ad Z st g)(h2:MSs X ad Z sts h):MSs X ad Z (st::sts) (aS g h):=by
 refine PSs.imp (iW h1 h2) ?_;rintro o p H ⟨d,G,i,E,S,f,a⟩;refine⟨d,G,i,E,S,f,?_⟩;unfold aS at a
 cases e:g i with
 |nx b=>rw[e]at a;exact λm l n j=>⟨d,l,b,E,j,f,a⟩
 |bk b=>rw[e]at a;exact a
 |ct b=>rw[e]at a;exact a
 |ex c b=>rw[e]at a;exact a
 |rt r=>
  rw[e]at a
  cases r<;>exact a
def AH(he:ME X ad e f):MS X ad Z (.Return (qv e) pos) (bX f):=by
 refine PS.imp (vG he) ?_;rintro s h H ⟨i,G,j,E,S,q,a⟩;refine⟨G,j,E h,S.st.gh,S.sl,q.1 h,?_⟩;unfold bX at a
 cases e:f j with
 |ok d=>rw[e]at a;exact λv g b st r=>a v g b (S.st.trans st) r
 |ow t=>rw[e]at a;exact λp l g b st n m o r=>a p l g b (S.st.trans st) (S.st.sh.free n) m o r
 |ex c=>rw[e]at a;exact λg b st=>a h g b (S.step st)
 |bad=>rw[e]at a;exact a
def GF(hN:X.N[i]? =qv x)(hv:Vis X.env.scope x)(hd:(x==("__debug__":Str))=q4)(hcd:(x==("__classdict__":Str))=q4):MS X ad Z (.Return (qv (.Name x p)) pos) (bX (qR i)):=by
 refine PS.imp (vG (b9 hN hv hd hcd)) ?_;rintro q s H ⟨h,G,n,E,S,o,b⟩;unfold bX qR at b
 cases e:n[i]? with
 |none=>rw[e]at b;exact b.elim
 |some sl=>
  rw[e]at b
  cases sl with
  |no=>exact b.elim
  |dc g=>exact b.elim
  |sd g=>exact b.elim
  |rk _ _=>exact b.elim
  |sh d=>
   obtain⟨v,c,f⟩:=S.sl.sh e;exact⟨v,c,b v G H S.st f⟩
  |ow r=>
   obtain⟨a,l,c,f,m,j⟩:=S.sl.ow e;exact⟨.ref a,c,b a l G H S.st (S.ow i _ a e rfl c) f m j⟩
def GG(he:ME X ad e f)(hs:swapsWith e qw pos.line X.env=pure q4):MS X ad Z (.Expr e pos) (dY f):=by
 refine PS.imp (jL he hs) ?_;rintro j i H ⟨a,G,l,E,S,b,h⟩;exact eW S b h λv d g c st r k=>k i g c (S.step st)
theorem SS.set(S:SS X ad G₀ G H ρ σ)(r:Rep X.K ad G d v):SS X ad G₀ G H (ρ.set i (.sh d)) (σ.set i (qv v)):=by
 have b: ∀(j:Nat) (sl:Slot),(ρ.set i (.sh d))[j]? =qv sl->(j=i/\sl= .sh d/\i<ρ.length)\/(j≠i/\ρ[j]? =qv sl):=λj sl e=>by
  by_cases z:j=i
  ·subst z;have c:j<ρ.length:=by have:=(ax.mp e).1;rwa [mn]at this
   rw[bn c]at e;cases e;exact .inl ⟨rfl,rfl,c⟩
  ·rw[ba (qu z)]at e;exact .inr ⟨z,e⟩
 refine⟨S.st,⟨by rw[mn,mn];exact S.sl.len,λj sl e=>?_⟩,λj f a e w h=>?_,λj o f s a e l w m h n=>?_,S.rs.set rfl λ_ z=>nomatch z⟩
 ·rcases b j sl e with ⟨rfl,rfl,c⟩|⟨z,e⟩
  ·exact⟨qv v,bn (by rw[<-S.sl.len];exact c),v,rfl,r⟩
  ·obtain⟨p,q,t⟩:=S.sl.at_ j sl e;exact⟨p,by rw[ba (qu z)];exact q,t⟩
 ·rcases b j _ e with ⟨_,z,_⟩|⟨z,e⟩
  ·subst z;exact(bg w).elim
  ·rw[ba (qu z)]at h;exact S.ow j f a e w h
 ·rcases b j _ e with ⟨_,z,_⟩|⟨z,e⟩
  ·subst z;exact(bg w).elim
  ·rcases b o _ l with ⟨_,g,_⟩|⟨g,l⟩
   ·subst g;exact(bg m).elim
   ·rw[ba (qu z)]at h;rw[ba (qu g)]at n;exact S.dj j o f s a e l w m h n
def SL.own_at{K:og}{j:Nat}(h:SL K ad G H ρ σ)(e:ρ[j]? =qv sl)(w:sl.owns=qz)(hj:σ[j]? =qv (qv (.ref p))):G p=qw/\H p≠qw:=by
 obtain⟨i,c,b⟩:=h.at_ j sl e;rw[hj]at c;cases c
 cases sl with
 |no=>exact(bg w).elim
 |sh d=>exact(bg w).elim
 |sd d=>exact(bg w).elim
 |rk _ _=>exact(bg w).elim
 |ow g=>obtain⟨a,f,k1,k2,k3,_⟩:=b;cases k1;exact⟨k2,by rw[k3];exact λz=>nomatch z⟩
 |dc g=>obtain⟨a,f,k1,k2,k3,_⟩:=b;cases k1;exact⟨k2,by rw[k3];exact λz=>nomatch z⟩
def SS.setNew{i:Nat}{sn:Slot}{p:Addr}{G1 H1:Hp}(S:SS X ad G₀ G H ρ σ)(st:Step G H G1 H1)(n:H p=qw)(r:SLi X.K ad G1 H1 sn (qv (.ref p)))(wr:sn.isRk=q4:=by rfl):
  SS X ad G₀ G1 H1 (ρ.set i sn) (σ.set i (qv (.ref p))):=by
 have t:=S.step st
 have c: ∀(j:Nat) (sl:Slot),(ρ.set i sn)[j]? =qv sl->(j=i/\sl=sn/\i<ρ.length)\/(j≠i/\ρ[j]? =qv sl):=λj sl e=>by
  by_cases z:j=i
  ·subst z;have d:j<ρ.length:=by have:=(ax.mp e).1;rwa [mn]at this
   rw[bn d]at e;cases e;exact .inl ⟨rfl,rfl,d⟩
  ·rw[ba (qu z)]at e;exact .inr ⟨z,e⟩
 -- no b slot holds the new list
 have b: ∀(j:Nat) (sl:Slot),ρ[j]? =qv sl->sl.owns=qz->σ[j]? ≠qv (qv (.ref p)):=λj sl L w J=>(S.sl.own_at L w J).2 n
 refine⟨t.st,⟨by rw[mn,mn];exact S.sl.len,λj sl o=>?_⟩,λj q a o w h=>?_,λj s q C a E y A B g l=>?_,t.rs.set wr λa _ z k M f m=>by
  cases z;exact((f.back S.sl st.sh).at S.sl p m).2 n⟩
 ·rcases c j sl o with ⟨q1,q2,d⟩|⟨z,o⟩
  ·rw[q1,q2];exact⟨qv (.ref p),bn (by rw[<-S.sl.len];exact d),r⟩
  ·obtain⟨I,g,l⟩:=t.sl.at_ j sl o;exact⟨I,by rw[ba (qu z)];exact g,l⟩
 ·rcases c j _ o with ⟨q1,_,d⟩|⟨z,o⟩
  ·rw[q1,bn (by rw[<-S.sl.len];exact d)]at h
   cases h;exact S.st.sh.free n
  ·rw[ba (qu z)]at h;exact S.ow j q a o w h
 ·rcases c j _ E with ⟨q1,_,d⟩|⟨z,x⟩
  ·rcases c s _ y with ⟨q2,_,_⟩|⟨u,v⟩
   ·rw[q1,q2]
   ·rw[q1,bn (by rw[<-S.sl.len];exact d)]at g
    cases g;rw[ba (qu u)]at l;exact absurd l (b s C v B)
  ·rcases c s _ y with ⟨q2,_,d⟩|⟨u,v⟩
   ·rw[q2,bn (by rw[<-S.sl.len];exact d)]at l
    cases l;rw[ba (qu z)]at g;exact absurd g (b j q x A)
   ·rw[ba (qu z)]at g;rw[ba (qu u)]at l;exact S.dj j s q C a x v A B g l
def SS.setOw(S:SS X ad G₀ G H ρ σ)(st:Step G H G1 H1)(n:H p=qw)(m:G1 p=qw)(e:H1 p=qv (.lst vs))(r:aJ X.K ad G1 xs vs):
  SS X ad G₀ G1 H1 (ρ.set i (.ow xs)) (σ.set i (qv (.ref p))):=S.setNew st n ⟨p,vs,rfl,m,e,r⟩
def KC(S:SS X ad G₀ G H ρ σ)(hx:XA X ad Z E)(hr:OKo X ad G₀ (mT i f ρ) D' E):tE X ad f σ H λv H1=>D'.nx (σ.set i (qv v)) H1:=by
 refine⟨G,ρ,E σ,S.st.gh,S.sl,hx.1 σ,?_⟩;unfold mT at hr
 cases e:f ρ with
 |ok d=>rw[e]at hr;exact λv a H1 st r=>hr _ a H1 ((S.step st).set r)
 |ow h=>rw[e]at hr;exact λp g a H1 st n m b r=>hr _ a H1 (S.setOw st n m b r)
 |ex c=>rw[e]at hr;exact λa H1 st=>hr σ a H1 (S.step st)
 |bad=>rw[e]at hr;exact hr
def KD(hc:MT X ad c f)(ha:MSs X ad Z a g)(hb:MSs X ad Z b h):MS X ad Z (.If c a b pos) (sIf f g h):=by
 refine PS.imp (FL hc ha hb) ?_;rintro q l H ⟨j,G,m,E,S,o,i⟩;unfold sIf at i
 cases e:f m with
 |ok d=>
  rw[e]at i
  cases d<;>try exact i.elim
  rename_i k;refine⟨G,m,E l,S.st.gh,S.sl,o.1 l,.inl ⟨k,e⟩,?_⟩;rw[e];intro v n p st r;unfold Rep at r;subst r;refine⟨k,rfl,?_⟩
  cases k with
  |true=>exact CC ⟨j,n,m,E,S.step st,o,i⟩
  |false=>exact CS ⟨j,n,m,E,S.step st,o,i⟩
 |ow s=>rw[e]at i;exact i.elim
 |ex k=>
  rw[e]at i;refine⟨G,m,E l,S.st.gh,S.sl,o.1 l,.inr ⟨k,e⟩,?_⟩;rw[e];exact λn p st=>i l n p (S.step st)
 |bad=>rw[e]at i;exact i.elim
def SS.shareG{i:Nat}{sl₀ sn:Slot}{a:Addr}{o:HO}(S:SS X ad G₀ G H ρ σ)(e:ρ[i]? =qv sl₀)(w₀:sl₀.owns=qz)(h1:σ[i]? =qv (qv (.ref a)))(h3:H a=qv o)(hst:Step G₀ X.H₀ (upd G a o) H)(wn:sn.owns=q4)
  (r:SLi X.K ad (upd G a o) H sn (qv (.ref a))) (wr:sn.isRk=q4:=by rfl):SS X ad G₀ (upd G a o) H (ρ.set i sn) σ:=by
 have T:G a=qw:=(S.sl.own_at e w₀ h1).1
 have l:Same G (upd G a o):=Same.upd_new T;have N:i<ρ.length:=(ax.mp e).1
 have f: ∀(j:Nat) (sl:Slot),(ρ.set i sn)[j]? =qv sl->(j=i/\sl=sn)\/(j≠i/\ρ[j]? =qv sl):=λj sl e=>by
  by_cases z:j=i
  ·subst z;rw[bn N]at e;cases e;exact .inl ⟨rfl,rfl⟩
  ·rw[ba (qu z)]at e;exact .inr ⟨z,e⟩
 refine⟨hst,⟨by show(ρ.set i _).length=_;rw[mn];exact S.sl.len,λj sl c=>?_⟩,λj g b c w h=>?_,λj L g Q b t J x y k1 k2=>?_,S.rs.re wr e w₀⟩
 ·rcases f j sl c with ⟨q1,q2⟩|⟨z,c⟩
  ·rw[q1,q2];exact⟨qv (.ref a),h1,r⟩
  ·obtain⟨P,k1,k2⟩:=S.sl.at_ j sl c;refine⟨P,k1,?_⟩
   cases sl with
   |no=>trivial
   |sh d=>obtain⟨v,k3,k4⟩:=k2;exact⟨v,k3,k4.mono l⟩
   |ow g=>
    obtain⟨b,s,k3,k4,n,k6⟩:=k2
    have I:b≠a:=λq=>by
     subst q;subst k3;exact z (S.dj j i _ _ b c e rfl w₀ k1 h1)
    exact⟨b,s,k3,by rw[aD I];exact k4,n,k6.mono l⟩
   |dc g=>
    obtain⟨b,s,k3,k4,n,k6,A⟩:=k2
    have I:b≠a:=λq=>by
     subst q;subst k3;exact z (S.dj j i _ _ b c e rfl w₀ k1 h1)
    exact⟨b,s,k3,by rw[aD I];exact k4,n,k6.mono l,A⟩
   |sd g=>
    obtain⟨b,s,k3,k4,n,k6,A⟩:=k2;exact⟨b,s,k3,l _ _ k4,n,k6.mono l,A⟩
   |rk C r=>
    obtain⟨p,u,d,E,B,k3,k4⟩:=k2;have O:gQ H ρ σ j [p,u,d,E,B]:=⟨C,r,p,u,d,E,B,c,by rw[k1,k3],k4.ins,rfl⟩
    exact⟨p,u,d,E,B,k3,k4.shr (λm=>S.rs.ow j _ O a m i sl₀ e w₀ h1) l⟩
 ·rcases f j _ c with ⟨_,z⟩|⟨z,c⟩
  ·rw[z,wn]at w;exact(bg w).elim
  ·exact S.ow j g b c w h
 ·rcases f j _ t with ⟨_,z⟩|⟨z,t⟩
  ·rw[z,wn]at x;exact(bg x).elim
  ·rcases f L _ J with ⟨_,M⟩|⟨M,J⟩
   ·rw[M,wn]at y;exact(bg y).elim
   ·exact S.dj j L g Q b t J x y k1 k2
theorem SS.frz1(S:SS X ad G₀ G H ρ σ): ∃G',SS X ad G₀ G' H (SK.frz1 i ρ) σ/\Same G G':=by
 unfold SK.frz1
 cases e:ρ[i]? with
 |none=>exact⟨G,S,Same.refl _⟩
 |some sl=>
  cases sl with
  |no=>exact⟨G,S,Same.refl _⟩
  |sd d=>exact⟨G,S,Same.refl _⟩
  |rk _ _=>exact⟨G,S,Same.refl _⟩
  |sh d=>exact⟨G,S,Same.refl _⟩
  |dc m=>
   obtain⟨a,es,g,f,b,h,l⟩:=S.sl.dc e;have c:Same G (upd G a (dcO a es)):=Same.upd_new f;exact⟨_,S.shareG e rfl g b (S.st.shareO (S.ow i _ a e rfl g) f b) rfl ⟨a,es,rfl,aG,b,h.mono c,l⟩,c⟩
  |ow n=>
   obtain⟨a,j,g,f,b,h⟩:=S.sl.ow e;have c:Same G (upd G a (.lst j)):=Same.upd_new f;exact⟨_,S.shareG e rfl g b (S.st.share (S.ow i _ a e rfl g) f b) rfl ⟨.ref a,rfl,by unfold Rep;exact⟨a,j,rfl,SqL.of aG,h.mono c⟩⟩,c⟩
theorem SS.frz{is:List Nat}: ∀{ρ:Rho} {G:Hp},SS X ad G₀ G H ρ σ->∃G',SS X ad G₀ G' H (SK.frz is ρ) σ/\Same G G':=by
 induction is with
 |nil=>intro ρ G S;exact⟨G,S,Same.refl _⟩
 |cons i is a=>
  intro ρ G S;obtain⟨g,c,d⟩:=S.frz1 (i:=i);obtain⟨f,e,b⟩:=a c;exact⟨f,e,d.trans b⟩
def iE(h1:MS X ad Z st g):MS X ad Z st (eA is g):=by
 cases is with
 |nil=>exact h1
 |cons i is=>
  refine PS.imp h1 ?_;rintro f j H ⟨a,G,h,E,S,e,d⟩;obtain⟨c,b,_⟩:=S.frz (is:=i::is);exact⟨a,c,_,E,b,e,d⟩
end
section
variable{X:Cx}{ad:Ad}{σ:St}{H G G₀:Hp}{ρ:Rho}{E:St->Nat->Hp->Prop}{e:Expr}{f:F}
def SS.updG{i:Nat}{sl₀ sn:Slot}{a:Addr}{o:HO}(S:SS X ad G₀ G H ρ σ)(e:ρ[i]? =qv sl₀)(w₀:sl₀.owns=qz)(h1:σ[i]? =qv (qv (.ref a)))(r:SLi X.K ad G (upd H a o) sn (qv (.ref a)))(wr:sn.isRk=q4:=by rfl):SS X ad G₀ G (upd H a o) (ρ.set i sn) σ:=by
 have U:X.H₀ a=qw:=S.ow i sl₀ a e w₀ h1
 have Z:G a=qw:=(S.sl.own_at e w₀ h1).1
 have hl:i<ρ.length:=(ax.mp e).1
 have l: ∀(j:Nat) (sl:Slot),(ρ.set i sn)[j]? =qv sl->(j=i/\sl=sn)\/(j≠i/\ρ[j]? =qv sl):=λj sl e=>by
  by_cases z:j=i
  ·subst z;rw[bn hl]at e;cases e;exact .inl ⟨rfl,rfl⟩
  ·rw[ba (qu z)]at e;exact .inr ⟨z,e⟩
 refine⟨rG S.st U Z,⟨by rw[mn];exact S.sl.len,λj sl O=>?_⟩,λj v b O w h=>?_,λj M v B b e1 W Q T k1 k2=>?_,?_⟩
 ·rcases l j sl O with ⟨q1,q2⟩|⟨z,g⟩
  ·rw[q1,q2];exact⟨qv (.ref a),h1,r⟩
  ·obtain⟨ov,k1,k2⟩:=S.sl.at_ j sl g;refine⟨ov,k1,?_⟩
   cases sl with
   |no=>trivial
   |sh d=>exact k2
   |ow v=>
    obtain⟨b,n,k3,k4,y,k6⟩:=k2
    have t:b≠a:=λq=>by
     subst q;subst k3;exact z (S.dj j i _ _ b g e rfl w₀ k1 h1)
    exact⟨b,n,k3,k4,by rw[aD t];exact y,k6⟩
   |dc v=>
    obtain⟨b,n,k3,k4,y,k6⟩:=k2
    have t:b≠a:=λq=>by
     subst q;subst k3;exact z (S.dj j i _ _ b g e rfl w₀ k1 h1)
    exact⟨b,n,k3,k4,by rw[aD t];exact y,k6⟩
   |sd v=>
    obtain⟨b,n,k3,k4,y,k6⟩:=k2
    have t:b≠a:=λq=>by
     rw[q]at k4;rw[Z]at k4;cases k4
    exact⟨b,n,k3,k4,by rw[aD t];exact y,k6⟩
   |rk C r=>
    obtain⟨p,x,d,I,E,k3,k4⟩:=k2;have N:gQ H ρ σ j [p,x,d,I,E]:=⟨C,r,p,x,d,I,E,g,by rw[k1,k3],k4.ins,rfl⟩
    exact⟨p,x,d,I,E,k3,k4.ups (λm=>S.rs.ow j _ N a m i sl₀ e w₀ h1)⟩
 ·rcases l j _ O with ⟨q1,q2⟩|⟨z,g⟩
  ·rw[q1,h1]at h;cases h;exact U
  ·exact S.ow j v b g w h
 ·rcases l j _ e1 with ⟨q1,_⟩|⟨z,g⟩
  ·rcases l M _ W with ⟨q2,_⟩|⟨z',u⟩
   ·rw[q1,q2]
   ·rw[q1]at k1 ⊢;exact S.dj i M _ B b e u w₀ T k1 k2
  ·rcases l M _ W with ⟨q2,_⟩|⟨z',u⟩
   ·rw[q2]at k2 ⊢;exact S.dj j i v _ b g e Q w₀ k1 k2
   ·exact S.dj j M v B b g u Q T k1 k2
 ·refine RS.re (H:=upd H a o) ?_ wr e w₀
  have bk: ∀{k:Nat} {s:List Addr},gQ (upd H a o) ρ σ k s->gQ H ρ σ k s:=λ{k s} f=>by
   obtain⟨C,r,p,x,d,I,E,g,u,f3,f4⟩:=f;obtain⟨p',A,Y,L,J,q1,q2⟩:=S.sl.rk g;rw[u]at q1;cases q1;have N:gQ H ρ σ k [p,A,Y,L,J]:=⟨C,r,p,A,Y,L,J,g,u,q2.ins,rfl⟩;have t:p≠a:=λz=>S.rs.ow k _ N p (by simp) i sl₀ e w₀ (by rw[z];exact h1)
   rw[aD t]at f3;exact⟨C,r,p,x,d,I,E,g,u,f3,f4⟩
  exact⟨λk s f=>S.rs.h0 k s (bk f),λk s f=>S.rs.ow k s (bk f),λk k' s P c f f'=>S.rs.rr k k' s P c (bk f) (bk f')⟩
theorem SS.upd(S:SS X ad G₀ G H ρ σ)(e:ρ[i]? =qv (.ow xs))(h1:σ[i]? =qv (qv (.ref a)))(h2:G a=qw)(r:aJ X.K ad G ys ws):SS X ad G₀ G (L2.upd H a (.lst ws)) (ρ.set i (.ow ys)) σ:=
 S.updG e rfl h1 ⟨a,ws,rfl,h2,aG,r⟩
def fM(hs:starEach [e] X.env=(q4,eval e X.env)::starEach [] X.env):((backTo cpos (starEach [e] X.env)).all (fun x=> !x.1)&&(backToKw cpos (keywordEach [] X.env)).all (fun x=>x.1.isSome)
   &&decide ([e].length+([]:List Keyword).length+(if([]:List Keyword).isEmpty then 0 else 1)<30))=qz:=by
 rw[hs];rfl
def KG(hN:X.N[i]? =qv x)(hv:Vis X.env.scope x)(hd:(x==("__debug__":Str))=q4)(hcd:(x==("__classdict__":Str))=q4)(he:ME X ad e f)(hs:starEach [e] X.env=(q4,eval e X.env)::starEach [] X.env)(hline:(ap.endLine==cp.line)=qz):MS X ad Z (.Expr (.Call (.Attribute (.Name x p) "append" ap) [e] [] cp) pos) (EC i f):=by
 refine PS.imp (jL (F1 (T:="list") f7 PySem.F.slot_list_append PySem.F.type_list_append lI (b9 hN hv hd hcd) (b8 he cZ hs) rfl (fM hs) hline hs rfl) rfl) ?_;rintro u y H ⟨c,G,t,E,S,I,b⟩;unfold EC at b
 cases q:t[i]? with
 |none=>rw[q]at b;exact b.elim
 |some sl=>
  rw[q]at b
  cases sl with
  |no=>exact b.elim
  |sh d=>exact b.elim
  |dc d=>exact b.elim
  |sd d=>exact b.elim
  |rk _ _=>exact b.elim
  |ow l=>
   obtain⟨a,n,o,B,s,m⟩:=S.sl.ow q;refine⟨.ref a,o,.inl ⟨rfl,n,SqL.of s⟩,?_⟩;refine eW S I b λv d z J st r k=>?_
   obtain⟨C,j⟩:=eI st B s;have g:OKo X ad c (if l.length<LIM then .nx (t.set i (.ow (l++[d])))else .rt .bad) u E:=k
   by_cases h:l.length<LIM
   ·rw[if_pos h]at g;have A:=m.mono st.sg;refine⟨a,n,v,rfl,rfl,j,?_,g y z _ ((S.step st).upd q o C (A.append (aJ.cons r aJ.nil)))⟩;rw[m.length];exact bh h (by decide)
   ·rw[if_neg h]at g;exact g.elim
def Pi(K:og):V->List V->Hp->VK->Prop:=λx vs H Q=>∃l b xs zs,x= .ref l/\vs=[.ref b]/\H l=qv (.lst xs)/\SqL K H b zs/\xs.length+zs.length<=sizeLine/\Q .non (upd H l (.lst (xs++zs)))
def KH:MtM X "list.extend" (Pi X.K):=by
 intro T s W H x O v S Q I E M h;obtain⟨l,b,P,Y,rfl,rfl,y,L,U,q⟩:=h;cases E;obtain⟨u,rfl,C⟩:=M.one;cases C;obtain⟨z,c,n,r,N,e⟩:=I.lstM y;obtain⟨a,A,⟨⟨t,o,j,p⟩,B,J,f,g,i⟩,_⟩:=I.list L
 simp only at f i g
 subst f i;have G:=A.length
 have m:c.toArray.size+a.toArray.size<=sizeLine:=by rw[aw,aw];lia
 have d: ¬(!c.toArray.isEmpty&&fq (c.toArray.size+a.toArray.size))=qz:=by
  rw[vN m,Bool.and_false];exact bg
 refine call_meets F.slot_list_extend ⟨_,e,rfl⟩ F.entry_list_extend (F.args_list_extend_2 _ _)
  (qP l c.toArray n b a.toArray B o p d (by rw[aw];lia) (by lia)) ⟨e,J,?_⟩
 refine⟨.non,_,I.lset (its':=c++a) y e (by simp) (r.append A) ?_,rfl,q⟩
 rw[bq]
 lia
def KI(hN:X.N[i]? =qv x)(hv:Vis X.env.scope x)(hd:(x==("__debug__":Str))=q4)(hcd:(x==("__classdict__":Str))=q4)(he:ME X ad e f)(hs:starEach [e] X.env=(q4,eval e X.env)::starEach [] X.env)(hline:(ap.endLine==cp.line)=qz):MS X ad Z (.Expr (.Call (.Attribute (.Name x p) "extend" ap) [e] [] cp) pos) (Je i f):=by
 refine PS.imp (jL (F1 (T:="list") f7 PySem.F.slot_list_extend PySem.F.type_list_extend KH (b9 hN hv hd hcd) (b8 he cZ hs) rfl (fM hs) hline hs rfl) rfl) ?_;rintro J L H ⟨g,G,z,E,S,B,c⟩;unfold Je at c
 cases q:z[i]? with
 |none=>rw[q]at c;exact c.elim
 |some sl=>
  rw[q]at c
  cases sl with
  |no=>exact c.elim
  |sh d=>exact c.elim
  |dc d=>exact c.elim
  |sd d=>exact c.elim
  |rk _ _=>exact c.elim
  |ow m=>
   obtain⟨a,y,t,M,u,o⟩:=S.sl.ow q;refine⟨.ref a,t,.inl ⟨rfl,y,SqL.of u⟩,?_⟩;refine eW S B c λv d C P st r k=>?_
   obtain⟨O,n⟩:=eI st M u
   cases d<;>try exact az k
   rename_i j
   have h:OKo X ad g (if m.length+j.length<=LIM then .nx (z.set i (.ow (m++j)))else .rt .bad) J E:=k
   by_cases l:m.length+j.length<=LIM
   ·rw[if_pos l]at h;have I:=o.mono st.sg;unfold Rep at r;obtain⟨b,K,rfl,A,s⟩:=r;refine⟨a,b,y,K,rfl,rfl,n,st.gh.seq A,?_,h L C _ ((S.step st).upd q t O (I.append s))⟩;rw[o.length,s.length];exact ol l (by decide)
   ·rw[if_neg l]at h;exact h.elim
structure ItG(X:Cx)(ad:Ad)(J:It)(G:Hp)(ds:List D):Prop where
 go: ∀(i:Nat) (G1 H1:Hp) (d:D),Same G G1->Same G1 H1->ds[i]? =qv d->J.go i H1/\∀x H2,J.yld i H1 x H2->∃G2,Step G1 H1 G2 H2/\Rep X.K ad G2 d x
 stop: ∀(G1 H1:Hp),Same G G1->Same G1 H1->J.stop ds.length H1
def IGK(X:Cx)(ad:Ad)(G H:Hp)(r:R)(W:It->Hp->Prop)(E:Nat->Hp->Prop):Prop:=match r with
 |.ok d=>∃ds,items d=qv ds/\∀J G' H',Step G H G' H'->ItG X ad J G' ds->W J H'
 |.ow xs=>∀J G' H',Step G H G' H'->ItG X ad J G' xs->W J H'
 |.ex c=>∀G' H',Step G H G' H'->E c H'
 |.bad=>False
def tIG(X:Cx)(ad:Ad)(f:F):TI:=λσ H W=>∃G ρ E,Same G H/\SL X.K ad G H ρ σ/\XP X ad σ E/\IGK X ad G H (f ρ) W E
abbrev MIG(X:Cx)(ad:Ad)(tg e:Expr)(f:F):Prop:=PI X tg e (tIG X ad f)
def GH(hq:SqT X.K G a vs)(r:aJ X.K ad G ds vs):ItG X ad (Itt X.K a) G ds:=by
 refine⟨λi g j d c b e=>?_,λg j c b=>⟨vs,b.seqT (c.seqT hq),by rw[r.length];exact aj _⟩⟩
 obtain⟨v,f,h⟩:=r.get e;refine⟨⟨vs,v,b.seqT (c.seqT hq),f⟩,?_⟩;rintro x H2 ⟨rfl,y⟩
 have:=y vs (b.seqT (c.seqT hq))
 rw[f]at this;cases this;exact⟨g,Step.refl b,h.mono c⟩
def GI(hq:SqL X.K G a vs)(r:aJ X.K ad G ds vs):ItG X ad (Itl X.K a) G ds:=by
 refine⟨λi g j d c b e=>?_,λg j c b=>⟨vs,b.seq (c.seq hq),by rw[r.length];exact aj _⟩⟩
 obtain⟨v,f,h⟩:=r.get e;refine⟨⟨vs,v,b.seq (c.seq hq),f⟩,?_⟩;rintro x H2 ⟨rfl,y⟩
 have:=y vs (b.seq (c.seq hq))
 rw[f]at this;cases this;exact⟨g,Step.refl b,h.mono c⟩
def GJ{lo:Int}:ItG X ad (Itr lo n) G ((pw n).map λ(i:Nat)=>D.int (lo+(i:Int))):=by
 refine⟨λi c g d h f e=>?_,λc g h f=>by simp[Itr]⟩
 rw[ju]at e
 cases q:(pw n)[i]? with
 |none=>rw[q]at e;cases e
 |some j=>
  rw[q]at e;obtain⟨a,b⟩:=ax.mp q;rw[jy]at a;rw[jj]at b;subst b;cases e;refine⟨a,?_⟩;rintro x H2 ⟨rfl,rfl⟩;exact⟨c,Step.refl f,bF⟩
def o6{f:F}(ha:ME X ad a f):MIG X ad tg a f:=by
 rintro C s L H W I ⟨G,N,E,T,P,Q,t⟩
 have z: ∀(d:D) (M:List D),items d=qv M->(∀J G' H',Step G H G' H'->ItG X ad J G' M->W J H')->∀u i v g h,Inv X C L g i->bG v u->Step G H h g->Rep X.K ad h d v->wpAny (model X.prog X.w) X.A (pyIter u) (PIE X C L tg W) X.xe i:=by
  intro d M e O u i v g h j y st q;obtain⟨p,Y,rfl,x,U⟩:=lP e q
  cases (show u=qj p from y)
  rcases x with x|x
  ·obtain⟨B,rv,pt,hz⟩:=j.tuple (st.gh.seqT x);refine wpAny_pyIter_tuple (show i.heap.IsTuple p B.toArray from pt) ?_
   refine⟨i.heap.objs.size,[i.heap.objs.size],_,_,g,rfl,j.kept (t':=i.toks) λb o e=>af _ e,nG p _,⟨_,ag _ rfl,rfl,rfl⟩,λb S=>?_,O _ h g st (GH x U)⟩
   have e:b=i.heap.objs.size:=by simpa using S
   subst e;exact j.fpOk (aj _) (j.hok.fresh (aj _))
  ·obtain⟨B,rv,pt,hz⟩:=j.list (st.gh.seq x);refine wpAny_pyIter_list pt.isList ?_;refine⟨i.heap.objs.size,[i.heap.objs.size],_,_,g,rfl,j.kept (t':=i.toks) λb o e=>af _ e,qA p _,⟨_,ag _ rfl,rfl,rfl⟩,λb S=>?_,O _ h g st (GI x U)⟩
   have e:b=i.heap.objs.size:=by simpa using S
   subst e;exact j.fpOk (aj _) (j.hok.fresh (aj _))
 cases e:f N with
 |ok d=>
  rw[e]at t;obtain⟨M,e2,O⟩:=t;exact L2.thn (ha C s L H (λv g=>∃h,Step G H h g/\Rep X.K ad h d v) I ⟨G,N,E,T,P,Q,by rw[e];exact λv h g st q=>⟨h,st,q⟩⟩) λu i r=>by obtain⟨v,g,j,y,h,st,q⟩:=r;exact z d M e2 O u i v g h j y st q
 |ow l=>
  rw[e]at t;exact L2.thn (ha C s L H (λv g=>∃h,Step G H h g/\Rep X.K ad h (.lst l) v) I ⟨G,N,E,T,P,Q,by rw[e];exact λp Y h g st n m Z q=>cS st n m Z q⟩) λu i r=>by obtain⟨v,g,j,y,h,st,q⟩:=r;exact z (.lst l) l rfl t u i v g h j y st q
 |ex c=>
  rw[e]at t;exact L2.thn (ha C s L H (λv g=>False) I ⟨G,N,E,T,P,Q,by rw[e];exact t⟩) λu i r=>by obtain⟨v,g,j,y,q⟩:=r;exact q.elim
 |bad=>
  rw[e]at t;exact az t
def AI{f:F}(hg:L2.Gl X "range")(hm:X.mg "range"=qw)(ha:ME X ad a f)(hs:starEach [a] X.env=(q4,eval a X.env)::starEach [] X.env):MIG X ad tg (.Call (.Name "range" p) [a] [] pos) (bE f):=by
 rintro u s n H W I ⟨G,o,E,y,q,z,b⟩;refine qB (ta:=oQ (tE X ad f) Ev) hg hm (b8 ha cZ hs) hs u s n H W I ?_;show tE X ad f n H λv h=>∃j:Int,[v]=[.int j]/\ -(2^62)<=j/\j<2^62/\W (Itr 0 j.toNat) h
 refine⟨G,o,E,y,q,z,?_⟩;unfold bE at b
 cases e:f o with
 |ok d=>
  rw[e]at b
  cases d<;>try exact az b
  rename_i i
  have g:IGK X ad G H (if -100000<=i/\i<=100000 then .ok (.lst (nM i.toNat))else .bad) W E:=b
  by_cases m: -100000<=i/\i<=100000
  ·rw[if_pos m]at g;obtain⟨A,e,t⟩:=g;cases e;intro v x h st r;unfold Rep at r;subst r;refine⟨i,rfl,by lia,by lia,t _ x h st ?_⟩
   rw[AE];exact GJ
  ·rw[if_neg m]at g;exact g.elim
 |ow l=>rw[e]at b;exact az b
 |ex c=>rw[e]at b;exact b
 |bad=>rw[e]at b;exact b
end
def gIs:List Nat->TGs
 |[]=>MQ
 |i::is=>FN (kN i) (gIs is)
noncomputable def De:List Nat->List V->St->St
 |i::is,v::vs,σ=>De is vs (σ.set i (qv v))
 |_,_,σ=>σ
theorem v5: ∀{is:List Nat} {vs:List V} {σ:St} {H:Hp} {Q:St->Hp->Prop},vs.length=is.length->Q (De is vs σ) H->gIs is vs σ H Q
 |[],[],_,_,_,_,h=>⟨rfl,h⟩
 |i::is,v::vs,σ,H,Q,e,h=>⟨v,vs,rfl,v5 (is:=is) (vs:=vs) (by simpa using e) h⟩
 |[],_::_,_,_,_,e,_=>by simp at e
 |_::_,[],_,_,_,e,_=>by simp at e
def gTs(K:og)(k:Nat)(is:List Nat):TG:=match k,is with
 |0,[i]=>kN i
 |k,is=>JL K is.length (gIs is)
def Mu(X:Cx)(x:Str)(i:Nat):Prop:=X.N[i]? =qv x/\Loc X.env.scope x/\(X.fn x=qz\/X.env.scope.names.lookup x=qv .local)
inductive NmsOk(X:Cx):List Str->List Nat->Prop
 |nil:NmsOk X [] []
 |cons {x:Str} {i:Nat} {xs:List Str} {is:List Nat}:Mu X x i->NmsOk X xs is->NmsOk X (x::xs) (i::is)
section
variable{X:Cx}{ad:Ad}{Z:(St->Nat->Hp->Prop)->Prop}{σ:St}{H G G₀:Hp}{ρ:Rho}{D':Ends}{E:St->Nat->Hp->Prop}{e:Expr}{f:F}{g h:FS}
theorem NmsOk.len: ∀{xs:List Str} {is:List Nat},NmsOk X xs is->is.length=xs.length
 |_,_,.nil=>rfl
 |_,_,.cons _ h=>by simp[NmsOk.len h]
theorem AJ(hN:X.N.Nodup): ∀{es:List Expr} {xs:List Str} {is:List Nat},fW (λ(e:Expr)=>match e with|.Name x _=>qv x|_=>qw) es=qv xs->NmsOk X xs is->PGs X es (gIs is)
 |[],xs,is,e,h=>by
  cases e;cases h;exact zR
 |a::es,xs,is,e,h=>by
  unfold fW at e
  cases a<;>try (cases e)
  rename_i x g
  simp only at e
  obtain⟨r,c,d⟩:=zMd e;subst d
  cases h with
  |cons b f=>exact vH (lD hN b.1 b.2.1 b.2.2) (AJ hN c f) rfl
theorem jQ: ∀{es:List Expr} {xs:List Str},fW (λ(e:Expr)=>match e with|.Name x _=>qv x|_=>qw) es=qv xs->(assignEach es X.env).length=xs.length/\(assignEach es X.env).findIdx? (·.1)=qw
 |[],xs,e=>by cases e;exact⟨rfl,rfl⟩
 |a::es,xs,e=>by
  unfold fW at e
  cases a<;>try (cases e)
  rename_i x b
  simp only at e
  obtain⟨r,c,d⟩:=zMd e;subst d;obtain⟨g,f⟩:=jQ c
  have q:assignEach (.Name x b::es) X.env=(q4,assign (.Name x b) X.env)::assignEach es X.env:=rfl
  rw[q];refine⟨by simp[g],?_⟩
  rw[jg];simp[f]
def GK(hc:X.calm=qz)(hN:X.N.Nodup)(e:cG tg=qv (xs,k))(h:NmsOk X xs is):PG X tg (gTs X.K k is)/\(k=0/\is.length=1\/k≠0/\k=is.length):=by
 cases tg<;>try (cases e)
 ·rename_i x f
  cases h with
  |cons b l=>
   cases l;exact⟨lD hN b.1 b.2.1 b.2.2,.inl ⟨rfl,rfl⟩⟩
 ·rename_i es j f;unfold cG at e;obtain⟨g,c,a⟩:=zBd e
  by_cases d:2<=g.length
  ·rw[if_pos d]at a;cases a;obtain⟨q1,q2⟩:=jQ (X:=X) c;have hk:=h.len;refine⟨?_,.inr ⟨by lia,hk.symm⟩⟩
   have P:=Et (pos:=f) (k:=j) (n:=is.length) hc (AJ hN c h) (by rw[q1,hk]) q2
   have:gTs X.K xs.length is=JL X.K is.length (gIs is):=by
    unfold gTs
    cases is with
    |nil=>simp at hk;lia
    |cons i is=>
     cases m:xs.length with
     |zero=>lia
     |succ n=>rfl
   rw[this];exact P
  ·rw[if_neg d]at a;cases a
theorem SS.setN: ∀{is:List Nat} {ds:List D} {vs:List V} {ρ:Rho} {σ:St},SS X ad G₀ G H ρ σ->aJ X.K ad G ds vs->SS X ad G₀ G H (SK.setN is ds ρ) (De is vs σ)
 |[],ds,vs,ρ,σ,S,r=>by
  have a:SK.setN [] ds ρ=ρ:=by cases ds<;>rfl
  have c:De [] vs σ=σ:=by cases vs<;>rfl
  rw[a,c];exact S
 |i::is,[],vs,ρ,σ,S,r=>by
  unfold aJ at r;subst r;exact S
 |i::is,d::ds,vs,ρ,σ,S,r=>by
  unfold aJ at r;obtain⟨v,e,rfl,b,f⟩:=r;exact SS.setN (is:=is) (ds:=ds) (vs:=e) (ρ:=ρ.set i (.sh d)) (σ:=σ.set i (qv v)) (S.set b) f
def ES{Q:St->Hp->Prop}(hk:k=0/\is.length=1\/k≠0/\k=is.length)(e:yE is (k==0) d ρ=qv ρ1)(S:SS X ad G₀ G H ρ σ)(r:Rep X.K ad G d v)(q: ∀σ1,SS X ad G₀ G H ρ1 σ1->Q σ1 H):gTs X.K k is v σ H Q:=by
 rcases hk with ⟨rfl,f⟩|⟨f,p⟩
 ·obtain⟨i,rfl⟩:=gz.mp f;cases e;exact q _ (S.set r)
 ·have o:(k==0)=q4:=by simpa using f
  rw[o]at e
  have j:yE is q4 d ρ=match(generalizing:=false) d with|.tup g=>if g.length=is.length then qv (SK.setN is g ρ)else qw|_=>qw:=by
   cases is with
   |nil=>rfl
   |cons _ _=>rfl
  have b:=j.symm.trans e
  have m:gTs X.K k is=JL X.K is.length (gIs is):=by
   unfold gTs
   cases k with
   |zero=>exact absurd rfl f
   |succ k=>rfl
  rw[m]
  cases d<;>try (cases b)
  rename_i g
  simp only at b
  by_cases c:g.length=is.length
  ·rw[if_pos c]at b;cases b;unfold Rep at r;obtain⟨a,l,rfl,n,h⟩:=r;exact⟨a,l,rfl,S.st.gh.seqT n,by rw[h.length,c],v5 (by rw[h.length,c]) (q _ (S.setN h))⟩
  ·rw[if_neg c]at b;cases b
def GL{α:Type}{ds:List α}{d:α}(e:ds[i]? =qv d):ds.drop i=d::ds.drop (i+1):=by
 obtain⟨h,rfl⟩:=ax.mp e;exact ew h
def v8{J:It}{G' H':Hp}{ds:List D}{k:Nat}{is:List Nat}(hk:k=0/\is.length=1\/k≠0/\k=is.length)(S:SS X ad G₀ G' H' ρ σ)(hx:XA X ad Z E)(it:ItG X ad J G' ds)(hr:OKo X ad G₀ (hX (yE is (k==0)) g ds ρ) D' E):
  ∃W:Nat->Nat->St->Hp->Prop,(∃m,W 0 m σ H')/\∀i m σ H,W i m σ H->
   (J.stop i H/\D'.nx σ H)\/(J.go i H/\∃N:St->Hp->Prop,(∀σ' H',N σ' H'->∃m',m'<m/\W (i+1) m' σ' H')/\∀x H',J.yld i H x H'->gTs X.K k is x σ H' λσ2 H2=>tS X ad Z g {D' with nx:=N,ct:=N,bk:=D'.nx} σ2 H2):=by
 refine⟨λi m σ H=>m=ds.length-i/\i<=ds.length/\∃G ρ,SS X ad G₀ G H ρ σ/\Same G' G/\OKo X ad G₀ (hX (yE is (k==0)) g (ds.drop i) ρ) D' E,⟨_,rfl,cb _,G',ρ,S,Same.refl _,hr⟩,?_⟩
 rintro i m B u ⟨rfl,U,z,v,n,o,e⟩
 cases q:ds[i]? with
 |none=>
  have Y:ds.length<=i:=List.getElem?_eq_none_iff.mp q
  have:i=ds.length:=by lia
  subst this;refine .inl ⟨it.stop z u o n.st.gh,?_⟩;rw[List.drop_length]at e;exact e B z u n
 |some d=>
  have A:i<ds.length:=(ax.mp q).1;obtain⟨go,Q⟩:=it.go i z u d o n.st.gh q;refine .inr ⟨go,λσ' H'=>∃G ρ,SS X ad G₀ G H' ρ σ'/\Same G' G/\OKo X ad G₀ (hX (yE is (k==0)) g (ds.drop (i+1)) ρ) D' E,λσ' H' s=>by obtain⟨L,t,I,P,T⟩:=s;exact⟨_,by lia,rfl,A,L,t,I,P,T⟩,λx H2 y=>?_⟩
  obtain⟨C,st,O⟩:=Q x H2 y;rw[GL q]at e;unfold hX at e
  cases p:yE is (k==0) d v with
  |none=>rw[p]at e;exact e.elim
  |some a=>
   rw[p]at e;have M:=n.step st;refine ES hk p M O λσ2 j=>?_
   refine⟨C,C,a,E,j.here,hx,?_⟩
   have b:OKo X ad G₀ (match g a with
    |.nx a=>hX (yE is (k==0)) g (ds.drop (i+1)) a
    |.ct a=>hX (yE is (k==0)) g (ds.drop (i+1)) a
    |.bk a=>.nx a
    |.rt r=>.rt r
    |.ex c a=>.ex c a) D' E:=e
   cases l:g a with
   |nx f=>
    rw[l]at b;exact λσ G H h=>⟨G,f,h.up j.st,(o.trans st.sg).trans h.st.sg,b⟩
   |ct f=>
    rw[l]at b;exact λσ G H h=>⟨G,f,h.up j.st,(o.trans st.sg).trans h.st.sg,b⟩
   |bk f=>
    rw[l]at b;exact λσ G H h=>b σ G H (h.up j.st)
   |ex c f=>
    rw[l]at b;exact λσ G H h=>b σ G H (h.up j.st)
   |rt r=>
    rw[l]at b
    have:=b.rebase j.st
    cases r<;>exact this
def ET(hp:PassesOwn (model X.prog X.w) X.A X.env X.xe)(hc:X.calm=qz)(hN:X.N.Nodup)(hi:MIG X ad tg it f)(ht:cG tg=qv (xs,k))(hn:NmsOk X xs is)(hb:MSs X ad Z body g)(hs: ∀x,foldedSetIterable it X.env x=pure x):MS X ad Z (.For tg it body [] pos) (nN is (k==0) f g):=by
 obtain⟨P,hk⟩:=GK hc hN ht hn;refine PS.imp (JO hp hc hi P hb hs) ?_;rintro o l H ⟨h,G,n,E,S,i,a⟩;refine⟨G,n,E l,S.st.gh,S.sl,i.1 l,?_⟩;unfold nN f8 at a
 cases e:f n with
 |ok d=>
  rw[e]at a
  have b:OKo X ad h (match items d with|some m=>hX (yE is (k==0)) g m n|none=>.rt .bad) o E:=a
  cases j:items d with
  |none=>rw[j]at b;exact b.elim
  |some m=>
   rw[j]at b;exact⟨m,j,λJ p q st it=>v8 hk (S.step st) i it b⟩
 |ow xs=>
  rw[e]at a;exact λJ p q st it=>v8 hk (S.step st) i it a
 |ex c=>rw[e]at a;exact λs r st=>a l s r (S.step st)
 |bad=>rw[e]at a;exact a
def KJ{st:Stmt}:MS X ad Z st Mo:=λ_ _ _ _ _ _ a=>by obtain⟨_,_,_,_,_,_,b⟩:=a;exact az b
def Df:Oq X (M8 X.K):=by
 intro n s J H x y v u Q I m E h;obtain⟨p,O,i,z,rfl,rfl,A,o,q⟩:=h;cases m;obtain⟨t,rfl⟩:=E;obtain⟨c,r,f,M⟩:=I.list A;obtain⟨j,b,L,N,B,C⟩:=t7 o;obtain⟨w,l,d⟩:=r.get L;have G:=r.length;have P:=nI;have a:EP X n J Q w s:=⟨z,H,I,d,q⟩
 by_cases g:0<=i
 ·have e:i.toNat=j:=by
   rw[seqIndex_of g C]at b;exact lz b
  exact wpAny_getItem_list f.isList g (by lia) (by rw[e];simpa using l) a
 ·have e:(i+(c.toArray.size:Int)).toNat=j:=by
   rw[seqIndex_neg (by lia) B]at b
   rw[aw, <-G];exact lz b
  exact wpAny_getItem_list_neg f.isList (by lia) (by rw[aw]<;>lia) (by lia) (by rw[e];simpa using l) a
def GM(hN:X.N[i]? =qv x)(hv:Vis X.env.scope x)(hd:(x==("__debug__":Str))=q4)(hcd:(x==("__classdict__":Str))=q4)(he:ME X ad e f)(hk:ME X ad kx fk)(ha: ∀ov iv new,augStore kx ov iv new=(do holding [new,ov,iv] (setItem ov iv new);release [new,ov,iv] [];pure .next)):
  MS X ad Z (.AugAssign (.Subscript (.Name x p) kx tp) .Add e pos) (CV i fk f):=by
 refine PS.imp (FP (b9 hN hv hd hcd) hk Df he JN vM ha) ?_;rintro O Y H ⟨r,G,s,E,S,I,g⟩;unfold CV at g
 cases q:s[i]? with
 |none=>rw[q]at g;exact g.elim
 |some sl=>
  rw[q]at g
  cases sl with
  |no=>exact g.elim
  |sh d=>exact g.elim
  |dc d=>exact g.elim
  |sd d=>exact g.elim
  |rk _ _=>exact g.elim
  |ow n=>
   obtain⟨a,t,K,h2,h3,u⟩:=S.sl.ow q;refine⟨.ref a,K,?_⟩;refine eW S I g λv2 y G2 H2 h J k2=>?_
   obtain⟨U,o⟩:=eI h h2 h3
   cases y<;>try exact az k2
   rename_i j;unfold Rep at J;subst J
   have c:OKo X ad r (match ixD n.length j with|some m=>(match n[m]? with|some (.int a)=>f8 s (f s) λd=>(match d with|.int b=>.nx (s.set i (.ow (n.set m (.int (a+b)))))|_=>.rt .bad)|_=>.rt .bad)|none=>.rt .bad) O E:=k2
   cases q2:ixD n.length j with
   |none=>rw[q2]at c;exact c.elim
   |some m=>
    rw[q2]at c
    dsimp only at c
    cases q3:n[m]? with
    |none=>rw[q3]at c;exact c.elim
    |some d0=>
     rw[q3]at c
     cases d0<;>try exact az c
     rename_i v
     dsimp only at c
     have L:=u.mono h.sg;obtain⟨v0,M,B⟩:=L.get q3;unfold Rep at B;subst B
     have A:atI t j=qv (.int v):=by
      unfold atI;rw[u.length, <-vS,q2];exact M
     refine⟨a,t,j,.int v,rfl,rfl,SqL.of o,A,?_⟩;refine eW (S.step h) I c λv3 T W H3 l C k3=>?_
     obtain⟨P,z⟩:=eI l U o
     cases T<;>try exact az k3
     rename_i Q;unfold Rep at C;subst C;refine⟨v,Q,rfl,rfl,a,t,j,m,rfl,rfl,z,by rw[u.length, <-vS];exact q2,?_⟩
     exact k3 Y W _ (((S.step h).step l).upd q K P (aJ.set bF m (L.mono l.sg)))
end
section
variable{X:Cx}{ad:Ad}{s3:Shared}{σ σ2:St}{H3:Hp}{ρ:Rho}{pos pos' cpos:Pos}{elt it tg:Expr}{ifs:List Expr}{fi fe:F}{fc:Option F}{sc:Scope}{k:Nat}{cs:List Nat}{xs:List Str}
def uH(I3:Inv X cf σ H3 s3)(I2:Inv X cf σ2 H' s2)(hf:H' s3.heap.objs.size=qw)(sb:oo s3.heap.objs.size s2.heap h'):Inv X cf σ2 H' {s2 with heap:=h'}:=by
 refine I2.turned (t':=s2.toks) (it:=s3.heap.objs.size) (λb o g e=>(sb.2 b g).trans e) hf ?_ (.inr I3.sz) (λx c h z=>?_) λp f z=>?_
 ·intro z;obtain⟨m,d,_⟩:=I3.loc;obtain⟨o,_,_,a,_⟩:=d;exact absurd (ah a) (by rw[<-z];exact nv _)
 ·obtain⟨v,o,a,_⟩:=I3.cell x c h;exact absurd (ah a) (by rw[z];exact nv _)
 ·obtain⟨a,_⟩:=I3.pin p f;exact absurd (ah a) (by rw[z];exact nv _)
def Dg(n:h.Ns C m)(sb:oo a h h')(ne:C≠a):h'.Ns C m:=by
 obtain⟨o,es,c,b,r⟩:=n;exact⟨o,es,c,(sb.2 C ne).trans b,r⟩
def Dh{U:Prop}(hw:U->∀ρ y,fe ρ≠ .ok y){C:Ctx}{i:Nat}{x:Str}(hN:X.N.Nodup)(hi:Mu X x i)(hc:X.calm=qz)(S:CompSc X C sc xs cs)(hit:MI X ad tg it fi)(hset: ∀a b c,it≠ .Set a b c)(hxs:xs.length=if k=0 then 1 else k)
  (hg: ∀fp s3 H3 pins',PG (cX X (xs++bK sc) sc s3 H3 fp pins') tg (gTg X.K k)) (hts: ∀fp s3 H3 pins',MTs (cX X (xs++bK sc) sc s3 H3 fp pins') ad ifs fc) (he: ∀fp s3 H3 pins',ME (cX X (xs++bK sc) sc s3 H3 fp pins') ad elt fe)
  (hs:swapsWith (.ListComp elt [⟨tg,it,ifs,0⟩] sc cpos) (qv (.Name x pos')) pos.line X.env=pure qz):
  PS X (.Assign [.Name x pos'] (.ListComp elt [⟨tg,it,ifs,0⟩] sc cpos) pos) (FO (tEW X ad U (aO k cs fi fc fe)) (kN i)):=by
 rintro q s n H D' I ⟨G,ρ,E,hG,hS,r,hr⟩;rw[exec_Assign_Name_used _ _ _ _ hs]
 have L:closureFor sc X.env=pure (tV X.env.cells sc.names []):=nQ λx r=>by
  obtain⟨c,h⟩:=I.ok.has x (S.fre x r);rw[h];rfl
 refine aa (wpAny_standAt (aa ?_));show wpAny _ X.A (do let _<-comprehension (.ListComp elt [⟨tg,it,ifs,0⟩] sc cpos) sc X.env _ (newList []) q4 (eval it X.env) (qv (assign (.Name x pos') X.env))) _ _ s
 refine aa (wpAny_mono (wpAny_comprehension_free (use:=qv (assign (.Name x pos') X.env)) (Q:=λ_ l=>SP X q D' .next l) rfl (Db hset) L S.kind S.names ?_) (λ_ l hq=>ae (ae hq)) λ_ _ e=>e)
 refine L2.thn (hit q s n H _ I ⟨G,ρ,E,hG,hS,r,KB (W:=λJ H2=>∃f g all,Step G H f H2/\ItH X ad J f H2 g/\bR (dG k (jK cs ρ) fc fe) g=qv all/\RKW X.K ad U f H2 (.ow all) (λv H1=>kN i v n H1 D'.nx) E) hr λJ f H2 g all a b c d=>⟨f,g,all,a,b,c,d⟩⟩) λv s1 h1=>
  L2.thn h1 λan s2 ab=>?_
 obtain⟨ar,fp,tn,J,H2,e,I2,T,ac,f2,f,g,all,sp,hit,P,p⟩:=ab;subst e;obtain⟨σc,l1,l2,l3⟩:=nR (xs:=xs) (sc:=sc) (nt:=if k=0 then 1 else k) hxs S.N S.cs (λx h=>rJ h) (hS.step sp) I2.len
 refine rH (σc:=σc) hw hc I2 T ac f2 hit P sp.gh S.kind S.cell S.fre S.frl l1 l2 rfl l3 (hg fp) (hts fp) (he fp) λs3 l H3 u G' am D vs j f3 Z M hD gD B r' Y=>?_
 obtain⟨m,al,_⟩:=Z.loc;have I4:Inv X q n u l:=EQ (fpO:=f3) j Z ⟨rfl,λ_ _=>rfl⟩
 show wpAny _ X.A (assign (.Name x pos') X.env (.ref D)) _ _ _;refine wpAny_assign_Name (p9 I4 hN hi.1 hi.2.1 (v:=.ref D) rfl (λap I5 ⟨a,sb,O⟩=>?_) hi.2.2)
 have ne:s3.heap.objs.size≠a:=by
  rcases O with rfl|O
  ·intro z;obtain⟨m',hn,_⟩:=j.loc;obtain⟨o,_,_,ho,_⟩:=hn;exact absurd (ah ho) (by rw[<-z];exact nv _)
  ·intro z;obtain⟨v,o,ho,_⟩:=j.cell x a O;exact absurd (ah ho) (by rw[<-z];exact nv _)
 refine⟨m,Dg al sb ne,λh' t=>?_⟩
 exact⟨n.set i (qv (.ref D)),u,uH j I5 Z.free t,p D vs G' u M hD gD B r' Y⟩
def GN{C:Ctx}{i:Nat}{x:Str}(hN:X.N.Nodup)(hi:Mu X x i)(hc:X.calm=qz)(S:CompSc X C sc xs cs)(hit:MI X ad tg it fi)(hset: ∀a b c,it≠ .Set a b c)(hxs:xs.length=if k=0 then 1 else k)
  (hg: ∀fp s3 H3 pins',PG (cX X (xs++bK sc) sc s3 H3 fp pins') tg (gTg X.K k)) (hts: ∀fp s3 H3 pins',MTs (cX X (xs++bK sc) sc s3 H3 fp pins') ad ifs fc) (he: ∀fp s3 H3 pins',ME (cX X (xs++bK sc) sc s3 H3 fp pins') ad elt fe)
  (hs:swapsWith (.ListComp elt [⟨tg,it,ifs,0⟩] sc cpos) (qv (.Name x pos')) pos.line X.env=pure qz):
  PS X (.Assign [.Name x pos'] (.ListComp elt [⟨tg,it,ifs,0⟩] sc cpos) pos) (FO (tE X ad (aO k cs fi fc fe)) (kN i)):=
 PS.imp (Dh (U:=False) az hN hi hc S hit hset hxs hg hts he hs) λl m H d=>by obtain⟨G,h,E,f,e,j,g⟩:=d;exact⟨G,h,E,f,e,j,RK.w g⟩
end
open PySem.Calls Builtin Builtin.ObjectAttr Builtin.Getset_descriptor
section
variable{E:cg}{K:Frag}{R:Result->Shared->Prop}
def rB.ty(I:rB h x C):Looks M h (typeOf (.ref x)) (.ref C):=by
 obtain⟨o,d,b,a,c⟩:=I;exact a▸(Looks.ld b).andThen .now
def GO(X:K.In s.heap)(I:rB s.heap x C)(hm:mroIn K C (.type "object")=qv qz)(h:R (.ok (.ret (.ref C))) s):
  codeAny (model prog w) A (.call (.builtin "getset_descriptor.__get__") ⟨[.builtin "object.__class__",.ref x,tp],[]⟩) R s:=by
 obtain⟨b,g,dr,t,a⟩:=s;have d:=I.ty (M:=model prog w);have c:=looks_mroIn (M:=model prog w) X hm;refine codeAny_call_builtin KF.slot_gs.plain KF.entry_gs (KF.slot_gs.check _ _ _ _ _ _ _ _ KF.type_class (KF.args_gs _ _ _) ?_);unfold Builtin.«getset_descriptor.__get__» descrGet;rw[dga_obj];refine aa (ae ?_);unfold descrGetter descrCheckInstance descrNameAndClass isInstance;simp only[KF.owner_class]
 repeat lk
 refine⟨Code.quiet_builtin _ (by decide+kernel),codeAny_builtin KF.entry_class ?_⟩
 unfold Builtin.«object.__class__» shownTypeOf
 repeat lk
 exact h
def AL(X:K.In s.heap)(I:rB s.heap x C)(hm:mroIn K C (.type "BaseException")=qv qz)(hq:Q () s):wpAny M A (checkBuiltinCall "BaseException.__getattribute__" ⟨[.ref x,nameV],[]⟩) Q E s:=by
 obtain⟨e,g,dr,t,d⟩:=s
 have hk:builtinKind "BaseException.__getattribute__"=qv .slot:=by decide+kernel
 have a:splitId "BaseException.__getattribute__"=qv ("BaseException","__getattribute__"):=by decide+kernel
 have b:=I.ty (M:=M);have c:=looks_mroIn (M:=M) X hm;have f:=F.args_bexc_ga (.ref x) nameV;simp only[checkBuiltinCall,hk,a];refine aa ?_;unfold isInstance;refine aa (b.at (c.at ?_))
 repeat (any_goals (first|assumption|wp_step))
def AM(X:K.In s.heap)(I:rB s.heap x C)(hm:mroIn K C (.type "object")=qv qz)(ha:findIn K (.ref C) "__class__"=qv (qv (.builtin "object.__class__")))(hq:Q (.done (.ret (.ref C))) s):
  wpAny (model prog w) A (Builtin.«object.__getattribute__» ⟨[.ref x,.str "__class__" tk],[]⟩) Q E s:=by
 obtain⟨b,g,d,t,a⟩:=s;have h:(⟨b,g,d,t,a⟩:Shared).TypeIs (.builtin "object.__class__") "getset_descriptor":=F.typeOf_object_class;have n:=F.typeOf_object_class;have m:=F.slot_gs_get.lookup;have j:=F.slot_gs_set.lookup;have l:=I.ty (M:=model prog w);have f:=looks_findIn (M:=model prog w) X ha;obtain⟨o,i,e,c,p⟩:=id I
 repeat (any_goals (first|assumption|(with_reducible refine wpAny_loadPart_at e ?_;rw[c])|with_reducible refine f.at ?_|wp_step))
 refine GO X I hm ?_
 repeat (any_goals (first|assumption|wp_step))
def AN(X:K.In s.heap)(I:rB s.heap x C)(hm:mroIn K C (.type "object")=qv qz)(hb:mroIn K C (.type "BaseException")=qv qz)(ha:findIn K (.ref C) "__class__"=qv (qv (.builtin "object.__class__")))(hg:findIn K (.ref C) "__getattribute__"=qv (qv (.builtin "BaseException.__getattribute__")))(hn:findIn K (.ref C) "__getattr__"=qv qw)(h:Q (qv (.ref C)) {s with toks:=s.toks+1}):
  wpAny (model prog w) A (getAttr? (.ref x) "__class__") Q E s:=by
 obtain⟨l,g,d,t,j⟩:=s;have n:=I.ty (M:=model prog w);have i:=looks_findIn (M:=model prog w) X hg;have f:=looks_findIn (M:=model prog w) X hn;have p:=PySem.F.excAttr_ValueError.ga.bind (.ref x)
 have a:(n7 "BaseException.__getattribute__"==n7 "object.__getattribute__")=q4:=by decide+kernel
 have e:(onTheHeap (qj C)&&n7 "BaseException.__getattribute__"==n7 "object.__getattribute__")=q4:=by rw[a];rfl
 obtain⟨o,m,c,b,q⟩:=id I;unfold getAttr? getAttrBy? getAttrBy
 repeat (any_goals (first|assumption|(with_reducible refine wpAny_loadPart_at c ?_;rw[b])|with_reducible refine i.at ?_|with_reducible refine f.at ?_|wp_step))
 refine codeAny_call_builtin PySem.F.excAttr_ValueError.ga.plain F.entry_bexc_ga (AL X I hb (AM X I hm ha ?_))
 repeat (any_goals (first|assumption|wp_step))
end
def _root_.L2.ObjOk.there(x:ObjOk P w H h a o): ∃ob,h.get? a=qv ob:=by
 cases o with
 |lst c=>obtain⟨_,_,_,_,e⟩:=x;exact⟨_,e⟩
 |tup c=>obtain⟨_,_,_,⟨ob,e,_⟩,_⟩:=x;exact⟨_,e⟩
 |dK b=>obtain⟨_,_,_,_,o,_,_,e,_⟩:=x;exact⟨_,e⟩
 |dT b=>obtain⟨_,_,_,_,o,_,_,e,_⟩:=x;exact⟨_,e⟩
 |set S n=>obtain⟨o,_,_,_,e,_⟩:=x;exact⟨_,e⟩
 |ins C g fs=>obtain⟨_,_,_,e,_⟩:=x;exact⟨_,e⟩
 |own y=>exact x
 |xd fs=>obtain⟨_,⟨_,_,_,e,_⟩,_⟩:=x;exact⟨_,e⟩
 |rng i d=>obtain⟨_,_,_,e⟩:=x;exact⟨_,e⟩
 |frz ob u=>obtain⟨e,_⟩:=x;exact⟨_,e⟩
 |tbl j=>exact⟨_,(show h.get? a=qv _ from x)⟩
 |met f y=>exact⟨_,(show h.get? a=qv _ from x)⟩
 |ext l=>obtain⟨_,e,_⟩:=x;exact e
section
variable{X:Cx}{ad:Ad}{σ:St}{E₀:XK}
structure DefX(X:Cx)(E₀:XK):Prop where
 ex:X.ex=[]
 stk:X.stack=X.env::X.outer
 fr:X.env.frame=qv X.env.locals
 xe: ∀e s',wpAny (model X.prog X.w) X.A (leaving X.env e) (λ_ s''=>CXe X.prog X.w X.outer X.H₀ X.s₀ E₀ e s'') (λe' s''=>CXe X.prog X.w X.outer X.H₀ X.s₀ E₀ e' s'') s'->X.xe e s'
def KL(J:Inv X cf σ H s)(e:X.s₀.heap.get? b=qv o):b≠X.env.locals:=λz=>by
 have:=ah e
 rw[z]at this;exact absurd (bh this J.ok.above) (nv _)
def AO(J:Inv X cf σ H s)(e:X.s₀.heap.get? b=qv o)(nf:b∉X.fs):b∉frs X.stack:=λz=>by
 rcases au.mp (J.stkSub b z)with q|q
 ·exact KL J e q
 ·exact nf q
def EU(T:DefX X E₀)(J:Inv X cf σ H' s)(fly:Heap.FlyingW B X.outer ea cls a0 h')(ff:s.heap.FunFrames B X.stack)(stays:B.StaysIn s.heap)(up:s.heap.UpToSlots h')(c8: ∀b o,X.s₀.heap.get? b=qv o->b∉X.fs->∃o',B.get? b=qv o')(c9: ∀b o,H' b=qv o->∃o',B.get? b=qv o')(ne:H' ea=qw)(q:E₀ cls qw H'):
  CXe X.prog X.w X.outer X.H₀ X.s₀ E₀ (.ref ea) {s with heap:=h'}:=by
 have i: ∀b,b∉X.ex:=λb=>by rw[T.ex];simp
 have m:B.StaysIn h':=fly.1
 have d: ∀b o,s.heap.get? b=qv o->(∃o',B.get? b=qv o')->h'.get? b=qv o:=λb o e ⟨o',r⟩=>by
  have:=stays b o' r
  rw[e]at this;cases this;exact m b o r
 have a: ∀b∈X.fs, ∀o,s.heap.get? b=qv o->∃p,h'.get? b=qv {o with slots:=p}:=λb t o e=>by
  obtain⟨_,x,h,u⟩:=ff.mem (b:=b) (by rw[T.stk];show b∈frs (X.env::X.outer);unfold frs;rw[ix,T.fr];exact iq _ t)
  rw[e]at h;cases h;exact up b o e u
 refine⟨ea,cls,a0,H',B,rfl,J.os,J.bare,fly,⟨λb o e n f _=>?_,λb o e n f _=>?_,λb o e n _=>?_,λb o e _=>?_,J.base.tups,J.base.frzs,J.base.tbls⟩,λb o e=>?_,ne,c8,c9,q⟩
 ·exact d b o (J.base.keep b o e n f (i b)) (c8 b o e f)
 ·obtain⟨p,g⟩:=J.base.slot b o e n f (i b);obtain⟨l,h⟩:=a b f _ g;exact⟨l,h⟩
 ·exact J.base.free b o e n (i b)
 ·obtain⟨o',g⟩:=J.base.there b o e (i b)
  by_cases f:b∈X.fs
  ·obtain⟨p,h⟩:=a b f _ g;exact⟨_,h⟩
  ·exact⟨o',d b o' g (c8 b o e f)⟩
 ·refine(J.hok b o e).stay (λc v j g=>?_) (λ_ z=>z) λ_ _ z=>z
  rcases j with rfl|j
  ·exact d c v g (c9 c o e)
  ·exact d c v g (c9 c _ j)
def v9(T:DefX X E₀):XP X ad σ (λc H'=>E₀ (.ref (ad.cls c)) qw H'):=by
 intro p H s e j I i;obtain⟨y,cls,z,H',B,rfl,u,t,a,un,f,x,l,v,c,rfl,q⟩:=i;have J:Inv X p σ H' j:=I.call' (ch:=[]) u un f t λb m=>by simp at m
 refine T.xe _ _ ?_
 have g:X.A.frames=qv (X.env::X.outer):=by rw[<-T.stk];exact I.ok.frames
 rw[T.stk]at a;refine wpAny_leaves_onW g T.fr a λC d up=>?_
 refine EU T J d (by rw[T.stk];exact a.2.2.1) a.1 up (λb o e r=>?_) v x q
 obtain⟨n,h⟩:=I.base.there b o e (by rw[T.ex];simp)
 exact l b n h (AO I e r)
def wB(T:DefX X E₀)(hc:X.calm=qz)(hg:L2.Gl X x)(hm:X.mg x=qv (.ref C))(hd:(x==("__debug__":Str))=q4)(hi:excIn X.K C [.type "ValueError",.type "Exception",.type "BaseException",.type "object"] "ValueError.__new__"=qz)(I:Inv X cf σ H s)(q:E₀ (.ref C) qw H):wpAny (model X.prog X.w) X.A (exec (.Raise (qv (.Call (.Name x np) [.Constant (.str msg) j kp] [] cpos)) qw pos) X.env) (SP X cf D') X.xe s:=by
 have y: ∀c:Heap,X.K.In c->∃bm N nm q bs hdct sn sub ab col dd k0 k1 k2 k3 k5 mN,c.get? C=qv (excClassObj nm q C N bs bm hdct sn sub ab col dd k0 k1 k2 k3 k5 "ValueError.__new__")/\c.Ns N mN/\mN "__init__"=qw/\OwnTail c [.type "ValueError",.type "Exception",.type "BaseException",.type "object"] bm:=by
  intro c Z;have q:=hi;unfold excIn at q;split at q
  ·rename_i dd cd S ho;split at q
   ·rename_i C' bm k0 k1 k2 k3 n k5 hm O;simp only[av,beq_iff_eq,Bool.not_eq_true']at q;obtain⟨⟨⟨⟨⟨rfl,rfl⟩,g⟩,ht⟩,hok⟩,d⟩:=q;obtain⟨nm,bs,ad,ns,v,hd,sn,sub,ab,col,ac⟩:=cd
    dsimp only at hm g hok d
    subst hm g
    have E:S= #[k0,k1,k2,k3,qv (.builtin "ValueError.__new__"),k5]:=by
     obtain⟨l⟩:=S
     simp only at O
     rw[O]
    subst E;exact⟨bm,ns,nm,v,bs,hd,sn,sub,ab,col,dd,k0,k1,k2,k3,k5,_,Z _ _ ho,.of_isNs (isNs_of_in Z hok),nsMap_none_of_in Z hok d,tail_of_in Z ht⟩
   ·cases q
  ·cases q
 obtain⟨bm,N,nm,v,bs,hdct,sn,sub,ab,col,dd,k0,k1,k2,k3,k5,mN,W,hN,d,L⟩:=y X.base I.ok.mod.kin
 refine wpAny_Raise_call_subT (C:=C) (nm:=nm) (q:=v) (N:=N) (bs:=bs) (bm:=bm) (hdct:=hdct) (sn:=sn) (sub:=sub) (ab:=ab) (col:=col) (dd:=dd) (k0:=k0) (k1:=k1) (k2:=k2) (k3:=k3) (k5:=k5)
  PySem.F.excBase_ValueError (mN:=mN) (L.hasType PySem.F.excBase_ValueError.hasBase) (I.ok.hd hc) rfl d (gA I hg hm ⟨rfl,?_⟩ hd)
 refine ir (je (Calls.Constant_str (k:=j) (pos:=kp) (jt ⟨rfl,(show 1<=sizeLine from by decide),?_,?_,?_,λP e M=>?_⟩)))
 ·exact I.bk _ _ W
 ·exact hN.keeps I.bk
 ·exact L.keeps I.bk
 ·-- the frame is left
  have I1:Inv X cf σ H {s with toks:=s.toks+1}:=I.tok _
  have J:Inv X cf σ H {s with heap:=P,toks:=s.toks+1}:=I.kept (t':=s.toks+1) M.keeps
  refine T.xe _ _ ?_
  have u:X.A.frames=qv (X.env::X.outer):=by rw[<-T.stk];exact I.ok.frames
  have Q:s.heap.FunFrames (hideAll s.heap (frs X.stack)) X.stack:=funFrames_hide I.stack λenv Y a U=>jd.mpr ⟨env,Y,U⟩
  have G:P.FunFrames (hideAll s.heap (frs X.stack)) X.stack:=Q.of_keeps λb o hb _=>⟨o,M.keeps b o hb,rfl⟩
  have B:(hideAll s.heap (frs X.stack)).StaysIn s.heap:=λb o e=>of_hideAll _ e
  have m:=Q;rw[T.stk]at m;have f:(hideAll s.heap (frs (X.env::X.outer))).StaysIn s.heap:=λb o e=>of_hideAll _ e
  refine wpAny_leaves_madeW (h:=s.heap) (base:=hideAll s.heap (frs (X.env::X.outer))) u T.fr f m M λh2 t r _ _ up=>?_
  refine EU T J r (by rw[T.stk]at G ⊢;exact G) (λb o e=>M.keeps b o (of_hideAll _ e)) up (λb o e hf=>?_) (λb o e=>?_) ?_ q
  ·obtain⟨p,i⟩:=I.base.there b o e (by rw[T.ex];simp)
   exact⟨p,hideAll_get _ i (by have:=AO I e hf;rwa [T.stk]at this)⟩
  ·obtain⟨p,i⟩:=(I.hok b o e).there
   exact⟨p,hideAll_get _ i λz=>by
    have:=I.stkFree b (by rw[T.stk];exact z)
    rw[this]at e
    cases e⟩
  ·cases z:H e with
   |none=>rfl
   |some o=>
    obtain⟨p,i⟩:=(I.hok e o z).there;rw[M.new]at i;cases i
end
section
variable{X:Cx}{ad:Ad}{σ:St}{H:Hp}
def Di{E₀:XK}{x:Str}{c:Nat}{np cpos pos kp:Pos}{msg:Str}{j:Nat}(T:DefX X E₀)(hc:X.calm=qz)(hg:L2.Gl X x)(hm:X.mg x=qv (.ref (ad.cls c)))(hd:(x==("__debug__":Str))=q4)(hi:excIn X.K (ad.cls c) [.type "ValueError",.type "Exception",.type "BaseException",.type "object"] "ValueError.__new__"=qz):
  MS X ad (λE=>∀σ c H,E σ c H->E₀ (.ref (ad.cls c)) qw H) (.Raise (qv (.Call (.Name x np) [.Constant (.str msg) j kp] [] cpos)) qw pos) (eE c):=by
 rintro e s σ H f I ⟨b,G,g,E,S,a,d⟩;exact wB T hc hg hm hd hi I (a.2 σ c H (d σ G H S))
end
structure ExcCls(K:Frag)(C:Addr):Prop where
 is:(clsIn K C).isSome=qz
 ob:mroIn K C (.type "object")=qv qz
 be:mroIn K C (.type "BaseException")=qv qz
 ca:findIn K (.ref C) "__class__"=qv (qv (.builtin "object.__class__"))
 ga:findIn K (.ref C) "__getattribute__"=qv (qv (.builtin "BaseException.__getattribute__"))
 gn:findIn K (.ref C) "__getattr__"=qv qw
def Dj{K:Frag}(T:ExcCls K C):KitX K (.ref x) (.ref C) (λh=>rB h x C) where
 ty:=λ_ _ _ I=>I.ty
 it:=λ_ _ Z _=>by
  obtain⟨d,a⟩:=e7.mp T.is;unfold clsIn at a;split at a
  ·rename_i m i c b g;intro o r s p k q;unfold isType loadHead;exact aa (wpAny_loadPart (k _ _ (Z _ _ g)) (ae q))
  ·cases a
 ne:=λh l dd j n t Z f=>by
  obtain⟨d,a⟩:=e7.mp T.is;refine j3.mpr λq=>?_
  have e:C=l:=qj.inj (beq_iff_eq.mp q)
  subst e;unfold clsIn at a;split at a
  ·rename_i m i c b g;have z:=(Z _ _ g).symm.trans f;cases z
  ·cases a
 ca:=λZ I k=>AN Z I T.ob T.be T.ca T.ga T.gn k
noncomputable def tyD(ad:Ad):D->Option Value
 |.non=>qv (.type "NoneType")
 |.bl _=>qv (.type "bool")
 |.int _=>qv (.type "int")
 |.str _=>qv (.type "str")
 |.tup _=>qv (.type "tuple")
 |.lst _=>qv (.type "list")
 |.exc c=>qv (.ref (ad.cls c))
 |.fn _=>qw
def OH(X:Cx)(ad:Ad)(cv:Value)(p:D->Option Bool):Prop:= ∀d b,p d=qv b->∃t,tyD ad d=qv t/\kitOne X.K t cv=qv b
section
variable{X:Cx}{ad:Ad}{σ:St}
def AQ{Q:cg}{Ex:cg}(hx: ∀c,ExcCls X.K (ad.cls c))(I:Inv X cf σ H s)(hG:Same G H)(q:Rep X.K ad G d v)(r:bG v u)(ht:tyD ad d=qv t)(e:kitOne X.K t cv=qv b)(h: ∀tk,Q (.bool b) {s with toks:=tk}):wpAny (model X.prog X.w) A (call (.builtin "isinstance") [u,cv]) Q Ex s:=by
 cases d with
 |non=>unfold Rep at q;subst q;cases (show u=p3 from r);cases ht;exact kia_one kitx_none I.kIn qb e (by intro z;cases z) h
 |bl k=>unfold Rep at q;subst q;cases (show u=p4 k from r);cases ht;exact kia_one kitx_bool I.kIn qb e (by intro z;cases z) h
 |int k=>unfold Rep at q;subst q;obtain⟨j,rfl⟩:=r;cases ht;exact kia_one kitx_int I.kIn qb e (by intro z;cases z) h
 |str k=>unfold Rep at q;subst q;obtain⟨j,rfl⟩:=r;cases ht;exact kia_one kitx_str I.kIn qb e (by intro z;cases z) h
 |tup x=>
  unfold Rep at q;obtain⟨p,m,rfl,a,_⟩:=q
  cases (show u=qj p from r)
  cases ht;obtain⟨f,_,⟨o,i,g,_⟩,_⟩:=I.tuple (hG.seqT a);exact kia_one kitx_tuple I.kIn ⟨o,i,g⟩ e (by intro z;cases z) h
 |lst x=>
  unfold Rep at q;obtain⟨p,m,rfl,a,_⟩:=q
  cases (show u=qj p from r)
  cases ht;obtain⟨f,_,⟨o,n,i,g,_⟩,_⟩:=I.list (hG.seq a);exact kia_one kitx_list I.kIn ⟨o,i,g⟩ e (by intro z;cases z) h
 |exc c=>
  unfold Rep at q;obtain⟨p,rfl,a⟩:=q
  cases (show u=qj p from r)
  cases ht;obtain⟨l,_,_⟩:=(show ObjOk X.prog X.w H s.heap p (OF (ad.cls c) p) from I.hok p _ (hG _ _ a))
  exact kia_one (Dj (hx c)) I.kIn l e (by intro z;cases z) h
 |fn k=>cases ht
inductive ClNm(X:Cx)(t:Str)(cv:Value):Prop
 |blt (T:String):cv= .type T->L2.Gl X t->X.mg t=qw->bootBuiltins t=qv (.type T)->t≠"__name__"->(t==("__debug__":Str))=q4->ClNm X t cv
 |own (C:Addr):cv= .ref C->L2.Gl X t->X.mg t=qv (.ref C)->(t==("__debug__":Str))=q4->ClNm X t cv
def ClNm.ev{Ex:cg}{Q:cg}(c:ClNm X t cv)(I:Inv X cf σ H s)(h:Q cv s):wpAny (model X.prog X.w) X.A (eval (.Name t tp) X.env) Q Ex s:=by
 cases c with
 |blt T e g m b n d=>subst e;exact gB I g m b h n d
 |own C e g m d=>subst e;exact gA I g m h d
def GP(hx: ∀c,ExcCls X.K (ad.cls c))(hg:L2.Gl X "isinstance")(hm:X.mg "isinstance"=qw)(c:ClNm X t cv)(k:OH X ad cv P)(ha:ML X ad a f)(he:starEach [a,.Name t tp] X.env=(q4,eval a X.env)::starEach [.Name t tp] X.env):ME X ad (.Call (.Name "isinstance" p) [a,.Name t tp] [] pos) (rIs P f):=by
 refine λB s y H Q I N=>N.el λG S E O J j L=>?_
 refine wpAny_Call_Name_kw (gB (u:=.builtin "isinstance") I hg hm (by decide+kernel) ?_ (by decide) (by decide))
 refine dy ?_ he rfl;rw[he];refine je (L2.thn (ha.lk B s y H G S _ Q E I O J j L) λu M m=>?_)
 obtain⟨v,d,C,A,i,r,st,q,k1⟩:=m;refine je (c.ev i (jt ?_))
 have g:RK X.K ad C A (match P d with|some b=>.ok (.bl b)|none=>.bad) Q E:=k1
 cases e:P d with
 |none=>rw[e]at g;exact g.elim
 |some b=>
  rw[e]at g;obtain⟨ty,n,x⟩:=k d b e;have h: ∀l,EP X B y Q (.bool b) {M with toks:=l}:=λl=>⟨.bl b,A,i.tok l,rfl,g.ok_now st.gh bS⟩
  rcases q with q|⟨a',vs,ds,rfl,rfl,g1,h1,rp⟩
  ·exact AQ hx i st.gh q r n x h
  ·refine AQ (G:=upd C a' (.lst vs)) hx i (λb o e=>?_) ?_ r n x h
   ·by_cases z:b=a'
    ·subst z;rw[aG]at e;rw[h1];exact e
    ·rw[aD z]at e;exact st.gh b o e
   ·unfold Rep;exact⟨a',vs,rfl,SqL.of aG,rp.mono (Same.upd_new g1)⟩
end
structure RkC(K:Frag)(A:Addr):Prop where
 cl:Cls K A
 n1:iA K A "held"
 n2:iA K A "done"
 n3:iA K A "undone"
structure StepR(foot:List Addr)(G H G' H':Hp):Prop where
 sg:Same G G'
 gh:Same G' H'
 sh: ∀b o,b∉foot->H b=qv o->H' b=qv o
 nw: ∀b,G b=qw->G' b≠qw->H b=qw
 th: ∀b,H b≠qw->H' b≠qw
def RMK(K:Frag)(ad:Ad)(A:Nat)(G H:Hp)(p dx d l1 l2:Addr)(m:RM)(Q:VK)(E:Nat->Hp->Prop):Prop:=match m with
 |.pure x=>RK K ad G H x Q E
 |.chg x r'=>∀v G' H' l2',StepR [p,dx,d,l1,l2] G H G' H'->RackIn K ad A G' H' p r' dx d l1 l2'->(l2'=l2\/H l2'=qw)->Rep K ad G' x v->Q v H'
def spM(K:Frag)(ad:Ad)(A n:Nat)(m:FM):Sp:=λvs H Q E=>∃G p r dx d l1 l2 ds ws,vs=V.ref p::ws/\Same G H/\RackIn K ad A G H p r dx d l1 l2/\aJ K ad G ds ws/\ds.length=n/\RMK K ad A G H p dx d l1 l2 (m r ds) Q (λc H'=>E (.ref (ad.cls c)) qw H')
def RRK(K:Frag)(ad:Ad)(A:Nat)(G H:Hp)(m:RR)(Q:VK)(E:Nat->Hp->Prop):Prop:=match m with
 |.rk r=>∀p dx d l1 l2 G' H',Step G H G' H'->RackIn K ad A G' H' p r dx d l1 l2->(∀a∈[p,dx,d,l1,l2],H a=qw)->Q (.ref p) H'
 |.ex c=>∀G' H',Step G H G' H'->E c H'
 |.bad=>False
def spR(K:Frag)(ad:Ad)(A n:Nat)(m:FR):Sp:=λvs H Q E=>∃G ds,Same G H/\aJ K ad G ds vs/\ds.length=n/\RRK K ad A G H (m ds) Q (λc H'=>E (.ref (ad.cls c)) qw H')
def Dk(X:Cx)(x:Str)(sp:Sp):Prop:= ∃f k fd ps,X.mg x=qv (.ref f)/\ni X.K (.ref f)=qz/\FnOk X.prog X.w X.K X.mg X.base (CXe X.prog X.w) k f fd ps sp/\Room k X.A/\fB X.K fd ps []
structure MetOk(X:Cx)(ad:Ad)(A:Addr)(m:Str)(n:Nat)(M:FM):Prop where
 no:m≠"held"/\m≠"done"/\m≠"undone"
 ok: ∃f k fd ps,Meth X.K A m f/\FnOk X.prog X.w X.K X.mg X.base (CXe X.prog X.w) k f fd ps (spM X.K ad A n M)/\Room k X.A/\fB X.K fd ps []
section
variable{ad:Ad}{G:Hp}{p:Pos}{a b o:Expr}{f:F}
theorem AR: ∀{ds:List D} {ts:List Str},oS ds=qv ts->ds=ts.map D.str
 |[],ts,h=>by cases h;rfl
 |d::ds,ts,h=>by
  cases d<;>try (cases h;done)
  obtain⟨r,a,rfl⟩:=zMd (show(oS ds).map _=qv ts from h)
  rw[AR a];rfl
theorem nS{K:og}: ∀{ts:List Str} {vs:List V},aJ K ad G (ts.map D.str) vs->vs=ts.map V.str
 |[],vs,h=>by unfold aJ at h;exact h
 |t::ts,vs,h=>by
  have a:aJ K ad G (D.str t::ts.map D.str) vs:=h;unfold aJ at a;obtain⟨v,r,rfl,b,c⟩:=a;unfold Rep at b;rw[b,nS c];rfl
theorem AS{K:og}: ∀(ts:List Str),aJ K ad G (ts.map D.str) (ts.map V.str)
 |[]=>aJ.nil
 |t::ts=>aJ.cons (by unfold Rep;rfl) (AS ts)
theorem nT: ∀{ts:List Str} {us:List Value},bQ (ts.map V.str) us->∃l:List (Str×Tok),us=strValues l/\l.map (·.1)=ts
 |[],us,h=>by cases h;exact⟨[],rfl,rfl⟩
 |t::ts,us,h=>by
  cases h with
  |cons b a=>
   obtain⟨k,rfl⟩:=b;obtain⟨l,rfl,rfl⟩:=nT a;exact⟨(t,k)::l,rfl,rfl⟩
theorem rL: ∀(l:List (Str×Tok)),bQ ((l.map (·.1)).map V.str) (strValues l)
 |[]=>.nil
 |(x,t)::l=>.cons ⟨t,rfl⟩ (rL l)
def GQ(ha:ML X ad a g)(he:starEach [a] X.env=(q4,eval a X.env)::starEach [] X.env)(hl:(ap.endLine==cp.line)=qz):
  ME X ad (.Call (.Attribute (.Constant (.str sep) j p) "join" ap) [a] [] cp) (Af sep g):=by
 refine λr s A H Q I C=>C.el λG L E hG B N Y=>?_
 refine wpAny_Call_method rfl (fM he) hl g8 PySem.F.slot_str_join PySem.F.type_str_join (L2.thn (Es r s A H (λv n=>v= .str sep/\n=H) I ⟨rfl,rfl⟩) λu Z b=>?_)
 obtain⟨v,n,I1,O,rfl,rfl⟩:=b;obtain⟨t,rfl⟩:=(show ∃t,u=qi sep t from O)
 refine⟨typeIs_str _ _ _,λ_ z=>(nomatch z),?_⟩
 rw[he];refine gw rfl (ir (je (L2.thn (ha.lk r Z A n G L _ Q E I1 hG B N Y) λiv s2 b=>jt ?_)))
 obtain⟨w,d,o,H2,x,S,st,q,k⟩:=b
 cases d with
 |lst h=>
  have c:RK X.K ad o H2 (match oS h with|some f=>if JoinOk sep f then .ok (.str (qq sep f))else .bad|none=>.bad) Q E:=k
  cases e:oS h with
  |none=>rw[e]at c;exact c.elim
  |some f=>
   rw[e]at c;have k2:RK X.K ad o H2 (if JoinOk sep f then .ok (.str (qq sep f))else .bad) Q E:=c
   by_cases i:JoinOk sep f=qz
   ·rw[if_pos i]at k2;have T:Seq X ad o H2 (.lst h) w:=q;obtain⟨y,vs,rfl,m,W⟩:=T.items st.gh (rfl:items (.lst h)=qv h)
    cases AR e
    cases nS W
    rcases m with ⟨z,_⟩|⟨_,m⟩
    ·cases z
    ·obtain⟨J,U,M,_⟩:=x.list m
     cases (show iv=qj y from S)
     obtain⟨l,rfl,P⟩:=nT U;exact PySem.SC.join (D:=y) M.isList P i λt' c=>⟨.str _,H2,x.tok c,⟨t',rfl⟩,k2.ok_now st.gh eN⟩
   ·rw[if_neg i]at k2;exact k2.elim
 |_=>exact az k
def AT{E:cg}{Q:cg}(hy:(y.length==0)=q4)(hq: ∀l k,l.map (·.1)=ql x y->Q (.ref s.heap.objs.size) {s with heap:=s.heap.push {cls:=.type "list",data:=.seq (strValues l).toArray},toks:=k})(hsz:x.length<=sizeLine)(hsz2:(fw x (f6 x y 0 x.length (x.length+1)) y.length).length<=sizeLine):
  wpAny (model prog w) A (call (.builtin "str.split") [.str x t,.str y u]) Q E s:=by
 cases a:(decide (x.length<y.length)||decide (Builtin.Str.strKind x<Builtin.Str.strKind y))
 ·cases b:(f6 x y 0 x.length (x.length+1)).isEmpty
  ·refine call_meets lf (typeIs_str _ _ _) ka (jk _ _) (meets_str_split_sep x y t u a hy b hsz hsz2) ?_;show wants Q E _ {s with toks:=_,heap:=s.heap.push {cls:=.type "list",data:=.seq (strsFrom s.toks (fw x (f6 x y 0 x.length (x.length+1)) y.length)).toArray} }
   rw[strsFrom_eq];exact hq (numbered s.toks _) _ ((numbered_texts _ _).trans ((if_neg (ne_true_of_eq_false a)).trans (if_neg (ne_true_of_eq_false b))).symm)
  ·exact call_meets lf (typeIs_str _ _ _) ka (jk _ _) (meets_str_split_not_found x y t u a hy b)
    (hq [(x,t)] s.toks ((if_neg (ne_true_of_eq_false a)).trans (if_pos b)).symm)
 ·exact call_meets lf (typeIs_str _ _ _) ka (jk _ _) (meets_str_split_cannot_occur x y t u a)
   (hq [(x,t)] s.toks (if_pos a).symm)
def Dl(ho:ME X ad o f)(hb:ME X ad b g)(hbase:attributeBase o "split" X.env (eval o X.env)=eval o X.env)(he:starEach [b] X.env=(q4,eval b X.env)::starEach [] X.env)(hl:(ap.endLine==cp.line)=qz):
  ME X ad (.Call (.Attribute o "split" ap) [b] [] cp) (qT f g):=by
 refine λT s Z H Q I A=>A.el λG U E S n p N=>?_
 refine wpAny_Call_method_late hbase (fM he) hl rfl (L2.thn (ho.thn I S n p N) λv Y a=>?_)
 obtain⟨x,d,G1,H1,P,C,h,q1,k1⟩:=a
 cases d with
 |str z=>
  unfold Rep at q1;subst q1;obtain⟨t,rfl⟩:=(show ∃t,v=qi z t from C)
  refine⟨"str",_,g8,PySem.F.slot_str_split,PySem.F.type_str_split,typeIs_str _ _ _,λ_ w=>(nomatch w),?_⟩
  rw[he];refine gw rfl (ir (je (L2.thn (hb.thn P h.gh (n.step h) p k1) λiv W a=>jt ?_)))
  obtain⟨y,M,O,H2,q,L,m,q2,k2⟩:=a
  cases M with
  |str c=>
   unfold Rep at q2;subst q2;obtain⟨t2,rfl⟩:=(show ∃t,iv=qi c t from L)
   have k3:RK X.K ad O H2 (if c.length=1/\z.length<=LIM then .ow ((ql z c).map D.str)else .bad) Q E:=k2
   by_cases i:c.length=1/\z.length<=LIM
   ·rw[if_pos i]at k3
    have B:z.length<=sizeLine:=ol i.2 (by decide)
    have u:(fw z (f6 z c 0 z.length (z.length+1)) c.length).length<=z.length+2:=by
     rw[length_partsBetween]
     have:=StrLaws.occ_length_le z c 0 z.length (z.length+1)
     lia
    have r:LIM+2<=sizeLine:=by decide
    refine AT (by rw[i.1];rfl) (λl k e=>?_) B (by lia)
    have j:(l.map (·.1)).length<=sizeLine:=by
     rw[e];unfold ql;split
     ·exact(by decide:1<=sizeLine)
     ·split
      ·exact(by decide:1<=sizeLine)
      ·lia
    have J:(ql z c).map D.str=(l.map (·.1)).map D.str:=by rw[e]
    rw[J]at k3;exact⟨.ref _,_,q.lnew (t':=k) (rL l) (by rw[ao];exact j),rfl,k3.ow_new m.gh (AS _) q.fresh⟩
   ·rw[if_neg i]at k3;exact k3.elim
  |_=>exact az k2
 |_=>exact az k1
def wE{σ:St}(I:Inv X cf σ H s)(hv:bQ ys its)(hz:ys.length<=sizeLine):
  Inv X cf σ (upd H s.heap.objs.size (.tup ys)) {s with heap:=s.heap.push {cls:=.type "tuple",data:=.seq its.toArray},toks:=t'}:=
 I.laid (t':=t') (λ_ _ q=>af _ q) (aj _) (show ObjOk X.prog X.w _ _ _ (.tup ys) from⟨hz,its,hv,⟨_,ag _ rfl,rfl,_,rfl⟩,⟨_,ag _ rfl,rfl⟩⟩)
def GR(ho:ME X ad o f)(hb:ME X ad b g)(hbase:attributeBase o "partition" X.env (eval o X.env)=eval o X.env)(he:starEach [b] X.env=(q4,eval b X.env)::starEach [] X.env)(hl:(ap.endLine==cp.line)=qz):
  ME X ad (.Call (.Attribute o "partition" ap) [b] [] cp) (Ag f g):=by
 refine λO s T H Q I u=>u.el λG P E N n p J=>?_
 refine wpAny_Call_method_late hbase (fM he) hl rfl (L2.thn (ho.thn I N n p J) λv S a=>?_)
 obtain⟨x,d,W,U,M,A,j,q1,k1⟩:=a
 cases d with
 |str z=>
  unfold Rep at q1;subst q1;obtain⟨t,rfl⟩:=(show ∃t,v=qi z t from A)
  refine⟨"str",_,g8,PySem.F.slot_str_partition,PySem.F.type_str_partition,typeIs_str _ _ _,λ_ w=>(nomatch w),?_⟩
  rw[he];refine gw rfl (ir (je (L2.thn (hb.thn M j.gh (n.step j) p k1) λiv q a=>jt ?_)))
  obtain⟨y,C,L,H2,m,B,h,q2,k2⟩:=a
  cases C with
  |str c=>
   unfold Rep at q2;subst q2;obtain⟨t2,rfl⟩:=(show ∃t,iv=qi c t from B)
   have k3:RK X.K ad L H2 (if(c.length==0)=q4/\z.length<=LIM then .ok (.tup (qU z c))else .bad) Q E:=k2
   by_cases l:(c.length==0)=q4/\z.length<=LIM
   ·rw[if_pos l]at k3;refine call_meets F.slot_str_partition (typeIs_str _ _ _) F.entry_str_partition (F.args_str_partition_2 _ _) (meets_str_partition z c t t2 l.1 (ol l.2 (by decide))) ?_
    unfold qU at k3
    cases e:f6 z c 0 z.length 1 with
    |nil=>
     rw[e]at k3;exact⟨.ref _,_,wE m (ys:=[.str z,.str qk,.str qk]) (t':=q.toks+1) (.cons ⟨_,rfl⟩ (.cons ⟨_,rfl⟩ (.cons ⟨_,rfl⟩ .nil))) (by show 3<=sizeLine;decide),rfl,k3.tup_new h.gh (aJ.cons eN (aJ.cons eN (aJ.cons eN aJ.nil))) m.fresh⟩
    |cons i r=>
     rw[e]at k3;exact⟨.ref _,_,wE m (ys:=[.str (jf z 0 i),.str c,.str (jf z (i+c.length) z.length)]) (t':=q.toks+1+1) (.cons ⟨_,rfl⟩ (.cons ⟨_,rfl⟩ (.cons ⟨_,rfl⟩ .nil))) (by show 3<=sizeLine;decide),rfl,k3.tup_new h.gh (aJ.cons eN (aJ.cons eN (aJ.cons eN aJ.nil))) m.fresh⟩
   ·rw[if_neg l]at k3;exact k3.elim
  |_=>exact az k2
 |_=>exact az k1
def AU(P:Program)(w:World)(K:og)(ad:Ad)(A:Addr)(kvs:List (Str×D)):Prop:=
 (A==sysModules)=q4/\∃vs:List (Str×Value),(∃o es ep,K.lookup A=qv o/\o.ExactDict/\o.data= .dict es ep/\KeysOf (n8 P w) es/\Pairs (n8 P w) es.toList vs/\(vs.map (·.1)).Nodup)/\
  Paired (λ(p:Str×D) (q:Str×Value)=>p.1=q.1/\∃v,bG v q.2/\∀G,Rep K ad G p.2 v) kvs vs
theorem wF{K:og}: ∀{kvs:List (Str×D)} {vs:List (Str×Value)} (x:Str),Paired (λ(p:Str×D) (q:Str×Value)=>p.1=q.1/\∃v,bG v q.2/\∀G,Rep K ad G p.2 v) kvs vs->∃v,bG v ((valueAt vs x).getD .none)/\∀G,Rep K ad G ((kvs.lookup x).getD .non) v
 |[],_,x,.nil=>⟨.non,rfl,λG=>by show Rep K ad G .non .non;unfold Rep;rfl⟩
 |(k,d)::kvs,(k',u)::vs,x,.cons ⟨h1,h2⟩ h=>by
  cases (show k=k' from h1)
  by_cases e:x=k
  ·subst e;obtain⟨v,a,b⟩:=h2;refine⟨v,?_,λG=>?_⟩
   ·simpa[valueAt]using a
   ·simpa[ky]using b G
  ·obtain⟨v,a,b⟩:=wF x h;refine⟨v,?_,λG=>?_⟩
   ·have c: ¬k=x:=λz=>e z.symm
    simpa[valueAt,my,c]using a
   ·have f:(x==k)=q4:=by simpa using e
    simpa[ky,f]using b G
def KM(hF:AU X.prog X.w X.K ad A kvs)(hg:L2.Gl X x)(hm:X.mg x=qv (.ref A))(hd:(x==("__debug__":Str))=q4)(hb:ME X ad b g)(he:starEach [b] X.env=(q4,eval b X.env)::starEach [] X.env)(hl:(ap.endLine==cp.line)=qz):
  ME X ad (.Call (.Attribute (.Name x p) "get" ap) [b] [] cp) (Mn kvs g):=by
 refine λB s U H Q I u=>u.el λG Z E W m J S=>?_
 obtain⟨a,n,⟨i,es,o,h,j,Y,r,C,L⟩,q⟩:=hF;have dd: ∀{s':Shared} {H':Hp},Inv X B U H' s'->s'.heap.DictOf (n8 X.prog X.w) A n:=λT=>⟨i,es,o,T.kIn _ _ h,j,Y,r,C,L⟩
 refine wpAny_Call_method rfl (fM he) hl PySem.F.plainAttrs_dict ig PySem.F.type_dict_get (gA I hg hm ?_ hd);refine⟨(dd I).typeIs,λb' z=>?_,?_⟩
 ·cases z;exact⟨i,I.kIn _ _ h,j.2.1⟩
 rw[he];refine gw rfl (ir (je (L2.thn (hb.thn I W m J S) λiv s2 e=>jt ?_)))
 obtain⟨y,N,l,H2,d,M,f,q2,k2⟩:=e
 cases N with
 |str c=>
  unfold Rep at q2;subst q2;obtain⟨t2,rfl⟩:=(show ∃t,iv=qi c t from M)
  have k3:RK X.K ad l H2 (.ok ((kvs.lookup c).getD .non)) Q E:=k2;obtain⟨v,O,P⟩:=wF c q;exact call_meetsIn ig (dd d).typeIs h8 (gf _ _) (meets_dict_get (n8 X.prog X.w) A (by simp[n8,Value.isStrOf]) a) ⟨_,(dd d).mapOf,v,H2,d.tok _,O,k3.ok_now f.gh (P l)⟩
 |_=>exact az k2
end
noncomputable def rM:Py->Str
 |.len=>"len"|.range=>"range"|.enum=>"enumerate"|.zip=>"zip"|.isin=>"isinstance"|.int=>"int"|.bool=>"bool"|.str=>"str"|.tuple=>"tuple"|.list=>"list"
 |.sum=>"sum"|.all=>"all"|.any=>"any"|.sorted=>"sorted"|.min=>"min"|.max=>"max"|.abs=>"abs"|.set=>"set"
def Nt(X:Cx)(ad:Ad)(x:Str):SK.Gl->Prop
 |.fn k n F=>∃r f,FnGood X ad r x n F f/\Room r X.A/\f=ad.fnA k
 |.exc c=>X.mg x=qv (.ref (ad.cls c))/\c<ad.nb
 |.verr=>x="ValueError"/\X.mg x=qw
 |.val d=>∃u v,X.mg x=qv u/\bG v u/\∀G,Rep X.K ad G d v
 |.py p=>x=rM p/\X.mg x=qw
 |.tbl kvs=>∃A,X.mg x=qv (.ref A)/\AU X.prog X.w X.K ad A kvs
 |.cls A ms=>X.mg x=qv (.ref A)/\RkC X.K A/\∀m n M,ms.lookup m=qv (n,M)->MetOk X ad A m n M
 |.rfn A M=>Dk X x (spM X.K ad A 0 M)
 |.rmk A n M=>Dk X x (spR X.K ad A n M)
structure CtxOk(X:Cx)(ad:Ad)(C:SK.Ctx):Prop where
 N:X.N=C.N
 nd:X.N.Nodup
 vis: ∀x i,loc C x=qv i->X.N[i]? =qv x/\Vis X.env.scope x/\(x==("__debug__":Str))=q4/\(x==("__classdict__":Str))=q4
 gk: ∀x,C.sc.names.lookup x=qv .globalImplicit->L2.Gl X x
 gt: ∀x g,C.tab.lookup x=qv g->(x==("__debug__":Str))=q4/\Nt X ad x g
 cap: ∀x i,fV C x=qv i->X.env.kindOf x=qv .cell\/X.env.kindOf x=qv .free
 calm:X.calm=qz
 un:X.A.units+62<cLine
 hd:X.A.handled=qw
 exc: ∀c,ExcCls X.K (ad.cls c)
 kin: ∀c e,c<ad.nb->kitOne X.K (.ref (ad.cls e)) (.ref (ad.cls c))=qv (hit c e)
 kve: ∀e,kitOne X.K (.ref (ad.cls e)) (.type "ValueError")=qv qz
 fnv: ∀j n F,C.fns[j]? =qv (n,F)->∃r,FnAt X ad r n F (ad.fnA j)/\Room r X.A
section
variable{ad:Ad}
def GS(h:glo C x=qv g):C.sc.names.lookup x=qv .globalImplicit/\C.tab.lookup x=qv g:=by
 unfold glo at h;split at h
 ·rename_i e;exact⟨e,h⟩
 ·cases h
def CtxOk.gl(O:CtxOk X ad C)(h:glo C x=qv g):L2.Gl X x/\(x==("__debug__":Str))=q4/\Nt X ad x g:=
 let ⟨a,b⟩:=GS h
 ⟨O.gk x a,(O.gt x g b).1,(O.gt x g b).2⟩
def KN(O:CtxOk X ad C)(h:glo C t=qv g)(e:isP g=qv P): ∃cv,ClNm X t cv/\OH X ad cv P:=by
 obtain⟨i,j,hk⟩:=O.gl h
 cases g with
 |fn _ _ _=>cases e
 |cls _ _=>cases e
 |rfn _ _=>cases e
 |rmk _ _ _=>cases e
 |val _=>cases e
 |tbl _=>cases e
 |exc c=>
  cases e;obtain⟨f,m⟩:=hk;refine⟨.ref (ad.cls c),.own _ rfl i f j,λd b a=>?_⟩
  cases d<;>try (cases a;done)
  rename_i k;cases a;exact⟨_,rfl,O.kin c k m⟩
 |verr=>
  cases e;obtain⟨l,f⟩:=hk;subst l;refine⟨.type "ValueError",.blt "ValueError" rfl i f (by decide+kernel) (by decide) j,λd b a=>?_⟩
  cases d<;>try (cases a;done)
  rename_i k;cases a;refine⟨_,rfl,?_⟩;rw[O.kve k]
  congr 1
  unfold hit;simp
 |py p=>
  obtain⟨l,f⟩:=hk
  cases p<;>try (cases e;done)
  all_goals
   cases e;subst l
  ·refine⟨.type "int",.blt "int" rfl i f (by decide+kernel) (by decide) j,λd b a=>?_⟩
   cases d<;>first|(cases a;done)|(cases a;exact⟨_,rfl,by rfl⟩)
  ·refine⟨.type "bool",.blt "bool" rfl i f (by decide+kernel) (by decide) j,λd b a=>?_⟩
   cases d<;>first|(cases a;done)|(cases a;exact⟨_,rfl,by rfl⟩)
  ·refine⟨.type "str",.blt "str" rfl i f (by decide+kernel) (by decide) j,λd b a=>?_⟩
   cases d<;>first|(cases a;done)|(cases a;exact⟨_,rfl,by rfl⟩)
  ·refine⟨.type "tuple",.blt "tuple" rfl i f (by decide+kernel) (by decide) j,λd b a=>?_⟩
   cases d<;>first|(cases a;done)|(cases a;exact⟨_,rfl,by rfl⟩)
  ·refine⟨.type "list",.blt "list" rfl i f (by decide+kernel) (by decide) j,λd b a=>?_⟩
   cases d<;>first|(cases a;done)|(cases a;exact⟨_,rfl,by rfl⟩)
def gR{l:List (Str×NameKind)}(h:(l.lookup x==qv k)=qz):l.lookup x=qv k:=by simpa using h
def jR(h:lN sc xs=qz):sc.kind= .function/\(qX sc=[]\/(qX sc=xs/\xs.length=1))/\(∀x∈xs,sc.names.lookup x=qv (if(qX sc).isEmpty then .local else .cell))/\(∀y∈sc.names,y.2= .local->sc.names.lookup y.1=qv .local)/\
  (xs++bK sc).Nodup/\(∀x∈xs++bK sc,(x==("__debug__":Str))=q4/\(x==("__classdict__":Str))=q4)/\∀x∈bK sc,sc.names.lookup x=qv .free:=by
 unfold lN at h;simp only[av]at h;obtain⟨⟨⟨⟨⟨⟨j,e⟩,g⟩,c⟩,i⟩,d⟩,f⟩:=h;refine⟨by simpa using j,by simpa using e,λx a=>?_,λy b z=>?_,of_decide_eq_true i,λx a=>?_,λx a=>?_⟩
 ·exact gR (zAd g x a)
 ·have:=zAd c y b
  rw[z]at this;simpa using this
 ·have:=zAd d x a
  simpa using this
 ·exact gR (zAd f x a)
def uI(h:idx x N=qv i):x∈N:=List.mem_of_getElem? (jO h)
def uJ(h:loc C x=qv i):idx x C.N=qv i/\(C.sc.names.lookup x=qv .local\/C.sc.names.lookup x=qv .cell\/C.sc.names.lookup x=qv .free):=by
 unfold loc at h;split at h
 ·rename_i e;exact⟨h,.inl e⟩
 ·rename_i e;exact⟨h,.inr (.inl e)⟩
 ·rename_i e;exact⟨h,.inr (.inr e)⟩
 ·cases h
def jS(h:fV C x=qv i):idx x C.N=qv i/\(C.sc.names.lookup x=qv .cell\/C.sc.names.lookup x=qv .free):=by
 unfold fV at h;split at h
 ·rename_i e;exact⟨h,.inl e⟩
 ·rename_i e;exact⟨h,.inr e⟩
 ·cases h
theorem wG{α β:Type}{f:α->Option β}: ∀{l:List α} {r:List β},fW f l=qv r->∀a∈l, ∃b,f a=qv b
 |[],_,_,a,ha=>by cases ha
 |x::l,r,h,a,ha=>by
  unfold fW at h
  cases e:f x with
  |none=>rw[e]at h;cases h
  |some y=>
   rw[e]at h;obtain⟨d,c,_⟩:=zMd h;rcases au.mp ha with rfl|ha
   ·exact⟨y,e⟩
   ·exact wG c a ha
def gS{l:List (Str×NameKind)}(h:l.lookup x=qv k):(x,k)∈l:=i0 h
def wI(h:(x,n5)∈sc.names):x∈bK sc:=by
 unfold bK;exact aq.mpr ⟨(x,.free),l8.mpr ⟨h,by simp⟩,rfl⟩
def AV(O:CtxOk X ad C)(h:lN sc xs=qz)(hc:fW (λx=>fV C x) (bK sc)=qv cs):CompSc X C sc xs cs:=by
 obtain⟨j,d,g,b,n,m,f⟩:=jR h
 have c:Cel sc:=by
  rcases d with z|⟨z,l⟩
  ·exact .inl z
  ·obtain⟨x,rfl⟩:=gz.mp l
   have:=g x (.head _)
   rw[z]at this;exact .inr ⟨x,z,this⟩
 refine⟨j,c,b,λx a=>?_,λx a=>f x (wI a),O.N,hc⟩
 obtain⟨i,e⟩:=wG hc x (wI a);exact O.cap x i e
def GT(hN:X.N.Nodup)(e:cG tg=qv (xs,k))(hx:xs=[x])(h1:X.N[0]? =qv x)(h2:X.env.scope.names.lookup x=qv .cell)(h3:X.fn x=qz):PG X tg (gTg X.K k):=by
 subst hx
 cases tg<;>try (cases e)
 ·exact lD hN h1 (.inr h2) (.inl h3)
 ·rename_i es j f;unfold cG at e;obtain⟨c,d,a⟩:=zBd e
  by_cases b:2<=c.length
  ·rw[if_pos b]at a;cases a;exact absurd b (by simp)
  ·rw[if_neg b]at a;cases a
def KO(O:CtxOk X ad C)(h:lN sc xs=qz)(hc:fW (λx=>fV C x) (bK sc)=qv cs):
  CtxOk (cX X (xs++bK sc) sc s3 H3 fp cf) ad {C with sc:=sc,N:=xs++bK sc}:=by
 obtain⟨I,J,K,G,y,t,E⟩:=jR h
 have l: ∀x,(relabel sc X.env).names.lookup x=(sc.names.lookup x).map (λk=>if(k==n5&&X.env.scope.kind== .function&&X.env.kindOf x==qv .cell)then n6 else k):=λx=>cE
 have s: ∀x,sc.names.lookup x=qv .free->(relabel sc X.env).names.lookup x=qv .cell\/(relabel sc X.env).names.lookup x=qv .free:=λx e=>by
  rw[l x,e];simp only[pz];split
  ·exact .inl rfl
  ·exact .inr rfl
 have u: ∀x,sc.names.lookup x=qv .cell->(relabel sc X.env).names.lookup x=qv .cell:=λx e=>by rw[l x,e];rfl
 refine⟨rfl,y,λx i e=>?_,λx e=>?_,λx g e=>?_,λx i e=>?_,O.calm,O.un,O.hd,O.exc,O.kin,O.kve,λj n F e=>let ⟨r,T,q⟩:=O.fnv j n F e;⟨r,⟨T.kp,T.ok⟩,q⟩⟩
 ·obtain⟨b,a⟩:=uJ e;have o:=uI b;refine⟨jO b,?_,(t x o).1,(t x o).2⟩;rcases a with a|a|a
  ·refine .inl ?_
   show(relabel sc X.env).names.lookup x=qv .local
   rw[l x]
   have:sc.names.lookup x=qv .local:=a
   rw[this];rfl
  ·exact .inr (.inl (u x a))
  ·rcases s x a with z|z
   ·exact .inr (.inl z)
   ·exact .inr (.inr z)
 ·show(relabel sc X.env).names.lookup x=qv .globalImplicit
  rw[l x]
  have:sc.names.lookup x=qv .globalImplicit:=e
  rw[this];rfl
 ·obtain⟨b,a⟩:=O.gt x g e;refine⟨b,?_⟩
  cases g with
  |fn k n F=>
   obtain⟨r,f,T,q,B⟩:=a;exact⟨r,f,⟨T.mg,T.kp,T.ok⟩,q,B⟩
  |exc c=>exact a
  |verr=>exact a
  |val d=>exact a
  |tbl v=>exact a
  |py p=>exact a
  |cls A H=>exact⟨a.1,a.2.1,λm n M o=>let z:=a.2.2 m n M o;⟨z.no,z.ok⟩⟩
  |rfn A M=>exact a
  |rmk A n M=>exact a
 ·obtain⟨b,a⟩:=jS e;rcases a with a|a
  ·exact .inl (u x a)
  ·exact s x a
end
section
variable{Ex:cg}
def yI{items:Array Value}{Q:cg}(hit:s.heap.IsTupleIter it t i)(ht:s.heap.IsTuple t items)(hx:items[i]? =qv x)(hQ: ∀h',h'.IsTupleIter it t (i+1)->oo it s.heap h'->Q x {s with heap:=h'}):wpAny (model prog w) A (ey (.ref it)) Q Ex s:=by
 obtain⟨o,b,d,a⟩:=id hit;obtain⟨u,e,_,f,c⟩:=ht;unfold ey;refine aa (wpAny_callSpecial?_slot (name:=ox "__next__") hit.typeIs ej (wpAny_call_entry ej hit.typeIs F.entry_tuple_iterator_next ?_ (F.args_tuple_iterator_next_1 _)));show wpAny _ _ (field (.ref it) 0 >>= _) _ _ s;refine aa (wpAny_field b a (x:=.ref t) rfl ?_);show wpAny _ _ (if(qj t==p3)=qz then _ else _) _ _ s;rw[if_neg (show ¬((qj t==p3)=qz) from bg)]
 show wpAny _ _ (field (.ref it) 1 >>= _) _ _ s;refine aa (wpAny_field b a (x:=.int i 0) rfl ?_);show wpAny _ _ (seqItems? (.ref t) >>= _) _ _ s;refine aa (wpAny_seqItems e c ?_);simp only[kb,hx];refine aa (wpAny_setField b a (by simp) (ae ⟨x,rfl,ae (hQ _ ?_ (ja ..))⟩))
 exact⟨_,ie _ b (Obj.isFreed_of_fields (jl a _)),(Obj.cls_mapFields ..).trans d,by rw[jl a];simp[rawInt]⟩
def AW{items:Array Value}{Q:cg}(hh:A.handled=qw)(hit:s.heap.IsTupleIter it t i)(ht:s.heap.IsTuple t items)(hx:items[i]? =qw)(hE: ∀h' e,pj it s.heap h'->(∃o,h'.get? e=qv o/\o.cls= .type "StopIteration")->Ex (.ref e) {s with heap:=h'}):wpAny (model prog w) A (ey (.ref it)) Q Ex s:=by
 obtain⟨o,d,j,c⟩:=id hit;obtain⟨u,g,_,l,f⟩:=ht;unfold ey;refine aa (wpAny_callSpecial?_slot (name:=ox "__next__") hit.typeIs ej (wpAny_call_entry ej hit.typeIs F.entry_tuple_iterator_next ?_ (F.args_tuple_iterator_next_1 _)));show wpAny _ _ (field (.ref it) 0 >>= _) _ _ s;refine aa (wpAny_field d c (x:=.ref t) rfl ?_);show wpAny _ _ (if(qj t==p3)=qz then _ else _) _ _ s;rw[if_neg (show ¬((qj t==p3)=qz) from bg)]
 show wpAny _ _ (field (.ref it) 1 >>= _) _ _ s;refine aa (wpAny_field d c (x:=.int i 0) rfl ?_);show wpAny _ _ (seqItems? (.ref t) >>= _) _ _ s;refine aa (wpAny_seqItems g f ?_);simp only[kb,hx];refine aa (wpAny_rule (aa (wpAny_setField d c (by simp) ?_)))
 show wpAny _ _ (newExc (.type "StopIteration") [] >>= _) _ _ _;refine aa ?_;simp only[newExc,newTuple];refine aa (wpAny_newObj_type ?_ (by size_fits));refine aa (m:=firstArgMember _ _) (wpAny_of_eq (a:=p3) (by first|rfl|(simp only[firstArgMember];rfl)) ?_)
 refine wpAny_newObj_type ?_ (by size_fits);simp only[raiseNew]
 refine aa (wpAny_handled ?_)
 first|rw[show A.in1.handled=qw from hh]|rw[hh]
 refine aa (ae (wpAny_throw ?_));refine hE _ _ (λb n h e=>?_) ⟨_,ag _ rfl,rfl⟩
 exact af _ (af _ ((gu _ _ (qu h)).trans e))
end
def AX{n l m:Nat}(a:l<n)(b:m<n):ZipApart (n+4) (n+2) (n+3) n (n+1) l m:=by
 constructor<;>(intro h;have c:(_:Nat)=_:=h;revert c;lia)
def fD{σ:L2.St}{fp:List Addr}(I:Inv X cf σ H s)(k: ∀b o,b∉fp->s.heap.get? b=qv o->h'.get? b=qv o)(hf: ∀b∈fp,t3 X cf H b):Inv X cf σ H {s with heap:=h',toks:=t'}:=by
 have d: ∀b u,H b=qv u->b∉fp:=λb u e z=>by rw[(hf b z).1]at e;cases e
 refine I.step (g':=s.gens) (d':=s.drawn) (ch:=fp) (λb l=>?_) (λb o _ _ a e _=>k b o a e) (λb o _ _ a e _=>⟨o.slots,k b o a e⟩) (λ_ _ _ _ n=>n)
  (λb o a e=>⟨o,k b o a e⟩) (λ_ _ e=>e) (λ_ _ _ e=>e) (λb x e=>⟨#[],by rw[e];simp⟩) (λm j=>?_) (λb u e=>?_) I.bare
 ·obtain⟨_,f,_,t,h,i⟩:=hf b l;exact⟨t,f,h,i⟩
 ·obtain⟨o,es,g,p,r⟩:=j;exact⟨o,es,g,k _ o (λz=>(hf _ z).2.1 rfl) p,r⟩
 ·refine(I.hok b u e).stay (λc v a q=>k c v ?_ q) (λ_ q=>q) λ_ _ q=>q
  rcases a with z|z
  ·rw[z];exact d b u e
  ·exact d c _ z
section
variable{Ex:cg}
def yJ{It:Heap->Nat->Prop}{i:Nat}(he:IsEnum s.heap e it i old)(hne:e≠it)(hn: ∀(A':Around) (E':cg) (Q':cg),(∀h',It h' (i+1)->oo it s.heap h'->Q' x {s with heap:=h'})->wpAny (model prog w) A' (ey (.ref it)) Q' E' s)(hk: ∀h h',It h (i+1)->(∀o,h.get? it=qv o->h'.get? it=qv o)->It h' (i+1))(hQ: ∀h',IsEnumOut h' e it ((i:Int)+1) x s.heap.objs.size->It h' (i+1)->h'.get? s.heap.objs.size=qv {cls:=.type "tuple",data:=.seq #[.int i s.toks,x]}->h'.objs.size=s.heap.objs.size+1->
   (∀b o,b≠e->b≠it->s.heap.get? b=qv o->h'.get? b=qv o)->Q (qv (.ref s.heap.objs.size)) {s with heap:=h',toks:=s.toks+1}):wpAny (model prog w) A (pyNext (.ref e)) Q Ex s:=by
 have P:s.TypeIs (.ref e) "enumerate":=⟨_,he,rfl⟩;unfold pyNext;refine aa (wpAny_attempt (wpAny_callSpecial?_slot (name:=ox "__next__") P ii (wpAny_call_entry ii P F.entry_enumerate_next ?_ (F.args_enumerate_next_1 _))));obtain⟨c,g,d,a,j⟩:=s;show wpAny _ _ (field (.ref e) 2 >>= _) _ _ _;refine aa (wpAny_field he rfl (x:=.ref it) rfl (aa (hn _ _ _ λl t1 v=>?_)))
 replace v:oo it c l:=v;have H:IsEnum l e it i old:=(v.2 e hne).trans he;show wpAny _ _ (field (.ref e) 3 >>= _) _ _ ⟨l,g,d,a,j⟩;refine aa (wpAny_field H rfl (x:=rawInt i) rfl ?_);show wpAny _ _ (field (.ref e) 4 >>= _) _ _ ⟨l,g,d,a,j⟩;refine aa (wpAny_field H rfl (x:=.none) rfl ?_);show wpAny _ _ (mkInt i >>= _) _ _ ⟨l,g,d,a,j⟩;refine aa (wpAny_mkInt ?_);show wpAny _ _ (setField (.ref e) 3 (rawInt ((i:Int)+1)) >>= _) _ _ ⟨l,g,d,a+1,j⟩;refine aa (wpAny_setField_rec H (by simp) λG L t=>?_)
 replace t:oo e l G:=t;replace L:IsEnum G e it ((i:Int)+1) old:=L;show wpAny _ _ (setField (.ref e) 4 .none >>= _) _ _ ⟨G,g,d,a+1,j⟩;refine aa (wpAny_setField_rec L (by simp) λp O r=>?_)
 replace r:oo e G p:=r;replace O:IsEnum p e it ((i:Int)+1) old:=O;show wpAny _ _ (newTuple [.int i a,x] >>= _) _ _ ⟨p,g,d,a+1,j⟩;refine aa (wpAny_newTuple ?_);have B:IsEnum (p.push {cls:=.type "tuple",data:=.seq #[.int i a,x]}) e it ((i:Int)+1) old:=af _ O;generalize f:p.push {cls:=.type "tuple",data:=.seq #[.int i a,x]}=g4 at B
 have m:p.objs.size=c.objs.size:=by rw[r.1,t.1,v.1]
 have U:e<c.objs.size:=ah he
 have T:g4.get? c.objs.size=qv {cls:=.type "tuple",data:=.seq #[.int i a,x]}:=by rw[<-f, <-m];exact ag _ rfl
 have W:g4.objs.size=c.objs.size+1:=by rw[<-f,ai,m]
 have k4: ∀b o,b≠e->b≠it->c.get? b=qv o->g4.get? b=qv o:=λb o u I q=>by
  rw[<-f];exact af _ ((r.2 b u).trans ((t.2 b u).trans ((v.2 b I).trans q)))
 have S:It g4 (i+1):=hk l g4 t1 λo q=>by rw[<-f];exact af _ ((r.2 it hne.symm).trans ((t.2 it hne.symm).trans q))
 show wpAny _ _ (dv (.ref e) >>= _) _ _ ⟨g4,g,d,a+1,j⟩;rw[m];refine aa ?_;unfold dv;refine aa (wpAny_field B rfl (x:=.none) rfl (ae ?_));simp only[if_true];refine aa (wpAny_rule (aa (wpAny_field B rfl (x:=old) rfl (aa (wpAny_setField_rec B (by simp) λE J C=>?_)))))
 replace C:oo e g4 E:=C;replace J:IsEnum E e it ((i:Int)+1) x:=J;show wpAny _ _ (du (.ref e) (.ref c.objs.size) >>= _) _ _ ⟨E,g,d,a+1,j⟩;refine aa ?_;unfold du;refine aa (wpAny_setField_rec J (by simp) λN K z=>?_)
 replace z:oo e E N:=z;replace K:IsEnumOut N e it ((i:Int)+1) x c.objs.size:=K;refine wpAny_setField_rec K (by simp) λy M s7=>?_
 replace s7:oo e N y:=s7;replace M:IsEnumOut y e it ((i:Int)+1) x c.objs.size:=M
 have up: ∀b o,b≠e->g4.get? b=qv o->y.get? b=qv o:=λb o n q=>(s7.2 b n).trans ((z.2 b n).trans ((C.2 b n).trans q))
 refine aa (wpAny_letGo (ae ⟨_,rfl,ae (hQ y M (hk g4 y S λo q=>up it o hne.symm q) (up _ _ (oq U) T) ?_ λb o u I q=>up b o u (k4 b o u I q))⟩))
 rw[s7.1,z.1,C.1,W]
def AY{i:Nat}(he:IsEnum s.heap e it i old)(hn: ∀(A':Around) (E':cg) (Q':cg),A'.handled=A.handled->(∀h' x,pj it s.heap h'->(∃o,h'.get? x=qv o/\o.cls= .type "StopIteration")->E' (.ref x) {s with heap:=h'})->wpAny (model prog w) A' (ey (.ref it)) Q' E' s)(hQ: ∀h',pj it s.heap h'->Q qw {s with heap:=h'}):wpAny (model prog w) A (pyNext (.ref e)) Q Ex s:=by
 have a:s.TypeIs (.ref e) "enumerate":=⟨_,he,rfl⟩;unfold pyNext;refine aa (wpAny_attempt (wpAny_callSpecial?_slot (name:=ox "__next__") a ii (wpAny_call_entry ii a F.entry_enumerate_next ?_ (F.args_enumerate_next_1 _))));show wpAny _ _ (field (.ref e) 2 >>= _) _ _ _;refine aa (wpAny_field he rfl (x:=.ref it) rfl (aa (hn _ _ _ rfl λh' x k q=>?_)))
 obtain⟨o,d,c⟩:=q;exact aa (wpAny_isInstance (T:="StopIteration") (b:=qz) ⟨o,d,c⟩ isSubtype_stop (ae (hQ _ k)))
end
noncomputable abbrev eh(h:Heap)(T:String)(l:Addr):Heap:=(h.push {cls:=.type T,data:=.fields #[.ref l,.int 0 0]}).push {cls:=.type "enumerate",data:=.fields #[.none,.bool q4,.ref h.objs.size,rawInt 0,.none,.none]}
open AutoSeq1 (wpAny_loadPart') in
def AZ(l:Addr)(xs:Array Value)(n:Nat)(dd:Option Addr)(sl:Array (Option Value)):Meets (Builtin.«enumerate.__new__» ⟨[.type "enumerate",.ref l],[]⟩) (λ_ R s=>s.heap.get? l=qv {cls:=.type "tuple",dict:=dd,data:=.seq xs n,slots:=sl}/\
  R (.ok (.ret (.ref (s.heap.objs.size+1)))) {s with heap:=eh s.heap "tuple_iterator" l}):=
 .of_wp λf w A R s h=>by
  obtain⟨b,g,d,j,i⟩:=s;obtain⟨a,h⟩:=h;have e:=sub_enumerate;have q1:pb (pk ⟨b,g,d,j,i⟩) l xs:=⟨_,a,rfl,n,rfl⟩;rw[<-show(b.push {cls:=.type "tuple_iterator",data:=.fields #[.ref l,.int 0 0]}).objs.size=b.objs.size+1 from ai ..]at h
  wp_walk using wpAny_loadPart' a
  refine wpAny_stack_any λst=>ae ?_
  split
  ·rename_i c _ _ _ _ _
   cases (c==qa "enumerate")
   ·wp_walk using wpAny_loadPart' a,wpAny_pyIter_tuple q1
    exact⟨_,rfl,h⟩
   ·wp_walk using wpAny_loadPart' a,wpAny_pyIter_tuple q1
    exact⟨_,rfl,h⟩
  ·wp_walk using wpAny_loadPart' a,wpAny_pyIter_tuple q1
   exact⟨_,rfl,h⟩
open AutoSeq1 (wpAny_loadPart') in
def A0(l:Addr)(xs:Array Value)(n:Nat)(dd:Option Addr)(sl:Array (Option Value)):Meets (Builtin.«enumerate.__new__» ⟨[.type "enumerate",.ref l],[]⟩) (λ_ R s=>s.heap.get? l=qv {cls:=.type "list",dict:=dd,data:=.seq xs n,slots:=sl}/\
  R (.ok (.ret (.ref (s.heap.objs.size+1)))) {s with heap:=eh s.heap "list_iterator" l}):=
 .of_wp λf w A R s h=>by
  obtain⟨b,g,d,j,i⟩:=s;obtain⟨a,h⟩:=h;have e:=sub_enumerate;have q1:pp (pk ⟨b,g,d,j,i⟩) l xs:=⟨_,a,rfl,n,rfl⟩;rw[<-show(b.push {cls:=.type "list_iterator",data:=.fields #[.ref l,.int 0 0]}).objs.size=b.objs.size+1 from ai ..]at h
  wp_walk using wpAny_loadPart' a
  refine wpAny_stack_any λst=>ae ?_
  split
  ·rename_i c _ _ _ _ _
   cases (c==qa "enumerate")
   ·wp_walk using wpAny_loadPart' a,wpAny_pyIter_list q1
    exact⟨_,rfl,h⟩
   ·wp_walk using wpAny_loadPart' a,wpAny_pyIter_list q1
    exact⟨_,rfl,h⟩
  ·wp_walk using wpAny_loadPart' a,wpAny_pyIter_list q1
   exact⟨_,rfl,h⟩
section
variable{Ex:cg}{s:Shared}
def yK{Q:cg}(hl:s.heap.IsTuple l xs)(h: ∀h',IsEnum h' (s.heap.objs.size+1) s.heap.objs.size 0 .none->h'.IsTupleIter s.heap.objs.size l 0->h'.objs.size=s.heap.objs.size+2->(∀b o,s.heap.get? b=qv o->h'.get? b=qv o)->Q (.ref (s.heap.objs.size+1)) {s with heap:=h'}):
  wpAny (model prog w) A (call (.type "enumerate") [.ref l]) Q Ex s:=by
 obtain⟨⟨c,dd,m,j⟩,i,d,n,g⟩:=hl
 simp only at d g;subst d g
 refine callType_new F.called_enumerate (by decide) (F.typeCall_enumerate_1 _) (F.newCall_enumerate_1 _) (λa=>F.args_object_init_2 a _) F.entry_enumerate_new (AZ l xs n dd j) ⟨i,?_⟩
 have f:(s.heap.push {cls:=.type "tuple_iterator",data:=.fields #[.ref l,.int 0 0]}).objs.size=s.heap.objs.size+1:=ai ..;have e:IsEnum (eh s.heap "tuple_iterator" l) (s.heap.objs.size+1) s.heap.objs.size 0 .none:=by rw[<-f];exact ag _ rfl
 exact⟨⟨_,e,rfl⟩,h _ e ⟨_,af _ (ag _ rfl),rfl,rfl⟩ (by rw[ai,f]) λb o x=>af _ (af _ x)⟩
def yL{Q:cg}(hl:s.heap.IsList l xs)(h: ∀h',IsEnum h' (s.heap.objs.size+1) s.heap.objs.size 0 .none->h'.IsListIter s.heap.objs.size l 0->h'.objs.size=s.heap.objs.size+2->(∀b o,s.heap.get? b=qv o->h'.get? b=qv o)->Q (.ref (s.heap.objs.size+1)) {s with heap:=h'}):
  wpAny (model prog w) A (call (.type "enumerate") [.ref l]) Q Ex s:=by
 obtain⟨⟨c,dd,m,j⟩,i,d,n,g⟩:=hl
 simp only at d g;subst d g
 refine callType_new F.called_enumerate (by decide) (F.typeCall_enumerate_1 _) (F.newCall_enumerate_1 _) (λa=>F.args_object_init_2 a _) F.entry_enumerate_new (A0 l xs n dd j) ⟨i,?_⟩
 have f:(s.heap.push {cls:=.type "list_iterator",data:=.fields #[.ref l,.int 0 0]}).objs.size=s.heap.objs.size+1:=ai ..;have e:IsEnum (eh s.heap "list_iterator" l) (s.heap.objs.size+1) s.heap.objs.size 0 .none:=by rw[<-f];exact ag _ rfl
 exact⟨⟨_,e,rfl⟩,h _ e ⟨_,af _ (ag _ rfl),rfl,rfl⟩ (by rw[ai,f]) λb o x=>af _ (af _ x)⟩
end
def SqA(t:Bool)(K:og)(H:Hp)(a:Addr)(xs:List V):Prop:=match t with
 |true=>SqT K H a xs
 |false=>SqL K H a xs
def ItA(t:Bool)(h:Heap)(it l:Addr)(i:Nat):Prop:=match t with
 |true=>h.IsTupleIter it l i
 |false=>h.IsListIter it l i
def SeA(t:Bool)(h:Heap)(l:Addr)(xs:Array Value):Prop:=match t with
 |true=>h.IsTuple l xs
 |false=>h.IsList l xs
section
variable{σ:L2.St}
def fN(I:Inv X cf σ H s)(h:SqA t X.K H a xs): ∃its:List Value,bQ xs its/\SeA t s.heap a its.toArray/\xs.length<=sizeLine:=by
 cases t with
 |true=>
  obtain⟨its,r,p,z⟩:=I.tuple h;exact⟨its,r,p,z⟩
 |false=>
  obtain⟨its,r,p,z⟩:=I.list h;exact⟨its,r,p.isList,z⟩
def iQ(I:Inv X cf σ H s)(h:SqA t X.K H a xs)(h':SqA t X.K H a ys):xs=ys:=by
 cases t with
 |true=>exact I.tuple_inj h h'
 |false=>exact I.list_inj h h'
def aL{K:og}(e:Same H H')(h:SqA t K H a xs):SqA t K H' a xs:=by
 cases t with
 |true=>exact e.seqT h
 |false=>exact e.seq h
def dA(q:ItA t h it l i)(k: ∀o,h.get? it=qv o->h'.get? it=qv o):ItA t h' it l i:=by
 cases t with
 |true=>obtain⟨o,e,r⟩:=q;exact⟨o,k o e,r⟩
 |false=>obtain⟨o,e,r⟩:=q;exact⟨o,k o e,r⟩
def A1(q:ItA t h it l i): ∃o,h.get? it=qv o/\∀v,o.data≠ .cell v:=by
 cases t with
 |true=>obtain⟨o,e,_,d⟩:=q;exact⟨o,e,λv z=>by rw[d]at z;cases z⟩
 |false=>obtain⟨o,e,_,d⟩:=q;exact⟨o,e,λv z=>by rw[d]at z;cases z⟩
def gT{Ex:cg}{Q:cg}(q:ItA t s.heap it l i)(hl:SeA t s.heap l xs)(hx:xs[i]? =qv x)(hQ: ∀h',ItA t h' it l (i+1)->oo it s.heap h'->Q x {s with heap:=h'}):wpAny (model prog w) A (ey (.ref it)) Q Ex s:=by
 cases t with
 |true=>exact yI q hl hx hQ
 |false=>exact wpAny_nextOf_list_item q hl hx hQ
def lU{Ex:cg}{Q:cg}(hh:A.handled=qw)(q:ItA t s.heap it l i)(hl:SeA t s.heap l xs)(hx:xs[i]? =qw)(hE: ∀h' e,pj it s.heap h'->(∃o,h'.get? e=qv o/\o.cls= .type "StopIteration")->Ex (.ref e) {s with heap:=h'}):wpAny (model prog w) A (ey (.ref it)) Q Ex s:=by
 cases t with
 |true=>exact AW hh q hl hx hE
 |false=>exact wpAny_nextOf_list_end hh q hl hx hE
end
noncomputable def Ite(t:Bool)(K:og)(l:Addr):It:=
 ⟨λi H=>∃xs x,SqA t K H l xs/\xs[i]? =qv x,
  λi H v H'=>∃p x,H p=qw/\v= .ref p/\(∀xs,SqA t K H l xs->xs[i]? =qv x)/\H'=upd H p (.tup [.int i,x]),
  λi H=>∃xs,SqA t K H l xs/\xs.length<=i⟩
def A2{K:og}(hne:e≠it):
  Turn P w K (.Tuple es x1 tp) (Ite t K l) [e,it] e (λi h=>(∃old,IsEnum h e it i old)/\ItA t h it l i) where
 mem:=by simp
 obj:=λi h st b c=>by
  obtain⟨⟨old,d⟩,f⟩:=st;simp only[au,k7,or_false]at c;rcases c with rfl|rfl
  ·exact⟨_,d,λv e=>by cases e⟩
  ·exact A1 f
 keep:=λi h p st k=>by
  obtain⟨⟨old,d⟩,f⟩:=st;exact⟨⟨old,k _ (by simp) _ d⟩,dA f λo q=>k _ (by simp) o q⟩
 item:=by
  intro X Q M N S i n s y H E I A st G;subst Q M N;obtain⟨xs,x,q1,J⟩:=G;obtain⟨us,L,O,_⟩:=fN I q1;obtain⟨u,hu,ru⟩:=L.get J;obtain⟨⟨old,d⟩,f⟩:=st;have te:e<s.heap.objs.size:=ah d;have ti:it<s.heap.objs.size:=by obtain⟨o,q,_⟩:=A1 f;exact ah q
  refine yJ (It:=λh j=>ItA t h it l j) (x:=u) d hne (λA' E' Q' m=>gT f O (by simpa using hu) m) (λh p a k=>dA a k) λp U a2 Y a4 a5=>⟨_,rfl,?_⟩
  have C:H s.heap.objs.size=qw:=I.hok.fresh (aj _)
  have Ia:Inv X n y (upd H s.heap.objs.size (.tup [.int i,x])) {s with heap:=s.heap.push {cls:=.type "tuple",data:=.seq #[.int i s.toks,u]},toks:=s.toks+1}:=
   I.laid (t':=s.toks+1) (λb o e=>af _ e) (aj _) (show ObjOk X.prog X.w _ _ _ (.tup [.int i,x]) from⟨by rw[sizeLine_eq];simp,[.int i s.toks,u],.cons ⟨_,rfl⟩ (.cons ru .nil),⟨_,ag _ rfl,rfl,_,rfl⟩,⟨_,ag _ rfl,rfl⟩⟩)
  have r: ∀b∈[e,it],b≠s.heap.objs.size:=λb c=>by
   simp only[au,k7,or_false]at c;rcases c with rfl|rfl
   ·exact bj te
   ·exact bj ti
  have g: ∀b∈[e,it],t3 X n (upd H s.heap.objs.size (.tup [.int i,x])) b:=λb c=>⟨by rw[aD (r b c)];exact(A b c).1,(A b c).2⟩
  have Ib:Inv X n y (upd H s.heap.objs.size (.tup [.int i,x])) {s with heap:=p,toks:=s.toks+1}:=by
   refine fD (s:={s with heap:=s.heap.push {cls:=.type "tuple",data:=.seq #[.int i s.toks,u]},toks:=s.toks+1}) (t':=s.toks+1) Ia (λb o c q=>?_) g
   simp only[au,k7,or_false,not_or]at c
   by_cases m:b=s.heap.objs.size
   ·subst m;rw[show(s.heap.push {cls:=.type "tuple",data:=.seq #[.int i s.toks,u]}).get? s.heap.objs.size=qv _ from ag _ rfl]at q
    cases q;exact Y
   ·exact a5 b o c.1 c.2 ((kc _ b _ m).symm.trans q)
  refine wpAny_letOwnedTupleGo_enum U λh2 Z T=>?_
  have Ic:Inv X n y (upd H s.heap.objs.size (.tup [.int i,x])) {s with heap:=h2,toks:=s.toks+1}:=fD (s:={s with heap:=p,toks:=s.toks+1}) (t':=s.toks+1) Ib (λb o c q=>(T.2 b (λz=>c (by simp[z]))).trans q) g
  refine⟨.ref s.heap.objs.size,_,Ic,rfl,⟨_,x,C,rfl,λab B=>by rw[iQ I B q1];exact J,rfl⟩,⟨⟨u,?_⟩,dA a2 λo q=>(T.2 it hne.symm).trans q⟩,λb c=>(g b c).1⟩
  rw[Int.natCast_add];exact Z
 done:=by
  intro X Q M N S i n s y H E I A st G;subst Q M N;obtain⟨xs,q1,J⟩:=G;obtain⟨us,L,O,_⟩:=fN I q1;obtain⟨⟨old,d⟩,f⟩:=st;have n1:=L.length;refine AY d (λA' E' Q' ha m=>lU (ha.trans (I.ok.hd S)) f O (by simp;lia) m) λp k=>⟨rfl,fD (t':=s.toks) I (λb o c q=>?_) A⟩
  simp only[au,k7,or_false,not_or]at c;exact k b o c.2 q
 self:=λ_ _ _ _ _ st h=>by
  obtain⟨⟨old,d⟩,_⟩:=st;exact wpAny_pyIter_enum d h
def yM{Ex:cg}{s:Shared}{Q:cg}(hl:SeA t s.heap l xs)(h: ∀h',IsEnum h' (s.heap.objs.size+1) s.heap.objs.size 0 .none->ItA t h' s.heap.objs.size l 0->h'.objs.size=s.heap.objs.size+2->(∀b o,s.heap.get? b=qv o->h'.get? b=qv o)->Q (.ref (s.heap.objs.size+1)) {s with heap:=h'}):
  wpAny (model prog w) A (call (.type "enumerate") [.ref l]) Q Ex s:=by
 cases t with
 |true=>exact yK hl h
 |false=>exact yL hl h
def A3(q:SeA t h l it)(k: ∀o,h.get? l=qv o->h'.get? l=qv o):SeA t h' l it:=by
 cases t with
 |true=>obtain⟨o,a,b⟩:=q;exact⟨o,k o a,b⟩
 |false=>obtain⟨o,a,b⟩:=q;exact⟨o,k o a,b⟩
def o7(x:ItA t h it l k): ∃o,h.get? it=qv o/\o.data= .fields #[.ref l,.int k 0]:=by
 cases t with
 |true=>obtain⟨o,a,_,c⟩:=x;exact⟨o,a,c⟩
 |false=>obtain⟨o,a,_,c⟩:=x;exact⟨o,a,c⟩
section
variable{Ex:cg}
def A4{z TI TO i1 i2 l1 l2:Addr}(D:ZipApart z TI TO i1 i2 l1 l2)(hz:IsZip s.heap z TI TO .none)(hTI:IsPair s.heap TI (.ref i1) (.ref i2))(hTO:IsPair s.heap TO a b)(h1:ItA t s.heap i1 l1 k1)(h2:ItA t2 s.heap i2 l2 k2)(hl1:SeA t s.heap l1 xs)(hl2:SeA t2 s.heap l2 ys)(hx:xs[k1]? =qv x)(hy:ys[k2]? =qv y)(hQ: ∀h',IsZip h' z TI TO (rawInt s.heap.objs.size)->IsPair h' TO x y->ItA t h' i1 l1 (k1+1)->ItA t2 h' i2 l2 (k2+1)->IsPair h' s.heap.objs.size x y->h'.objs.size=s.heap.objs.size+1->
   (∀c o,c≠z->c≠TO->c≠i1->c≠i2->s.heap.get? c=qv o->h'.get? c=qv o)->Q (qv (.ref s.heap.objs.size)) {s with heap:=h'}):wpAny (model prog w) A (pyNext (.ref z)) Q Ex s:=by
 have S:s.TypeIs (.ref z) "zip":=⟨_,hz,rfl⟩;have d: ∀{t:Bool} {h h':Heap} {it l:Addr} {k:Nat} {c:Addr},ItA t h it l k->oo c h h'->it≠c->ItA t h' it l k:=λq H L=>dA q λo e=>(H.2 _ L).trans e
 have g: ∀{t:Bool} {h h':Heap} {l:Addr} {it:Array Value} {c:Addr},SeA t h l it->oo c h h'->l≠c->SeA t h' l it:=λq H L=>A3 q λo e=>(H.2 _ L).trans e
 unfold pyNext;refine aa (wpAny_attempt (wpAny_callSpecial?_slot (name:=ox "__next__") S mz (wpAny_call_entry mz S F.entry_zip_next ?_ (F.args_zip_next_1 _))));show wpAny _ _ (field (.ref z) 2 >>= _) _ _ _;refine aa (wpAny_field hz rfl (x:=.bool q4) rfl ?_);show wpAny _ _ (field (.ref z) 3 >>= _) _ _ _;refine aa (wpAny_field hz rfl (x:=.ref TI) rfl (aa (wpAny_seqItems hTI rfl ?_)));show wpAny _ _ (dv (.ref z) >>= _) _ _ _;refine aa ?_;unfold dv;refine aa (wpAny_field hz rfl (x:=.none) rfl (ae ?_));simp only[if_true];refine aa (wpAny_rule (aa (wpAny_field hz rfl (x:=.ref TO) rfl (aa (wpAny_setField_rec hz (by simp) λg1 K i=>?_)))))
 replace K:IsZip g1 z TI TO .ellipsis:=K;refine aa ?_;simp only[List.zipIdx_cons,List.zipIdx_nil,List.forIn_cons,List.forIn_nil];refine aa (aa (wpAny_onRaise ?_));show wpAny _ _ (ey (.ref i1) >>= _) _ _ _;refine aa (gT (d h1 i D.i1z) (g hl1 i D.l1z) hx λg2 p2 n=>ae ?_)
 have T:IsPair g2 TO a b:=(n.2 _ D.TOi1).trans ((i.2 _ D.TOz).trans hTO);refine aa (wpAny_seqItems T rfl (aa (wpAny_updateSeq_pair T λg3 M m=>?_)))
 replace M:IsPair g3 TO x b:=M;refine aa (wpAny_letGo (ae (aa (aa (wpAny_onRaise ?_)))));show wpAny _ _ (ey (.ref i2) >>= _) _ _ _;refine aa (gT (d (d (d h2 i D.i2z) n D.i12.symm) m D.TOi2.symm) (g (g (g hl2 i D.l2z) n D.l2i1) m D.l2TO) hy λg4 Z p=>ae ?_)
 have W:IsPair g4 TO x b:=(p.2 _ D.TOi2).trans M;refine aa (wpAny_seqItems W rfl (aa (wpAny_updateSeq_pair W λf C r=>?_)))
 replace C:IsPair f TO x y:=C;refine aa (wpAny_letGo (ae (ae (aa (wpAny_seqItems C rfl (aa (wpAny_newTuple ?_)))))))
 have v:f.objs.size=s.heap.objs.size:=by rw[r.1,p.1,m.1,n.1,i.1]
 have U:IsZip f z TI TO .ellipsis:=(r.2 _ D.TOz.symm).trans ((p.2 _ D.i2z.symm).trans ((m.2 _ D.TOz.symm).trans ((n.2 _ D.i1z.symm).trans K)))
 have Y: ∀c o,c≠z->c≠TO->c≠i1->c≠i2->s.heap.get? c=qv o->f.get? c=qv o:=λc o j B N J e=>(r.2 _ B).trans ((p.2 _ J).trans ((m.2 _ B).trans ((n.2 _ N).trans ((i.2 _ j).trans e))))
 have q1:ItA t f i1 l1 (k1+1):=d (d (d p2 m D.TOi1.symm) p D.i12) r D.TOi1.symm;have q2:ItA t2 f i2 l2 (k2+1):=d Z r D.TOi2.symm;have X:z<f.objs.size:=ah U;show wpAny _ _ (du (.ref z) (.ref f.objs.size) >>= _) _ _ _;refine aa ?_;unfold du;have z6:IsZip (f.push {cls:=.type "tuple",data:=.seq #[x,y]}) z TI TO .ellipsis:=af _ U;refine aa (wpAny_setField_rec z6 (by simp) λg7 I s7=>?_)
 replace I:IsZip g7 z TI TO (rawInt f.objs.size):=I;refine wpAny_setField_rec I (by simp) λu E G=>?_
 replace E:IsZip u z TI TO (rawInt f.objs.size):=E
 have up: ∀c o,c≠z->f.get? c=qv o->u.get? c=qv o:=λc o j e=>(G.2 _ j).trans ((s7.2 _ j).trans (af _ e))
 have O:IsPair u f.objs.size x y:=(G.2 _ (oq X)).trans ((s7.2 _ (oq X)).trans (ag _ rfl))
 have P:u.objs.size=f.objs.size+1:=by rw[G.1,s7.1,ai]
 rw[v]at E O P;refine ae ⟨_,rfl,ae ?_⟩;show Q (qv (.ref f.objs.size)) _;rw[v];refine hQ u E (up _ _ D.TOz C) ?_ ?_ O P λc o j B N J e=>up c o j (Y c o j B N J e)
 ·exact dA q1 λo e=>up _ o D.i1z e
 ·exact dA q2 λo e=>up _ o D.i2z e
def Dm{z TI TO i1 i2 l1 l2:Addr}(hh:A.handled=qw)(D:ZipApart z TI TO i1 i2 l1 l2)(hz:IsZip s.heap z TI TO .none)(hTI:IsPair s.heap TI (.ref i1) (.ref i2))(hTO:IsPair s.heap TO a b)(h1:ItA t s.heap i1 l1 k1)(h2:ItA t2 s.heap i2 l2 k2)(hl1:SeA t s.heap l1 xs)(hl2:SeA t2 s.heap l2 ys)(he:xs[k1]? =qw\/ys[k2]? =qw)(hQ: ∀h',(∀c o,c≠z->c≠TO->c≠i1->c≠i2->s.heap.get? c=qv o->h'.get? c=qv o)->Q qw {s with heap:=h'}):wpAny (model prog w) A (pyNext (.ref z)) Q Ex s:=by
 have G:s.TypeIs (.ref z) "zip":=⟨_,hz,rfl⟩;have d: ∀{t:Bool} {h h':Heap} {it l:Addr} {k:Nat} {c:Addr},ItA t h it l k->oo c h h'->it≠c->ItA t h' it l k:=λq u v=>dA q λo e=>(u.2 _ v).trans e
 have f: ∀{t:Bool} {h h':Heap} {l:Addr} {it:Array Value} {c:Addr},SeA t h l it->oo c h h'->l≠c->SeA t h' l it:=λq u v=>A3 q λo e=>(u.2 _ v).trans e
 unfold pyNext
 have n: ∀(h':Heap) (e:Addr),(∀c o,c≠z->c≠TO->c≠i1->c≠i2->s.heap.get? c=qv o->h'.get? c=qv o)->(∃o,h'.get? e=qv o/\o.cls= .type "StopIteration")->wpAny (model prog w) A (do if(<-isInstance (.ref e) (.type "StopIteration"))=qz then pure qw else throw (.ref e)) Q Ex {s with heap:=h'}:=λh' e W he=>by
  obtain⟨o,Y,O⟩:=he;exact aa (wpAny_isInstance (T:="StopIteration") (b:=qz) ⟨o,Y,O⟩ isSubtype_stop (ae (hQ _ W)))
 refine aa (wpAny_attempt (wpAny_callSpecial?_slot (name:=ox "__next__") G mz (wpAny_call_entry mz G F.entry_zip_next ?_ (F.args_zip_next_1 _))));show wpAny _ _ (field (.ref z) 2 >>= _) _ _ _;refine aa (wpAny_field hz rfl (x:=.bool q4) rfl ?_);show wpAny _ _ (field (.ref z) 3 >>= _) _ _ _;refine aa (wpAny_field hz rfl (x:=.ref TI) rfl (aa (wpAny_seqItems hTI rfl ?_)));show wpAny _ _ (dv (.ref z) >>= _) _ _ _;refine aa ?_;unfold dv;refine aa (wpAny_field hz rfl (x:=.none) rfl (ae ?_));simp only[if_true];refine aa (wpAny_rule (aa (wpAny_field hz rfl (x:=.ref TO) rfl (aa (wpAny_setField_rec hz (by simp) λZ p g=>?_)))))
 replace p:IsZip Z z TI TO .ellipsis:=p;refine aa ?_;simp only[List.zipIdx_cons,List.zipIdx_nil,List.forIn_cons,List.forIn_nil];refine aa (aa (wpAny_onRaise ?_));show wpAny _ _ (ey (.ref i1) >>= _) _ _ _
 cases y:xs[k1]? with
 |none=>
  refine aa (lU hh (d h1 g D.i1z) (f hl1 g D.l1z) y λE e i he=>?_)
  obtain⟨C,q1,q2⟩:=he;have H:IsZip E z TI TO .ellipsis:=i _ _ D.i1z.symm p;have r:e≠z:=λx=>by subst x;rw[H]at q1;cases q1;simp at q2
  exact wpAny_setField_rec H (by simp) λK _ j=>n K e (λc o m _ B _ x=>(j.2 _ m).trans (i _ _ B ((g.2 _ m).trans x))) ⟨C,(j.2 _ r).trans q1,q2⟩
 |some x=>
  have N:ys[k2]? =qw:=he.resolve_left λh=>by rw[y]at h;cases h
  refine aa (gT (d h1 g D.i1z) (f hl1 g D.l1z) y λE p2 i=>ae ?_)
  have L:IsPair E TO a b:=(i.2 _ D.TOi1).trans ((g.2 _ D.TOz).trans hTO);refine aa (wpAny_seqItems L rfl (aa (wpAny_updateSeq_pair L λK o3 j=>?_)))
  refine aa (wpAny_letGo (ae (aa (aa (wpAny_onRaise ?_)))));show wpAny _ _ (ey (.ref i2) >>= _) _ _ _;refine aa (lU hh (d (d (d h2 g D.i2z) i D.i12.symm) j D.TOi2.symm) (f (f (f hl2 g D.l2z) i D.l2i1) j D.l2TO) N λX e I he=>?_)
  obtain⟨C,q1,q2⟩:=he;have M:IsZip X z TI TO .ellipsis:=I _ _ D.i2z.symm ((j.2 _ D.TOz.symm).trans ((i.2 _ D.i1z.symm).trans p));have r:e≠z:=λx=>by subst x;rw[M]at q1;cases q1;simp at q2
  exact wpAny_setField_rec M (by simp) λU _ J=>n U e (λc o m P B S x=>(J.2 _ m).trans (I _ _ S ((j.2 _ P).trans ((i.2 _ B).trans ((g.2 _ m).trans x))))) ⟨C,(J.2 _ r).trans q1,q2⟩
end
noncomputable def itC(t:Bool):String:=if t then "tuple_iterator" else "list_iterator"
abbrev zg1(t:Bool)(h:Heap)(l:Addr):Heap:=h.push {cls:=.type (itC t),data:=.fields #[.ref l,.int 0 0]}
abbrev zg3(t t2:Bool)(h:Heap)(l m:Addr):Heap:=(zg1 t2 (zg1 t h l) m).push {cls:=.type "tuple",data:=.seq #[.ref h.objs.size,.ref (zg1 t h l).objs.size]}
abbrev zg4(t t2:Bool)(h:Heap)(l m:Addr):Heap:=(zg3 t t2 h l m).push {cls:=.type "tuple",data:=.seq #[.none,.none]}
abbrev zg5(t t2:Bool)(h:Heap)(l m:Addr):Heap:=(zg4 t t2 h l m).push {cls:=.type "zip",data:=.fields #[.none,.bool q4,.bool q4,.ref (zg1 t2 (zg1 t h l) m).objs.size,.ref (zg3 t t2 h l m).objs.size]}
def Dn(t t2:Bool)(l m:Addr)(xs ys:Array Value):Meets (Builtin.«zip.__new__» ⟨[.type "zip",.ref l,.ref m],[]⟩) (λ_ R s=>SeA t s.heap l xs/\SeA t2 s.heap m ys/\R (.ok (.ret (.ref (zg4 t t2 s.heap l m).objs.size))) {s with heap:=zg5 t t2 s.heap l m}):=
 .of_wp λf w A R s h=>by
  obtain⟨e,g,d,c,b⟩:=s;obtain⟨t1,a,h⟩:=h;have i:=sub_zip
  cases t with
  |true=>
   have q1:pb (pk ⟨e,g,d,c,b⟩) l xs:=t1
   cases t2 with
   |true=>
    have q2:pb (pk ⟨e.push {cls:=.type "tuple_iterator",data:=.fields #[.ref l,.int 0 0]},g,d,c,b⟩) m ys:=pb.push a _
    wp_walk using wpAny_pyIter_tuple q1,wpAny_pyIter_tuple q2
    exact⟨_,rfl,h⟩
   |false=>
    have q2:pp (pk ⟨e.push {cls:=.type "tuple_iterator",data:=.fields #[.ref l,.int 0 0]},g,d,c,b⟩) m ys:=pp.push a _
    wp_walk using wpAny_pyIter_tuple q1,wpAny_pyIter_list q2
    exact⟨_,rfl,h⟩
  |false=>
   have q1:pp (pk ⟨e,g,d,c,b⟩) l xs:=t1
   cases t2 with
   |true=>
    have q2:pb (pk ⟨e.push {cls:=.type "list_iterator",data:=.fields #[.ref l,.int 0 0]},g,d,c,b⟩) m ys:=pb.push a _
    wp_walk using wpAny_pyIter_list q1,wpAny_pyIter_tuple q2
    exact⟨_,rfl,h⟩
   |false=>
    have q2:pp (pk ⟨e.push {cls:=.type "list_iterator",data:=.fields #[.ref l,.int 0 0]},g,d,c,b⟩) m ys:=pp.push a _
    wp_walk using wpAny_pyIter_list q1,wpAny_pyIter_list q2
    exact⟨_,rfl,h⟩
section
variable{Ex:cg}{s:Shared}
def A5(e:h.get? it=qv {cls:=.type (itC t),data:=.fields #[.ref l,.int 0 0]}):ItA t h it l 0:=by
 cases t with
 |true=>exact⟨_,e,rfl,rfl⟩
 |false=>exact⟨_,e,rfl,rfl⟩
def A6{Q:cg}(t1:SeA t s.heap l xs)(t2':SeA t2 s.heap m ys)(h: ∀h',IsZip h' (s.heap.objs.size+4) (s.heap.objs.size+2) (s.heap.objs.size+3) .none->IsPair h' (s.heap.objs.size+2) (.ref s.heap.objs.size) (.ref (s.heap.objs.size+1))->IsPair h' (s.heap.objs.size+3) .none .none->
   ItA t h' s.heap.objs.size l 0->ItA t2 h' (s.heap.objs.size+1) m 0->h'.objs.size=s.heap.objs.size+5->(∀c o,s.heap.get? c=qv o->h'.get? c=qv o)->Q (.ref (s.heap.objs.size+4)) {s with heap:=h'}):
  wpAny (model prog w) A (call (.type "zip") [.ref l,.ref m]) Q Ex s:=by
 refine callType_new F.called_zip (by decide) (F.typeCall_zip_2 _ _) (F.newCall_zip_2 _ _) (λi=>F.args_object_init_3 i _ _) F.entry_zip_new (Dn t t2 l m xs ys) ⟨t1,t2',?_⟩
 have f:(zg1 t s.heap l).objs.size=s.heap.objs.size+1:=ai ..
 have a:(zg1 t2 (zg1 t s.heap l) m).objs.size=s.heap.objs.size+2:=by rw[ai,f]
 have d:(zg3 t t2 s.heap l m).objs.size=s.heap.objs.size+3:=by rw[ai,a]
 have b:(zg4 t t2 s.heap l m).objs.size=s.heap.objs.size+4:=by rw[ai,d]
 have q:(zg5 t t2 s.heap l m).objs.size=s.heap.objs.size+5:=by rw[ai,b]
 have up: ∀{h:Heap} {o:Obj} {c:Addr} {x:Obj},h.get? c=qv x->(h.push o).get? c=qv x:=λe=>af _ e
 have g:(zg5 t t2 s.heap l m).get? (zg4 t t2 s.heap l m).objs.size=qv _:=ag _ rfl
 have j:(zg5 t t2 s.heap l m).get? (zg3 t t2 s.heap l m).objs.size=qv _:=up (ag _ rfl)
 have p:(zg5 t t2 s.heap l m).get? (zg1 t2 (zg1 t s.heap l) m).objs.size=qv _:=up (up (ag _ rfl))
 have n:(zg5 t t2 s.heap l m).get? (zg1 t s.heap l).objs.size=qv _:=up (up (up (ag _ rfl)))
 have r:(zg5 t t2 s.heap l m).get? s.heap.objs.size=qv _:=up (up (up (up (ag _ rfl))))
 show _/\_;rw[a,d,b]at g;rw[f,a]at p;rw[d]at j;rw[f]at n;rw[b];exact⟨⟨_,g,rfl⟩,h _ g p j (A5 r) (A5 n) q λc o x=>up (up (up (up (up x))))⟩
end
noncomputable def EV(t t2:Bool)(K:og)(l m:Addr):It:=
 ⟨λi H=>∃xs ys x y,SqA t K H l xs/\SqA t2 K H m ys/\xs[i]? =qv x/\ys[i]? =qv y,
  λi H v H'=>∃p x y,H p=qw/\v= .ref p/\(∀xs,SqA t K H l xs->xs[i]? =qv x)/\(∀ys,SqA t2 K H m ys->ys[i]? =qv y)/\H'=upd H p (.tup [x,y]),
  λi H=>∃xs ys,SqA t K H l xs/\SqA t2 K H m ys/\(xs.length<=i\/ys.length<=i)⟩
def A7{K:og}{z TI TO i1 i2 l m:Addr}(D:ZipApart z TI TO i1 i2 l m):
  Turn P w K (.Tuple es x1 tp) (EV t t2 K l m) [z,TI,TO,i1,i2] z (λi h=>IsZip h z TI TO .none/\IsPair h TI (.ref i1) (.ref i2)/\(∃a b,IsPair h TO a b)/\ItA t h i1 l i/\ItA t2 h i2 m i) where
 mem:=by simp
 obj:=λi h st b d=>by
  obtain⟨g,f,⟨a,c,j⟩,O,S⟩:=st;obtain⟨o4,p,d4⟩:=o7 O;obtain⟨o5,r,d5⟩:=o7 S;simp only[au,k7,or_false]at d;rcases d with rfl|rfl|rfl|rfl|rfl
  ·exact⟨_,g,λv e=>by cases e⟩
  ·exact⟨_,f,λv e=>by cases e⟩
  ·exact⟨_,j,λv e=>by cases e⟩
  ·exact⟨_,p,λv e=>by rw[d4]at e;cases e⟩
  ·exact⟨_,r,λv e=>by rw[d5]at e;cases e⟩
 keep:=λi h J st k=>by
  obtain⟨g,f,⟨a,c,j⟩,O,S⟩:=st;exact⟨k _ (by simp) _ g,k _ (by simp) _ f,⟨a,c,k _ (by simp) _ j⟩,dA O λo e=>k _ (by simp) o e,dA S λo e=>k _ (by simp) o e⟩
 item:=by
  intro X T hw hK hc i A s L H E I G st Y;subst T hw hK;obtain⟨xs,ys,x,y,q1,q2,C,hy⟩:=Y;obtain⟨us,Z,p1,_⟩:=fN I q1;obtain⟨vs,r2,U,_⟩:=fN I q2;obtain⟨u,hu,ru⟩:=Z.get C;obtain⟨v,hv,rv⟩:=r2.get hy;obtain⟨g,f,⟨a,c,j⟩,p,r⟩:=st;have tI:TI<s.heap.objs.size:=ah f;have tz:z<s.heap.objs.size:=ah g;have tO:TO<s.heap.objs.size:=ah j;have t4:i1<s.heap.objs.size:=by obtain⟨o,e,_⟩:=o7 p;exact ah e
  have t5:i2<s.heap.objs.size:=by obtain⟨o,e,_⟩:=o7 r;exact ah e
  refine A4 D g f j p r p1 U (x:=u) (y:=v) (by simpa using hu) (by simpa using hv) λJ a1 a2 a3 a4 a5 a6 a7=>⟨_,rfl,?_⟩
  have N:H s.heap.objs.size=qw:=I.hok.fresh (aj _)
  -- the pair, laid
  have Ia:Inv X A L (upd H s.heap.objs.size (.tup [x,y])) {s with heap:=s.heap.push {cls:=.type "tuple",data:=.seq #[u,v]} }:=
   I.laid (t':=s.toks) (λb o e=>af _ e) (aj _) (show ObjOk X.prog X.w _ _ _ (.tup [x,y]) from⟨by rw[sizeLine_eq];simp,[u,v],.cons ru (.cons rv .nil),⟨_,ag _ rfl,rfl,_,rfl⟩,⟨_,ag _ rfl,rfl⟩⟩)
  have Q: ∀b∈[z,TI,TO,i1,i2],b≠s.heap.objs.size:=λb d=>by
   simp only[au,k7,or_false]at d;rcases d with rfl|rfl|rfl|rfl|rfl
   ·exact bj tz
   ·exact bj tI
   ·exact bj tO
   ·exact bj t4
   ·exact bj t5
  have n: ∀b∈[z,TI,TO,i1,i2],t3 X A (upd H s.heap.objs.size (.tup [x,y])) b:=λb d=>⟨by rw[aD (Q b d)];exact(G b d).1,(G b d).2⟩
  have Ib:Inv X A L (upd H s.heap.objs.size (.tup [x,y])) {s with heap:=J}:=by
   refine fD (s:={s with heap:=s.heap.push {cls:=.type "tuple",data:=.seq #[u,v]} }) (t':=s.toks) Ia (λb o d e=>?_) n
   simp only[au,k7,or_false,not_or]at d
   by_cases hq:b=s.heap.objs.size
   ·subst hq;rw[show(s.heap.push {cls:=.type "tuple",data:=.seq #[u,v]}).get? s.heap.objs.size=qv _ from ag _ rfl]at e
    cases e;exact a5
   ·have e2:s.heap.get? b=qv o:=by
     exact(kc _ b _ hq).symm.trans e
    exact a7 b o d.1 d.2.2.1 d.2.2.2.1 d.2.2.2.2 e2
  refine wpAny_letOwnedTupleGo_zip a1 λh2 b1 B=>?_
  have Ic:Inv X A L (upd H s.heap.objs.size (.tup [x,y])) {s with heap:=h2}:=fD (s:={s with heap:=J}) (t':=s.toks) Ib (λb o d e=>(B.2 b (λq=>d (by simp[q]))).trans e) n
  refine⟨.ref s.heap.objs.size,_,Ic,rfl,⟨_,x,y,N,rfl,λad M=>by rw[iQ I M q1];exact C,λac ab=>by rw[iQ I ab q2];exact hy,rfl⟩,⟨b1,?_,⟨u,v,?_⟩,?_,?_⟩,λb d=>(n b d).1⟩
  ·exact(B.2 _ D.TIz).trans (a7 _ _ D.TIz D.TITO D.TIi1 D.TIi2 f)
  ·exact(B.2 _ D.TOz).trans a2
  ·exact dA a3 λo e=>(B.2 _ D.i1z).trans e
  ·exact dA a4 λo e=>(B.2 _ D.i2z).trans e
 done:=by
  intro X T hw hK hc i A s L H E I G st Y;subst T hw hK;obtain⟨xs,ys,q1,q2,C⟩:=Y;obtain⟨us,Z,p1,_⟩:=fN I q1;obtain⟨vs,r2,U,_⟩:=fN I q2;obtain⟨g,f,⟨a,c,j⟩,p,r⟩:=st;have n1:=Z.length;have n2:=r2.length;refine Dm (I.ok.hd hc) D g f j p r p1 U (C.elim (λh=>.inl (by simp;lia)) λh=>.inr (by simp;lia)) λJ k=>⟨rfl,fD (t':=s.toks) I (λb o d e=>?_) G⟩
  simp only[au,k7,or_false,not_or]at d;exact k b o d.1 d.2.2.1 d.2.2.2.1 d.2.2.2.2 e
 self:=λ_ _ _ _ _ st h=>wpAny_pyIter_zip st.1 h
section
variable{X:Cx}{ad:Ad}{σ:St}{H:Hp}
def o8(hG:Same G H)(hS:SL X.K ad G H ρ σ)(hx:XP X ad σ E)(hr:IGK X ad G H ((f ρ).bind k) W E)(q: ∀v d G1 H1,Step G H G1 H1->Rep X.K ad G1 d v->IGK X ad G1 H1 (k d) W E->Q' v H1):tE X ad f σ H Q':=by
 have b: ∀{r:R} {G1 H1:Hp},IGK X ad G H r W E->Step G H G1 H1->IGK X ad G1 H1 r W E:=λ{r G1 H1} h st=>by
  cases r with
  |ok d=>obtain⟨u,e,h⟩:=h;exact⟨u,e,λJ g j a o=>h J g j (st.trans a) o⟩
  |ow l=>exact λJ g j a o=>h J g j (st.trans a) o
  |ex c=>exact λg j a=>h g j (st.trans a)
  |bad=>exact h
 refine⟨G,ρ,E,hG,hS,hx,?_⟩
 cases e:f ρ with
 |ok d=>
  rw[e]at hr;exact λv G1 H1 st r=>q v d G1 H1 st r (b hr st)
 |ow z=>
  rw[e]at hr;intro p y G1 H1 st n m x r;obtain⟨t,i,s⟩:=cS (X:=X) (ad:=ad) st n m x r;exact q _ _ t H1 i s (b hr i)
 |ex c=>
  rw[e]at hr;exact hr
 |bad=>
  rw[e]at hr;exact hr
def iZp(K:og)(ta:TA):TI:=λσ H R=>ta σ H λvs H1=>∃t t2 l m xs ys,vs=[.ref l,.ref m]/\SqA t K H1 l xs/\SqA t2 K H1 m ys/\(xs.length<=sizeLine->R (EV t t2 K l m) H1)
def EW{kt}(hg:L2.Gl X "zip")(hm:X.mg "zip"=qw)(ha:PA X [a,b] ta)(he:starEach [a,b] X.env=(q4,eval a X.env)::starEach [b] X.env)(he2:starEach [b] X.env=(q4,eval b X.env)::starEach [] X.env):
  PI X (.Tuple es kt tp) (.Call (.Name "zip" p) [a,b] [] pos) (iZp X.K ta):=by
 intro B s P H R I h;refine Call_ (gB (u:=.type "zip") I hg hm (by decide+kernel) (d8 (L2.thn (ha pos B s P H _ I h) λY c ⟨U,Q,f,M,q1⟩=>?_) he (by rw[he2];rfl)) (by decide) (by decide))
 obtain⟨t,t2,l,m,W,Z,rfl,i,g,q⟩:=q1;obtain⟨u,v,rfl,z,O⟩:=M.two
 cases (show u=qj l from z)
 cases (show v=qj m from O)
 obtain⟨A,_,y,L⟩:=fN f i;obtain⟨n,_,r,_⟩:=fN f g;refine A6 y r λh' j E T S N a6 J=>wpAny_pyIter_zip j ?_
 have G:l<c.heap.objs.size:=by cases t<;>(obtain⟨o,e,_⟩:=y;exact ah e)
 have C:m<c.heap.objs.size:=by cases t2<;>(obtain⟨o,e,_⟩:=r;exact ah e)
 refine⟨c.heap.objs.size+4,[c.heap.objs.size+4,c.heap.objs.size+2,c.heap.objs.size+3,c.heap.objs.size,c.heap.objs.size+1],_,EV t t2 X.K l m,Q,rfl,f.kept (t':=c.toks) J,A7 (AX G C),⟨j,E,⟨_,_,T⟩,S,N⟩,λb x=>?_,q L⟩
 have d:c.heap.objs.size<=b:=by
  simp only[au,k7,or_false]at x;rcases x with rfl|rfl|rfl|rfl|rfl
  ·exact lg _ 4
  ·exact lg _ 2
  ·exact lg _ 3
  ·exact aj _
  ·exact lg _ 1
 exact f.fpOk d (f.hok.fresh d)
def GU{ds es:List D}{i:Nat}{d:D}(e:((ds.zip es).map λp=>D.tup [p.1,p.2])[i]? =qv d): ∃x y,ds[i]? =qv x/\es[i]? =qv y/\d= .tup [x,y]:=by
 rw[ju]at e
 cases q:(ds.zip es)[i]? with
 |none=>rw[q]at e;cases e
 |some p=>
  rw[q]at e;rw[List.getElem?_zip_eq_some]at q;exact⟨p.1,p.2,q.1,q.2,(lz e).symm⟩
def isA:Bool->List D->D->Prop
 |true,ds,d=>d= .tup ds
 |false,ds,d=>d= .lst ds
def o9(c:isA t ds d)(r:Rep X.K ad G1 d v): ∃l vs,v= .ref l/\SqA t X.K G1 l vs/\aJ X.K ad G1 ds vs:=by
 cases t with
 |true=>cases c;unfold Rep at r;exact r
 |false=>cases c;unfold Rep at r;exact r
def wJ{t t2:Bool}{G1 H1 H2:Hp}{l m:Addr}{i:Nat}{vs ws:List V}{ds es:List D}{d:D}{x:V}(h1:SqA t X.K G1 l vs)(r1:aJ X.K ad G1 ds vs)(h2:SqA t2 X.K G1 m ws)(r2:aJ X.K ad G1 es ws)(hg:Same G1 H1)(e:((ds.zip es).map λp=>D.tup [p.1,p.2])[i]? =qv d):
  (EV t t2 X.K l m).go i H1/\∀x H2,(EV t t2 X.K l m).yld i H1 x H2->∃G2,Step G1 H1 G2 H2/\Rep X.K ad G2 d x:=by
 obtain⟨x,y,j,n,rfl⟩:=GU e;obtain⟨v,h,q1⟩:=r1.get j;obtain⟨w,b,q2⟩:=r2.get n;refine⟨⟨vs,ws,v,w,aL hg h1,aL hg h2,h,b⟩,?_⟩;rintro s r ⟨p,z,u,g,rfl,q,o,rfl⟩;have c:=q vs (aL hg h1);rw[h]at c;cases c;have f:=o ws (aL hg h2);rw[b]at f;cases f;refine⟨upd G1 p (.tup [v,w]),Step.new hg g,?_⟩;have a:Same G1 (upd G1 p (.tup [v,w])):=Same.upd_new (hg.free g);unfold Rep;exact⟨p,[v,w],rfl,SqT.of aG,aJ.cons (q1.mono a) (aJ.cons (q2.mono a) aJ.nil)⟩
def wK{t t2:Bool}{G1 H1:Hp}{l m:Addr}{vs ws:List V}{ds es:List D}(h1:SqA t X.K H1 l vs)(n1:vs.length=ds.length)(h2:SqA t2 X.K H1 m ws)(n2:ws.length=es.length):(EV t t2 X.K l m).stop ((ds.zip es).map λp=>D.tup [p.1,p.2]).length H1:=by
 refine⟨vs,ws,h1,h2,?_⟩;simp only[ao,List.length_zip]
 lia
def KP{kt}(hg:L2.Gl X "zip")(hm:X.mg "zip"=qw)(ha:ME X ad a f)(hb:ME X ad b g)(he:starEach [a,b] X.env=(q4,eval a X.env)::starEach [b] X.env)(he2:starEach [b] X.env=(q4,eval b X.env)::starEach [] X.env):
  MI X ad (.Tuple es kt tp) (.Call (.Name "zip" p) [a,b] [] pos) (uA f g):=by
 rintro Q s u H W I ⟨G,ρ,E,hG,z,B,Z⟩;refine EW (ta:=oQ (tE X ad f) (oQ (tE X ad g) Ev)) hg hm (b8 ha (b8 hb cZ he2) he) he he2 Q s u H W I ?_;show tE X ad f u H λv M=>tE X ad g u M λA H2=>∃t t2 l m xs ys,[v,A]=[.ref l,.ref m]/\SqA t X.K H2 l xs/\SqA t2 X.K H2 m ys/\(xs.length<=sizeLine->W (EV t t2 X.K l m) H2)
 refine o0 hG z B Z λv d G1 M st r k=>?_
 refine o0 st.gh (z.step st) B k λA q L H2 c U k2=>?_
 obtain⟨t,t2,y,j,c1,P,k2⟩: ∃t t2 y j,isA t y d/\isA t2 j q/\IK X ad L H2 (.ok (.lst ((y.zip j).map λp=>D.tup [p.1,p.2]))) W E:=by
  cases d<;>try exact az k2
  ·cases q<;>try exact az k2
   ·exact⟨qz,qz,_,_,rfl,rfl,k2⟩
   ·exact⟨qz,q4,_,_,rfl,rfl,k2⟩
  ·cases q<;>try exact az k2
   ·exact⟨q4,qz,_,_,rfl,rfl,k2⟩
   ·exact⟨q4,q4,_,_,rfl,rfl,k2⟩
 obtain⟨al,e,Y⟩:=k2;cases e;obtain⟨l,N,rfl,q1,S⟩:=o9 c1 r;obtain⟨m,T,rfl,q2,J⟩:=o9 P U;have o:=aL c.sg q1;have n:=S.mono c.sg;refine⟨t,t2,l,m,N,T,rfl,aL c.gh o,aL c.gh q2,λO=>Y _ L H2 (Step.refl c.gh) ⟨λi C H3 d' h e=>?_,λC H3 h=>wK (G1:=C) (aL h.sh (aL c.gh o)) n.length (aL h.sh (aL c.gh q2)) J.length,?_⟩⟩
 ·exact wJ (H2:=H3) (x:=.ref l) (aL h.sg o) (n.mono h.sg) (aL h.sg q2) (J.mono h.sg) h.gh e
 ·have:=n.length
  simp only[ao,List.length_zip]
  lia
def GV{kt}(hg:L2.Gl X "zip")(hm:X.mg "zip"=qw)(ha:ME X ad a f)(hb:ME X ad b g)(he:starEach [a,b] X.env=(q4,eval a X.env)::starEach [b] X.env)(he2:starEach [b] X.env=(q4,eval b X.env)::starEach [] X.env):
  MIG X ad (.Tuple es kt tp) (.Call (.Name "zip" p) [a,b] [] pos) (uA f g):=by
 rintro S s y H W I ⟨G,ρ,E,hG,A,C,hr⟩;refine EW (ta:=oQ (tE X ad f) (oQ (tE X ad g) Ev)) hg hm (b8 ha (b8 hb cZ he2) he) he he2 S s y H W I ?_;show tE X ad f y H λv N=>tE X ad g y N λB H2=>∃t t2 l m xs ys,[v,B]=[.ref l,.ref m]/\SqA t X.K H2 l xs/\SqA t2 X.K H2 m ys/\(xs.length<=sizeLine->W (EV t t2 X.K l m) H2)
 refine o8 hG A C hr λv d G1 N st r k=>?_
 refine o8 st.gh (A.step st) C k λB u M H2 c Y k2=>?_
 obtain⟨t,t2,z,h,c1,Q,k2⟩: ∃t t2 z h,isA t z d/\isA t2 h u/\IGK X ad M H2 (.ok (.lst ((z.zip h).map λp=>D.tup [p.1,p.2]))) W E:=by
  cases d<;>try exact az k2
  ·cases u<;>try exact az k2
   ·exact⟨qz,qz,_,_,rfl,rfl,k2⟩
   ·exact⟨qz,q4,_,_,rfl,rfl,k2⟩
  ·cases u<;>try exact az k2
   ·exact⟨q4,qz,_,_,rfl,rfl,k2⟩
   ·exact⟨q4,q4,_,_,rfl,rfl,k2⟩
 obtain⟨al,e,Z⟩:=k2;cases e;obtain⟨l,O,rfl,q1,T⟩:=o9 c1 r;obtain⟨m,U,rfl,q2,L⟩:=o9 Q Y;have n:=aL c.sg q1;have o:=T.mono c.sg;refine⟨t,t2,l,m,O,U,rfl,aL c.gh n,aL c.gh q2,λP=>Z _ M H2 (Step.refl c.gh) ⟨λi J H3 d' j q e=>?_,λJ H3 j q=>wK (G1:=J) (aL q (aL j n)) o.length (aL q (aL j q2)) L.length⟩⟩
 exact wJ (H2:=H3) (x:=.ref l) (aL j n) (o.mono j) (aL j q2) (L.mono j) q e
def iEn(K:og)(ta:TA):TI:=λσ H R=>ta σ H λvs H1=>∃t l xs,vs=[.ref l]/\SqA t K H1 l xs/\(xs.length<=sizeLine->R (Ite t K l) H1)
def A8{kt}(hg:L2.Gl X "enumerate")(hm:X.mg "enumerate"=qw)(ha:PA X [a] ta)(he:starEach [a] X.env=(q4,eval a X.env)::starEach [] X.env):
  PI X (.Tuple es kt tp) (.Call (.Name "enumerate" p) [a] [] pos) (iEn X.K ta):=by
 intro r s m H R I h;refine Call_ (gB (u:=.type "enumerate") I hg hm (by decide+kernel) (d8 (L2.thn (ha pos r s m H _ I h) λE c ⟨B,n,e,i,q1⟩=>?_) he rfl) (by decide) (by decide))
 obtain⟨t,l,C,rfl,y,q⟩:=q1;obtain⟨u,rfl,j⟩:=i.one
 cases (show u=qj l from j)
 obtain⟨o,_,v,A⟩:=fN e y;refine yM v λG f x J z=>wpAny_pyIter_enum f ?_
 refine⟨c.heap.objs.size+1,[c.heap.objs.size+1,c.heap.objs.size],_,Ite t X.K l,n,rfl,e.kept (t':=c.toks) z,A2 (Nat.succ_ne_self _),⟨⟨_,f⟩,x⟩,λb g=>?_,q A⟩
 have d:c.heap.objs.size<=b:=by
  simp only[au,k7,or_false]at g;rcases g with rfl|rfl
  ·exact ph _
  ·exact aj _
 exact e.fpOk d (e.hok.fresh d)
def rN(r:Rep X.K ad G1 d v)(e:items d=qv ds): ∃t l vs,v= .ref l/\SqA t X.K G1 l vs/\aJ X.K ad G1 ds vs:=by
 cases d<;>try (cases e;done)
 ·cases e;unfold Rep at r;obtain⟨l,vs,rfl,q,t⟩:=r;exact⟨qz,l,vs,rfl,q,t⟩
 ·cases e;unfold Rep at r;obtain⟨l,vs,rfl,q,t⟩:=r;exact⟨q4,l,vs,rfl,q,t⟩
def wL{t:Bool}{G1 H1:Hp}{l:Addr}{i:Nat}{vs:List V}{ds:List D}{d:D}(h1:SqA t X.K G1 l vs)(r1:aJ X.K ad G1 ds vs)(hg:Same G1 H1)(e:(ds.zipIdx.map λp=>D.tup [.int (p.2:Nat),p.1])[i]? =qv d):
  (Ite t X.K l).go i H1/\∀x H2,(Ite t X.K l).yld i H1 x H2->∃G2,Step G1 H1 G2 H2/\Rep X.K ad G2 d x:=by
 rw[ju,List.getElem?_zipIdx]at e
 cases q:ds[i]? with
 |none=>rw[q]at e;cases e
 |some x=>
  rw[q]at e;have a:=(lz e).symm;simp only[Nat.zero_add]at a;subst a;obtain⟨v,c,q1⟩:=r1.get q;refine⟨⟨vs,v,aL hg h1,c⟩,?_⟩;rintro m h ⟨p,n,b,rfl,g,rfl⟩;have f:=g vs (aL hg h1);rw[c]at f;cases f;refine⟨upd G1 p (.tup [.int i,v]),Step.new hg b,?_⟩;have j:Same G1 (upd G1 p (.tup [.int i,v])):=Same.upd_new (hg.free b);unfold Rep;exact⟨p,[.int i,v],rfl,SqT.of aG,aJ.cons bF (aJ.cons (q1.mono j) aJ.nil)⟩
def GW{kt}(hg:L2.Gl X "enumerate")(hm:X.mg "enumerate"=qw)(ha:ME X ad a f)(he:starEach [a] X.env=(q4,eval a X.env)::starEach [] X.env):
  MI X ad (.Tuple es kt tp) (.Call (.Name "enumerate" p) [a] [] pos) (qS f):=by
 rintro q s j H W I ⟨G,C,E,B,n,u,A⟩;refine A8 (ta:=oQ (tE X ad f) Ev) hg hm (b8 ha cZ he) he q s j H W I ?_;show tE X ad f j H λv c=>∃t l xs,[v]=[.ref l]/\SqA t X.K c l xs/\(xs.length<=sizeLine->W (Ite t X.K l) c)
 refine o0 B n u A λv d m c st r k=>?_
 have g:IK X ad m c (match items d with|some xs=>.ok (.lst (xs.zipIdx.map λp=>D.tup [.int (p.2:Nat),p.1]))|none=>.bad) W E:=k
 cases e:items d with
 |none=>rw[e]at g;exact g.elim
 |some N=>
  rw[e]at g;obtain⟨J,x,z⟩:=g;cases x;obtain⟨t,l,h,rfl,q1,t1⟩:=rN r e;have L:=t1.length;refine⟨t,l,h,rfl,aL st.gh q1,λo=>z _ m c (Step.refl st.gh) ⟨λi y H3 M b e=>wL (aL b.sg q1) (t1.mono b.sg) b.gh e,λy H3 b=>⟨h,aL b.sh (aL st.gh q1),by simp;lia⟩,by simp;lia⟩⟩
def Do{kt}(hg:L2.Gl X "enumerate")(hm:X.mg "enumerate"=qw)(ha:ME X ad a f)(he:starEach [a] X.env=(q4,eval a X.env)::starEach [] X.env):
  MIG X ad (.Tuple es kt tp) (.Call (.Name "enumerate" p) [a] [] pos) (qS f):=by
 rintro u s m H W I ⟨G,J,E,C,o,x,B⟩;refine A8 (ta:=oQ (tE X ad f) Ev) hg hm (b8 ha cZ he) he u s m H W I ?_;show tE X ad f m H λv b=>∃t l xs,[v]=[.ref l]/\SqA t X.K b l xs/\(xs.length<=sizeLine->W (Ite t X.K l) b)
 refine o8 C o x B λv d n b st r k=>?_
 have c:IGK X ad n b (match items d with|some xs=>.ok (.lst (xs.zipIdx.map λp=>D.tup [.int (p.2:Nat),p.1]))|none=>.bad) W E:=k
 cases e:items d with
 |none=>rw[e]at c;exact c.elim
 |some O=>
  rw[e]at c;obtain⟨L,y,A⟩:=c;cases y;obtain⟨t,l,j,rfl,q1,t1⟩:=rN r e;have M:=t1.length;refine⟨t,l,j,rfl,aL st.gh q1,λq=>A _ n b (Step.refl st.gh) ⟨λi z H3 N g h e=>wL (aL g q1) (t1.mono g) h e,λz H3 g h=>⟨j,aL h (aL g q1),by simp;lia⟩⟩⟩
def Dp(hc:MT X ad c h)(ha:MT X ad a f)(hb:MT X ad b g):MT X ad (.IfExp c a b pos) (rIf h f g):=by
 refine λq s u H Q I L=>L.el λG l E J p t P N=>?_
 have j:RK X.K ad G H ((h l).bind λx=>match x with|.bl qz=>f l|.bl q4=>g l|_=>.bad) (λv O=>∃b,v= .bl b/\Q b O) E:=N
 have A:j9 ((h l).bind λx=>match x with|.bl qz=>f l|.bl q4=>g l|_=>.bad):=P
 have e:isTrue (.IfExp c a b pos) X.env (eval (.IfExp c a b pos) X.env)=(do if<-isTrue c X.env (eval c X.env)then isTrue a X.env (eval a X.env)else isTrue b X.env (eval b X.env)):=rfl
 rw[e];refine aa ?_;rcases fI A with ⟨d,m,i⟩|⟨S,m,i⟩|⟨k,m⟩
 ·cases d<;>try exact(bY i).elim
  rename_i k;rw[m]at j;refine L2.thn (hc q s u H (λb n=>b=k/\∃o,Step G H o n) I ⟨G,l,E,J,p,t,.inl ⟨k,m⟩,?_⟩) λb B ⟨n,C,M,o,st⟩=>?_
  ·rw[m];intro v o n st r;unfold Rep at r;subst r;exact⟨k,rfl,rfl,o,st⟩
  ·subst M
   cases b with
   |true=>exact wpAny_ite_true (by decide) (ha q B u n Q C ⟨o,l,E,st.gh,p.step st,t,i,RK.step j st⟩)
   |false=>exact wpAny_ite_false (by decide) (hb q B u n Q C ⟨o,l,E,st.gh,p.step st,t,i,RK.step j st⟩)
 ·exact(bY i).elim
 ·rw[m]at j;refine L2.thn (hc q s u H (λb n=>False) I ⟨G,l,E,J,p,t,.inr ⟨k,m⟩,?_⟩) λb B y=>by obtain⟨n,C,z⟩:=y;exact z.elim
  rw[m];exact j
end
def GX:aB uB [bE f] ρ=(f ρ).bind λx=>Ez x λi=>if -100000<=i/\i<=100000 then .ow (nM i.toNat)else .bad:=by
 unfold aB mX args args bE
 cases f ρ with
 |ok d=>
  cases d<;>try rfl
  rename_i i
  by_cases h: -100000<=i/\i<=100000<;>simp[R.bind,Ez,h,RA.cons,RA.then,uB,items]
 |ow a=>rfl
 |ex c=>rfl
 |bad=>rfl
section
variable{X:Cx}{ad:Ad}
def yN(h:ItemsOf (λi v=>∃t,v=qh (0+i*1) t) acc n):bQ ((pw n).map λ(i:Nat)=>V.int (i:Int)) acc.toList:=by
 obtain⟨d,a⟩:=h
 have b: ∀(m:Nat) (l:List Value) (k:Nat),l.length=m->(∀j v,l[j]? =qv v->∃t,v=qh ((k+j:Nat):Int) t)->bQ ((List.range' k m).map λ(i:Nat)=>V.int (i:Int)) l:=by
  intro m
  induction m with
  |zero=>intro l k e _;cases List.length_eq_zero_iff.mp e;exact .nil
  |succ m c=>
   intro l k e a
   cases l with
   |nil=>cases e
   |cons v l=>
    refine .cons (a 0 v rfl) (c l (k+1) (by simpa using e) λj w f=>?_)
    obtain⟨t,q⟩:=a (j+1) w (by simpa using f)
    exact⟨t,by rw[q];congr 1;lia⟩
 rw[List.range_eq_range'];refine b n acc.toList 0 (by simpa using d) λj v e=>?_
 obtain⟨t,q⟩:=a j v (by simpa using e)
 exact⟨t,by rw[q];congr 1;lia⟩
def yO:aJ X.K ad G (nM n) ((pw n).map λ(i:Nat)=>V.int (i:Int)):=by
 unfold nM
 induction (pw n)with
 |nil=>exact aJ.nil
 |cons x r a=>exact aJ.cons bF a
def pA(hg:L2.Gl X "range")(hm:X.mg "range"=qw)(hgl:L2.Gl X "list")(hml:X.mg "list"=qw)(hc:X.calm=qz)(ha:ME X ad a f)(hs:starEach [a] X.env=(q4,eval a X.env)::starEach [] X.env):
  ME X ad (.Call (.Name "list" p) [.Call (.Name "range" p2) [a] [] pos2] [] pos) (aB uB [bE f]):=by
 refine λC s O H Q I B=>B.el λG W E S y M m=>?_
 rw[GX]at m;refine Call_ (gB (u:=.type "list") I hgl hml (by decide+kernel) (d8 ?_ rfl rfl) (by decide) (by decide))
 refine je ?_;refine Call_ (gB (u:=.type "range") I hg hm boot_range (d8 ?_ hs rfl) (by decide) (by decide))
 rw[hs];refine je (L2.thn (ha.thn I S y M m) λu g ⟨v,d,P,r,x,N,st,q,k1⟩=>jt ?_)
 cases d<;>try exact az k1
 rename_i i;unfold Rep at q;subst q;obtain⟨t,rfl⟩:=N
 have k2:RK X.K ad P r (if -100000<=i/\i<=100000 then .ow (nM i.toNat)else .bad) Q E:=k1
 by_cases n: -100000<=i/\i<=100000
 ·rw[if_pos n]at k2;refine call_range_1 (jt ?_);have l:Inv X C O r {g with heap:=g.heap.push {cls:=.type "range",data:=.fields #[.int 0 g.toks,.int i t,.int 1 (g.toks+1)]},toks:=g.toks+1+1}:=x.kept λb o e=>af _ e
  have T:Builtin.Range.rangeSize 0 i 1=(i.toNat:Int):=by rw[rangeSize_one];split<;>lia
  refine call_list_range (x.ok.hd hc) (IsRange.new ..) (small_one (by lia) (by lia) (by lia) (by lia)) T (by lia) λJ z j U hk h c=>?_
  have A:=yN c
  have L:((pw i.toNat).map λ(i:Nat)=>V.int (i:Int)).length<=sizeLine:=by rw[sizeLine_eq];simp;lia
  refine⟨.ref _,_,l.laid (t':=z) hk (aj _) (show ObjOk X.prog X.w _ J _ (.lst _) from⟨L,j.toList,U,A,by simpa using h⟩),rfl,k2.ow_new st.gh yO (l.hok.fresh (aj _))⟩
 ·rw[if_neg n]at k2;exact k2.elim
end
theorem lV(i:Int): ∀l:List Int,(Jc i l).Perm (i::l)
 |[]=>nq _
 |j::r=>by
  unfold Jc;split
  ·exact nq _
  ·exact((lV i r).cons j).trans (qm.swap i j r)
theorem iR: ∀l:List Int,(kO l).Perm l
 |[]=>nq _
 |i::r=>(lV i (kO r)).trans ((iR r).cons i)
theorem nV(i:Int): ∀{l:List Int},l.Pairwise (· <= ·)->(Jc i l).Pairwise (· <= ·)
 |[],_=>gg _ _
 |j::r,h=>by
  unfold Jc;have d:=jm.mp h;split
  ·rename_i c;refine jm.mpr ⟨λa b=>?_,h⟩
   rcases au.mp b with rfl|b
   ·exact c
   ·exact Int.le_trans c (d.1 a b)
  ·rename_i c;refine jm.mpr ⟨λa b=>?_,nV i d.2⟩
   rcases au.mp ((lV i r).mem_iff.mp b)with rfl|b
   ·lia
   ·exact d.1 a b
theorem kA: ∀l:List Int,(kO l).Pairwise (· <= ·)
 |[]=>jw
 |i::r=>nV i (kA r)
def nX(p:m.Perm l)(h:m.Pairwise (· <= ·)):m=kO l:=
 fx (λ_ _ _ _ a b=>Int.le_antisymm a b) h (kA l) (p.trans (iR l).symm)
section
variable{Ex:cg}
def yP{Q:cg}(hT:T="list"\/T="tuple")(ho:s.heap.get? l=qv o)(hc:o.cls= .type T)(hd:o.data= .seq vs.toArray n)(hI:IntsAre vs ns)(h64:vs.length<64)(h: ∀(h1 h':Heap) (out:Array Value) (ns':List Int) (e:Nat),(∀b o,s.heap.get? b=qv o->h1.get? b=qv o)->(∀b o,h1.get? b=qv o->h'.get? b=qv o)->h'.get? h1.objs.size=qv (seqObj "list" out e)->IntsAre out.toList ns'->ns'.Perm ns->ns'.Pairwise (· <= ·)->Q (.ref h1.objs.size) {s with heap:=h'}):
  wpAny (model prog w) A (call (.builtin "sorted") [.ref l]) Q Ex s:=by
 have i:vs.toArray.size<=sizeLine:=by rw[sizeLine_eq];simp;lia
 refine ez kind_sorted plain_sorted entry_sorted (args_sorted1 _) ?_;unfold Builtin.«sorted»;refine aa (m:=checkCount "sorted" 1 1 _) (ae ?_);refine aa (wpAny_collect_seq (hsz:=i) l hT ho hc hd λh1 k1=>?_)
 refine aa (wpAny_newList ?_ (by rw[sizeLine_eq];simp;lia))
 have a:(h1.push (seqObj "list" vs.toArray 0)).get? h1.objs.size=qv (seqObj "list" vs.toArray 0):=ag _ rfl
 show wpAny _ _ _ _ _ {s with heap:=h1.push (seqObj "list" vs.toArray 0)}
 refine aa (wpAny_holding (wpAny_call_entry slot_list_sort ⟨_,a,rfl⟩ entry_list_sort (list_sort_tree a hI h64 λout ns' d f g=>⟨_,rfl,?_⟩) (args_list_sort _)))
 obtain⟨e,c⟩:=sortedHeap_at (out:=out) a;refine ae ⟨_,rfl,h h1 _ out ns' e k1 (λb j q1=>?_) c d f g⟩
 have lt:b<h1.objs.size:=ah q1;rw[sortedHeap_old (bj lt) (by rw[ai];exact jz lt),kc _ _ _ (bj lt)]
 exact q1
end
section
variable{X:Cx}{ad:Ad}
theorem rO: ∀{us:List Value} {ns:List Int},IntsAre us ns->bQ (ns.map V.int) us
 |_,_,.nil=>.nil
 |_,_,.cons n t h=>.cons ⟨t,rfl⟩ (rO h)
theorem wM: ∀{ds:List D} {ns:List Int},dX ds=qv ns->ds=ns.map D.int
 |[],ns,h=>by cases h;rfl
 |d::r,ns,h=>by
  cases d<;>try (cases h;done)
  rename_i i;obtain⟨b,a,rfl⟩:=zMd (show(dX r).map (i:: ·)=qv ns from h)
  rw[wM a];rfl
theorem rP{G:Hp}: ∀{ns:List Int} {vs:List V},aJ X.K ad G (ns.map D.int) vs->vs=ns.map V.int
 |[],vs,h=>by unfold aJ at h;exact h
 |n::r,vs,h=>by
  unfold aJ at h;obtain⟨v,c,rfl,a,b⟩:=h;unfold Rep at a;rw[a,rP b];rfl
def m7{σ:St}(I:Inv X cf σ H s)(hG:Same G H)(q:Seq X ad G H x v)(ru:bG v u)(e1:items x=qv ds)(e2:dX ds=qv ns)(hr2:RK X.K ad G H (if ns.length<64 then .ow ((kO ns).map D.int)else .bad) Q E):wpAny (model X.prog X.w) X.A (call (.builtin "sorted") [u]) (EP X cf σ Q) X.xe s:=by
  by_cases f:ns.length<64
  ·rw[if_pos f]at hr2
   cases wM e2
   obtain⟨p,W,rfl,N,J⟩:=q.items hG e1
   cases rP J
   cases (show u=qj p from ru)
   obtain⟨T,o,d,n,B,L,O,P,j⟩: ∃T o d n,(T="list"\/T="tuple")/\s.heap.get? p=qv o/\o.cls= .type T/\o.data= .seq (pc d) n/\bQ (ns.map V.int) d:=by
    rcases N with z|z
    ·obtain⟨d,h,⟨o,a,b,n,c⟩,_⟩:=I.tuple z.2;exact⟨"tuple",o,d,n,.inr rfl,a,b,c,h⟩
    ·obtain⟨d,h,U,_⟩:=I.list z.2;obtain⟨o,a,b,n,c⟩:=U.isList;exact⟨"list",o,d,n,.inl rfl,a,b,c,h⟩
   refine yP B L O P (yB j) (by rw[<-j.length];simpa using f) λm C i t e k1 k2 g r M y=>?_
   have l:Inv X cf σ H {s with heap:=m}:=I.kept (t':=s.toks) k1
   cases nX M y
   have S:((kO ns).map V.int).length<=sizeLine:=by rw[sizeLine_eq,ao,(iR ns).length_eq];lia
   refine⟨.ref m.objs.size,_,l.laid (t':=s.toks) k2 (aj _) (show ObjOk X.prog X.w _ C _ (.lst _) from⟨S,i.toList,e,rO r,by simpa using g⟩),rfl,hr2.ow_new hG aJ.map_int (l.hok.fresh (aj _))⟩
  ·rw[if_neg f]at hr2;exact hr2.elim
end
theorem A9: ∀(l:List Int) (m:Int),m<=vO m l/\∀x∈l,x<=vO m l
 |[],m=>⟨Int.le_refl _,nofun⟩
 |i::r,m=>by
  have h:=A9 r (if m<i then i else m)
  unfold vO
  by_cases c:m<i
  ·rw[if_pos c]at h ⊢;exact⟨by lia,λx a=>by rcases au.1 a with e|e;(subst e;exact h.1);exact h.2 x e⟩
  ·rw[if_neg c]at h ⊢;exact⟨h.1,λx a=>by rcases au.1 a with e|e;(subst e;lia);exact h.2 x e⟩
theorem wO: ∀(l:List Int) (m:Int),vO m l∈m::l
 |[],m=>.head _
 |i::r,m=>by
  unfold vO;have h:=wO r (if m<i then i else m)
  by_cases c:m<i
  ·rw[if_pos c]at h ⊢;exact .tail _ h
  ·rw[if_neg c]at h ⊢;rcases au.1 h with e|e
   ·rw[e];exact .head _
   ·exact .tail _ (.tail _ e)
def OI(hj:j<(n::r).length)(h: ∀i,i<(n::r).length->(n::r).getD i 0<=(n::r).getD j 0):(n::r).getD j 0=vO n r:=by
 have a:=A9 r n;have b:=getD_mem hj;obtain⟨k,hk,e⟩:=mem_getD (wO r n);have c:=h k hk
 have d:(n::r).getD j 0<=vO n r:=by
  rcases au.1 b with e|e
  ·rw[e];exact a.1
  ·exact a.2 _ e
 rw[e]at c;lia
section
open AutoSeq1 (wpAny_loadPart')
open MeetsSeq MeetsSeq2 MeetsSeq3 SeqRoads2 SeqAt
end
noncomputable def tab(m mv:Nat)(ps:List Nat):SetTable:={mask:=m,place:=ps.toArray,dummies:= #[],finger:=0,led:=qz,moves:=mv,plain:=qz}
noncomputable def tbl(m mv:Nat)(led:Bool)(ps:List Nat):SetTable:={mask:=m,place:=ps.toArray,dummies:= #[],finger:=0,led:=led,moves:=mv,plain:=qz}
noncomputable def adv(m:Nat)(p:SetTable.Probe):SetTable.Probe:=(tab m 0 []).advance p
noncomputable def pr(m:Nat)(h:Int):Nat->SetTable.Probe
 |0=>(tab m 0 []).probeStart h
 |k+1=>adv m (pr m h k)
noncomputable def lp(m:Nat)(h:Int):Nat->Nat×Nat
 |0=>(SetTable.bits h % (m+1),SetTable.bits h)
 |r+1=>SetTable.leap m (lp m h r).1 (lp m h r).2
def Rch(m:Nat)(h:Int)(ps:List Nat)(p:Nat):Prop:= ∃k,k<10*SetTable.turns m/\(pr m h k).j=p/\∀b,b<k->(pr m h b).j∈ps
structure TI(m:Nat)(L:List (Nat×Int×Value)):Prop where
 up:(L.map (·.1)).Pairwise (· < ·)
 le: ∀x∈L,x.1<=m
 rch: ∀x∈L,Rch m x.2.1 (L.map (·.1)) x.1
mutual
noncomputable def hk:PyData->Bool
 |.none=>qz
 |.int _=>qz
 |.tuple xs=>hks xs
 |_=>q4
noncomputable def hks:List PyData->Bool
 |[]=>qz
 |x::xs=>hk x&&hks xs
end
mutual
noncomputable def hsh:PyData->Int
 |.none=>0xFCA86420
 |.int i=>hashInt i
 |.tuple xs=>reduceHash (eu (CG xs))
 |_=>0
noncomputable def CG:List PyData->List Int
 |[]=>[]
 |x::xs=>hsh x::CG xs
end
mutual
theorem wP: ∀d:PyData,hk d=qz->d.canLay0=qz
 |.none,_=>rfl
 |.int _,_=>rfl
 |.tuple xs,h=>by
  rw[hk]at h;rw[nj];exact Ba xs h
 |.bool _,h=>by simp[hk]at h
 |.str _,h=>by simp[hk]at h
 |.list _,h=>by simp[hk]at h
 |.dict _,h=>by simp[hk]at h
theorem Ba: ∀xs:List PyData,hks xs=qz->jx xs=qz
 |[],_=>rfl
 |x::xs,h=>by
  rw[hks,av]at h;rw[jx,wP x h.1,Ba xs h.2];rfl
end
mutual
theorem uK: ∀d1 d2:PyData,hk d1=qz->hk d2=qz->qf d1 d2=qz->d1=d2
 |.none,d2,_,h2,e=>by cases d2<;>simp[hk]at h2<;>simp[qf]at e ⊢
 |.int i,d2,_,h2,e=>by cases d2<;>simp[hk]at h2<;>simp[qf]at e ⊢<;>exact e
 |.tuple xs,d2,h1,h2,e=>by
  cases d2<;>simp[hk]at h2<;>simp[qf]at e
  rename_i a;rw[wQ xs a (by simpa[hk]using h1) h2 e]
 |.bool _,_,h,_,_=>by simp[hk]at h
 |.str _,_,h,_,_=>by simp[hk]at h
 |.list _,_,h,_,_=>by simp[hk]at h
 |.dict _,_,h,_,_=>by simp[hk]at h
theorem wQ: ∀xs ys:List PyData,hks xs=qz->hks ys=qz->nz xs ys=qz->xs=ys
 |[],[],_,_,_=>rfl
 |[],_::_,_,_,e=>by simp[nz]at e
 |_::_,[],_,_,e=>by simp[nz]at e
 |x::xs,y::ys,h1,h2,e=>by
  rw[hks,av]at h1 h2;rw[nz,av]at e;rw[uK x y h1.1 h2.1 e.1,wQ xs ys h1.2 h2.2 e.2]
end
def rQ{E:cg}(h:Q 0xFCA86420 {s with toks:=s.toks+1}):wpAny (model prog w) A (pyHash .none) Q E s:=by
 have a:s.TypeIs .none "NoneType":=rfl;unfold pyHash pyHashByItsType;refine aa (wpAny_cRoomFor_or (.inl rfl) ?_);refine aa (wpAny_specialOf a iu.lookup ?_);show wpAny _ _ (if(qv (n7 "NoneType.__hash__")==qv p3)=qz then _ else _) Q E s
 rw[if_neg (by rw[beq_builtin_none];exact bg)]
 refine aa (wpAny_specialOf a iu.lookup ?_);show wpAny _ _ (callSpecialIfBoundUnlessNone? .none "__hash__" _ >>= _) Q E s;refine aa (wpAny_callSpecialIfBoundUnlessNone?_slot a iu (wpAny_call_entry iu a F.entry_NoneType_hash ?_ (F.args_NoneType_hash_1 _)));show wpAny _ _ (retInt 0xFCA86420) _ _ s;refine wpAny_ret_mkInt ?_;exact ae h
mutual
noncomputable def dr:PyData->Nat
 |.tuple xs=>drs xs+1
 |_=>1
noncomputable def drs:List PyData->Nat
 |[]=>0
 |x::xs=>dr x+drs xs
end
def GY: ∀(n:Nat) (d:PyData) (v:Value) (as:List Addr) (A:Around) (s:Shared) (Q:Int->Shared->Prop) (E:cg),hk d=qz->d.depth<=n->Reads s.heap v d as->A.units+n<cLine->Q (hsh d) {s with toks:=s.toks+dr d}->wpAny (model prog w) A (pyHash v) Q E s:=by
 intro n
 induction n with
 |zero=>
  intro d v as A s Q E c G e P h
  cases e with
  |none=>exact rQ (by simpa[hsh,dr]using h)
  |int i t=>exact wpAny_pyHash_int (by simpa[hsh,dr]using h)
  |bool b=>cases c
  |str x t=>cases c
  |list=>cases c
  |tuple=>simp[oz]at G
  |dict=>cases c
 |succ n O=>
  intro d v as A s Q E c G e P h
  cases e with
  |none=>exact rQ (by simpa[hsh,dr]using h)
  |int i t=>exact wpAny_pyHash_int (by simpa[hsh,dr]using h)
  |bool b=>cases c
  |str x t=>cases c
  |list=>cases c
  |dict=>cases c
  |@tuple a o S k g as L M r u=>
   have y:s.TypeIs (.ref a) "tuple":=⟨o,L,M⟩
   have C:hks g=qz:=by simpa[hk]using c
   have B:mq g<=n:=by simp only[oz]at G;lia
   unfold pyHash;unfold pyHashByItsType;refine aa (wpAny_cRoomFor_or (.inr (by lia)) ?_)
   refine aa (wpAny_specialOf y kd.lookup ?_);show wpAny _ _ (if(qv (n7 "tuple.__hash__")==qv p3)=qz then _ else _) Q E s
   rw[if_neg (by rw[beq_builtin_none];exact bg)]
   refine aa (wpAny_specialOf y kd.lookup ?_);show wpAny _ _ (callSpecialIfBoundUnlessNone? (.ref a) "__hash__" _ >>= _) Q E s;refine aa (wpAny_callSpecialIfBoundUnlessNone?_slot y kd (wpAny_call_entry kd y F.entry_tuple_hash ?_ (F.args_tuple_hash_1 _)));show wpAny _ _ (ef (.ref a) >>= _) _ _ s;refine aa (wpAny_tupleItemsOf L r ?_);refine aa ?_;rw[<-Array.forIn_toList]
   refine wpAny_forIn_list _
    (λeU (b:Array Int) z=>∃l bs m,ReadsAll s.heap eU l bs/\hks l=qz/\mq l<=n/\CG g=b.toList++CG l/\s.toks+drs g=m+drs l/\z={s with toks:=m})
    _ ?_ ?_ _ _ ⟨g,as,s.toks,u,C,B,rfl,rfl,rfl⟩
   ·rintro x eU b z ⟨l,bs,m,f,k1,k2,k3,k4,rfl⟩
    cases f with
    |@cons _ _ J j H q N K=>
     simp only[hks,av]at k1;simp only[mq]at k2;refine aa (O J x H _ _ _ _ k1.1 (by lia) N (by have:=A.in1_units;lia) ?_)
     have I:s.toks+drs g=m+dr J+drs j:=by rw[k4];simp only[drs];lia
     first
      |exact ae ⟨j,q,_,K,k1.2,by lia,by rw[k3];simp[CG],I,rfl⟩
      |exact aa (ae (ae ⟨j,q,_,K,k1.2,by lia,by rw[k3];simp[CG],I,rfl⟩))
   ·rintro b z ⟨l,bs,m,f,k1,k2,k3,k4,rfl⟩;cases f;simp only[CG,mf]at k3;have p:=h;simp only[hsh,k3,dr,show s.toks+(drs g+1)=m+1 from by simp only[drs]at k4;lia]at p
    show wpAny _ _ (retInt (eu b.toList)) _ _ _;refine wpAny_ret_mkInt ?_;show wpAny _ _ (if(decide (-(2:Int)^63<=eu b.toList)&&decide (eu b.toList<2^63))=qz then _ else _) Q E _
    unfold reduceHash at p
    by_cases e:(decide (-(2:Int)^63<=eu b.toList)&&decide (eu b.toList<2^63))=qz
    ·rw[if_pos e];rw[if_pos e]at p;exact ae p
    ·rw[if_neg e];rw[if_neg e]at p;exact aa (wpAny_rule (ae p))
def Dq: ∀(n:Nat) (d:PyData) (v:Value) (as:List Addr) (A:Around) (s:Shared) (Q:Bool->Shared->Prop) (E:cg),hk d=qz->d.depth<=n->Reads s.heap v d as->Q qz s->wpAny (model prog w) A (eqIsQuiet n v) Q E s:=by
 intro n
 induction n with
 |zero=>
  intro d v as A s Q E c B e h
  cases e with
  |tuple=>simp[oz]at B
  |none=>rw[eqIsQuiet_byValue _ rfl];exact ae h
  |int i t=>rw[eqIsQuiet_byValue _ rfl];exact ae h
  |bool b=>cases c
  |str x t=>cases c
  |list=>cases c
  |dict=>cases c
 |succ n N=>
  intro d v as A s Q E c B e h
  cases e with
  |none=>rw[eqIsQuiet_byValue _ rfl];exact ae h
  |int i t=>rw[eqIsQuiet_byValue _ rfl];exact ae h
  |bool b=>cases c
  |str x t=>cases c
  |list=>cases c
  |dict=>cases c
  |@tuple a o L k m as J K f g=>
   have G:s.TypeIs (.ref a) "tuple":=⟨o,J,K⟩
   have z:hks m=qz:=by simpa[hk]using c
   have y:mq m<=n:=by simp only[oz]at B;lia
   unfold eqIsQuiet;refine aa (wpAny_specialOf G F.slot_tuple_eq.lookup ?_);show wpAny _ _ (isInstance (.ref a) (.type "tuple") >>= _) _ _ s;refine aa (wpAny_isInstance G isSubtype_tuple_tuple ?_);simp only[n9,ay,if_false];refine aa (wpAny_seqItems J f ?_);refine aa ?_;show wpAny _ _ (forIn L _ _) _ _ s;rw[<-Array.forIn_toList];refine wpAny_forIn_list _ (λeU r u=>r.1=qw/\u=s/\∃j bs,ReadsAll s.heap eU j bs/\hks j=qz/\mq j<=n) _ ?_ ?_ _ _ ⟨rfl,rfl,m,as,g,z,y⟩
   ·rintro x eU r u ⟨e,rfl,j,bs,l,k1,k2⟩
    cases l with
    |@cons _ _ M p C q H I=>
     simp only[hks,av]at k1;simp only[mq]at k2;refine aa (N M x C _ _ _ _ k1.1 (by lia) H ?_)
     simp only[n9,ay,if_false];exact ae ⟨rfl,rfl,p,q,I,k1.2,by lia⟩
   ·rintro⟨H,I⟩ u ⟨e,rfl,_⟩
    simp only at e
    subst e;exact ae h
def Key(h:Heap)(d:PyData)(v:Value):Prop:=(∃b,v= .ref b)/\hk d=qz/\d.depth<=8/\∃as,Reads h v d as
mutual
theorem i7: ∀{x y:D},same x y=qz->(fU x).length=(fU y).length
 |.int _,y,h=>by cases y<;>simp[same]at h;rfl
 |.tup xs,y,h=>by
  cases y<;>simp[same]at h
  simp only[fU];exact rR h
 |.non,_,h=>by simp[same]at h
 |.bl _,_,h=>by simp[same]at h
 |.str _,_,h=>by simp[same]at h
 |.lst _,_,h=>by simp[same]at h
 |.exc _,_,h=>by simp[same]at h
 |.fn _,_,h=>by simp[same]at h
theorem rR: ∀{xs ys:List D},bI xs ys=qz->(dH xs).length=(dH ys).length
 |[],[],_=>rfl
 |[],_::_,h=>by simp[bI]at h
 |_::_,[],h=>by simp[bI]at h
 |x::xs,y::ys,h=>by
  simp only[bI,av]at h;simp only[dH,bq,i7 h.1,rR h.2]
end
mutual
theorem wT: ∀{x y:D},same x y=qz->fU x=fU y->x=y
 |.int _,y,h,e=>by cases y<;>simp[same]at h;simpa[fU]using e
 |.tup xs,y,h,e=>by
  cases y<;>simp[same]at h
  simp only[fU]at e;rw[rS h e]
 |.non,_,h,_=>by simp[same]at h
 |.bl _,_,h,_=>by simp[same]at h
 |.str _,_,h,_=>by simp[same]at h
 |.lst _,_,h,_=>by simp[same]at h
 |.exc _,_,h,_=>by simp[same]at h
 |.fn _,_,h,_=>by simp[same]at h
theorem rS: ∀{xs ys:List D},bI xs ys=qz->dH xs=dH ys->xs=ys
 |[],[],_,_=>rfl
 |[],_::_,h,_=>by simp[bI]at h
 |_::_,[],h,_=>by simp[bI]at h
 |x::xs,y::ys,h,e=>by
  simp only[bI,av]at h;simp only[dH]at e;obtain⟨a,b⟩:=List.append_inj e (i7 h.1);rw[wT h.1 a,rS h.2 b]
end
mutual
theorem pB: ∀{x y:D},same x y=qz->deq x y=(fU x==fU y)
 |.int i,y,h=>by
  cases y<;>simp[same]at h
  simp[deq,fU]
 |.tup xs,y,h=>by
  cases y<;>simp[same]at h
  simp only[deq,fU];exact rT h
 |.non,_,h=>by simp[same]at h
 |.bl _,_,h=>by simp[same]at h
 |.str _,_,h=>by simp[same]at h
 |.lst _,_,h=>by simp[same]at h
 |.exc _,_,h=>by simp[same]at h
 |.fn _,_,h=>by simp[same]at h
theorem rT: ∀{xs ys:List D},bI xs ys=qz->p7 xs ys=(dH xs==dH ys)
 |[],[],_=>rfl
 |[],_::_,h=>by simp[bI]at h
 |_::_,[],h=>by simp[bI]at h
 |x::xs,y::ys,h=>by
  simp only[bI,av]at h;simp only[p7,dH,pB h.1,rT h.2];rw[m3];simp only[av,beq_iff_eq];constructor
  ·rintro⟨a,b⟩;rw[a,b]
  ·intro e;exact List.append_inj e (i7 h.1)
end
mutual
theorem pC: ∀{x:D},same x x=qz->hk (bO x)=qz
 |.int _,_=>by simp[bO,hk]
 |.tup xs,h=>by
  simp only[bO,hk];exact wV (by simpa[same]using h)
 |.non,h=>by simp[same]at h
 |.bl _,h=>by simp[same]at h
 |.str _,h=>by simp[same]at h
 |.lst _,h=>by simp[same]at h
 |.exc _,h=>by simp[same]at h
 |.fn _,h=>by simp[same]at h
theorem wV: ∀{xs:List D},bI xs xs=qz->hks (bA xs)=qz
 |[],_=>by simp[bA,hks]
 |x::xs,h=>by
  simp only[bI,av]at h;simp[bA,hks,pC h.1,wV h.2]
end
mutual
theorem eK: ∀{x:D},same x x=qz->plain x=qz
 |.int _,_=>by simp[plain]
 |.tup xs,h=>by
  simp only[plain];exact lW (by simpa[same]using h)
 |.non,h=>by simp[same]at h
 |.bl _,h=>by simp[same]at h
 |.str _,h=>by simp[same]at h
 |.lst _,h=>by simp[same]at h
 |.exc _,h=>by simp[same]at h
 |.fn _,h=>by simp[same]at h
theorem lW: ∀{xs:List D},bI xs xs=qz->bC xs=qz
 |[],_=>by simp[bC]
 |x::xs,h=>by
  simp only[bI,av]at h;simp[bC,eK h.1,lW h.2]
end
mutual
theorem wW: ∀{x y:D},same x y=qz->same y y=qz/\same x x=qz/\dep y=dep x
 |.int _,y,h=>by cases y<;>simp[same]at h;simp[same,dep]
 |.tup xs,y,h=>by
  cases y<;>simp[same]at h
  simp only[same,dep]
  have:=Bb h
  exact⟨this.1,this.2.1,by rw[this.2.2]⟩
 |.non,_,h=>by simp[same]at h
 |.bl _,_,h=>by simp[same]at h
 |.str _,_,h=>by simp[same]at h
 |.lst _,_,h=>by simp[same]at h
 |.exc _,_,h=>by simp[same]at h
 |.fn _,_,h=>by simp[same]at h
theorem Bb: ∀{xs ys:List D},bI xs ys=qz->bI ys ys=qz/\bI xs xs=qz/\nL ys=nL xs
 |[],[],_=>⟨rfl,rfl,rfl⟩
 |[],_::_,h=>by simp[bI]at h
 |_::_,[],h=>by simp[bI]at h
 |x::xs,y::ys,h=>by
  simp only[bI,av]at h;have a:=wW h.1;have b:=Bb h.2;simp only[bI,nL,a.1,b.1,a.2.1,b.2.1,a.2.2,b.2.2,Bool.and_self,and_self]
end
mutual
theorem Bc: ∀{x y z:D},same x y=qz->same x z=qz->same y z=qz
 |.int _,y,z,h,k=>by cases y<;>simp[same]at h;cases z<;>simp[same]at k;rfl
 |.tup xs,y,z,h,k=>by
  cases y<;>simp[same]at h
  cases z<;>simp[same]at k
  simp only[same];exact wX h k
 |.non,_,_,h,_=>by simp[same]at h
 |.bl _,_,_,h,_=>by simp[same]at h
 |.str _,_,_,h,_=>by simp[same]at h
 |.lst _,_,_,h,_=>by simp[same]at h
 |.exc _,_,_,h,_=>by simp[same]at h
 |.fn _,_,_,h,_=>by simp[same]at h
theorem wX: ∀{xs ys zs:List D},bI xs ys=qz->bI xs zs=qz->bI ys zs=qz
 |[],[],[],_,_=>rfl
 |[],_::_,_,h,_=>by simp[bI]at h
 |[],[],_::_,_,h=>by simp[bI]at h
 |_::_,[],_,h,_=>by simp[bI]at h
 |_::_,_::_,[],_,h=>by simp[bI]at h
 |x::xs,y::ys,z::zs,h,k=>by
  simp only[bI,av]at h k ⊢;exact⟨Bc h.1 k.1,wX h.2 k.2⟩
end
theorem pD: ∀{a b:List Int} {r t:List Int},a.length=b.length->fZ (a++r) (b++t)=if a=b then fZ r t else fZ a b
 |[],[],_,_,_=>by simp
 |[],_::_,_,_,h=>by simp at h
 |_::_,[],_,_,h=>by simp at h
 |x::a,y::b,r,t,h=>by
  have c:=pD (a:=a) (b:=b) (r:=r) (t:=t) (by simpa using h)
  simp only[lh,fZ]
  by_cases e:x=y
  ·subst e;simp only[↓reduceIte,c,m4,true_and]
  ·simp[e]
theorem nY: ∀{xs ys:List D},bI xs ys=qz->xs.length=ys.length
 |[],[],_=>rfl
 |[],_::_,h=>by simp[bI]at h
 |_::_,[],h=>by simp[bI]at h
 |x::xs,y::ys,h=>by
  simp only[bI,av]at h;simp[nY h.2]
def KQ: ∀(n:Nat) (x y:D) (u v:Value) (as bs:List Addr) (A:Around) (s:Shared) (Q:cg) (E:cg),same x y=qz->dep x<=n->Reads s.heap u (bO x) as->Reads s.heap v (bO y) bs->A.units+n<cLine->Q (.bool (ltD x y)) s->wpAny (model prog w) A (richCompare .Lt u v) Q E s:=by
 intro n
 have m: ∀(i j:Int) (u v:Value) (as bs:List Addr) (A:Around) (s:Shared) (Q:cg) (E:cg),Reads s.heap u (bO (.int i)) as->Reads s.heap v (bO (.int j)) bs->Q (.bool (ltD (.int i) (.int j))) s->wpAny (model prog w) A (richCompare .Lt u v) Q E s:=by
  intro i j u v as bs A s Q E c d h;simp only[bO]at c d;cases c;cases d
  have e:ltD (.int i) (.int j)=decide (i<j):=by
   unfold ltD fU fZ
   by_cases z:i=j
   ·subst z;simp[fZ]
   ·simp[z]
  rw[e]at h;exact wpAny_lt_int h
 induction n with
 |zero=>
  intro x y u v as bs A s Q E g hn c d hu h
  cases x<;>try (simp[same]at g;done)
  ·cases y<;>simp[same]at g
   exact m _ _ u v as bs A s Q E c d h
  ·simp[dep]at hn
 |succ n ih=>
  intro x y u v as bs A s Q E g hn c d hu h
  cases x<;>try (simp[same]at g;done)
  ·cases y<;>simp[same]at g
   exact m _ _ u v as bs A s Q E c d h
  ·rename_i t
   cases y<;>simp[same]at g
   rename_i o;simp only[dep]at hn
   have h':Q (.bool (fZ (dH t) (dH o))) s:=by
    have:ltD (.tup t) (.tup o)=fZ (dH t) (dH o):=by simp[ltD,fU]
    rw[<-this];exact h
   simp only[bO]at c d
   cases c with
   |@tuple a oa N na _ ac J Z Y ra=>
    cases d with
    |@tuple b ob O nb _ ad L T W rb=>
     have I:s.TypeIs (.ref a) "tuple":=⟨oa,J,Z⟩;have M:s.TypeIs (.ref b) "tuple":=⟨ob,L,T⟩;refine wpAny_richCompare_same_room (op:=.Lt) I M PySem.F.slot_tuple_lt (wpAny_call_entry PySem.F.slot_tuple_lt I PySem.F.entry_tuple_lt ?_ (PySem.F.args_tuple_lt_2 _ _)) (by lia)
     show wpAny _ _ (isInstance (.ref b) (.type "tuple") >>= _) _ _ s;refine aa (wpAny_isInstance M isSubtype_tuple_tuple ?_);simp only[n9,ay,if_false];refine aa (wpAny_tupleItemsOf J Y ?_);refine aa (wpAny_tupleItemsOf L W ?_);refine aa ?_
     refine wpAny_forIn_list _
      (λeU r G=>r.1=qw/\G=s/\∃xs' ys' us' vs' as' bs',eU=List.zip us' vs'/\ReadsAll s.heap us' (bA xs') as'/\ReadsAll s.heap vs' (bA ys') bs'/\bI xs' ys'=qz/\nL xs'<=n/\fZ (dH xs') (dH ys')=fZ (dH t) (dH o))
      _ ?_ ?_ _ _ ⟨rfl,rfl,t,o,N.toList,O.toList,as,bs,rfl,ra,rb,g,by lia,rfl⟩
     ·rintro⟨p,q⟩ eU r G ⟨hr,rfl,xs',ys',us',vs',as',bs',hz,ra',rb',hs',hn',hl'⟩
      cases xs' with
      |nil=>
       simp only[bA]at ra';cases ra'
       simp at hz
      |cons B H=>
       cases ys' with
       |nil=>simp[bI]at hs'
       |cons f C=>
        simp only[bA]at ra' rb'
        cases ra' with
        |@cons u1 X _ _ a1 a2 ru S=>
         cases rb' with
         |@cons v1 P _ _ b1 b2 rv ab=>
          simp only[List.zip_cons_cons,m4,Prod.mk.injEq]at hz;obtain⟨⟨rfl,rfl⟩,rfl⟩:=hz;simp only[bI,av]at hs';simp only[nL]at hn';obtain⟨s1,s2,s3⟩:=wW hs'.1;have p1:=eK s2;have p2:=eK s1;have K:=kr (bO B) (bO f) A.in1 G p q a1 b1 ru rv (fX p1) (fX p2) (by rw[fY,fY];have:=A.in1_units;lia)
          rw[gE B f p1 p2,pB hs'.1]at K;refine aa (K prog w _ _ ?_);simp only[dH]at hl';rw[pD (i7 hs'.1)]at hl'
          by_cases hk:fU B=fU f
          ·rw[if_pos hk]at hl';rw[hk];simp only[beq_self_eq_true,n9,ay,if_false];exact ae ⟨rfl,rfl,H,C,X,P,a2,b2,rfl,S,ab,hs'.2,by lia,hl'⟩
          ·rw[if_neg hk]at hl'
           have e:(fU B==fU f)=q4:=by simpa using hk
           rw[e];simp only[Bool.not_false,if_true];refine aa (wpAny_rule (aa (ih B f p q a1 b1 A.in1 G _ _ hs'.1 (by lia) ru rv (by have:=A.in1_units;lia) ?_)))
           refine aa (ae (ae (ae ?_)))
           have:ltD B f=fZ (dH t) (dH o):=hl'
           rw[this];exact⟨_,rfl,(λe=>nomatch e),h'⟩
     ·rintro⟨c,d⟩ G ⟨hr,rfl,xs',ys',us',vs',as',bs',hz,ra',rb',hs',hn',hl'⟩
      simp only at hr
      subst hr;refine ae ?_
      cases xs' with
      |cons B H=>
       cases ys' with
       |nil=>simp[bI]at hs'
       |cons f C=>
        simp only[bA]at ra' rb';cases ra';cases rb'
        simp at hz
      |nil=>
       cases ys' with
       |cons f C=>simp[bI]at hs'
       |nil=>
        have U:N.size=O.size:=by
         have l1:=ij _ _ _ ra;have l2:=ij _ _ _ rb
         have:=nY g
         have e1: ∀l:List D,(bA l).length=l.length:=λl=>by induction l with|nil=>rfl|cons a l ih=>simp[bA,ih]
         rw[e1]at l1 l2
         have q:N.toList.length=O.toList.length:=by rw[l1,l2];exact this
         simpa using q
        have e:fZ (dH t) (dH o)=q4:=by rw[<-hl'];rfl
        rw[e]at h';refine⟨_,rfl,(λe=>nomatch e),?_⟩
        show Q (.bool (decide (N.size<O.size))) G;rw[U,decide_eq_false (nv _)];exact h'
section
variable{O:KeyOrd}{key:Nat->O.α}{n:Nat}{cmp:Nat->Nat->(Bool->Shared->Prop)->Shared->Prop}{s:Shared}
noncomputable def PK(key:Nat->O.α)(p:Array Nat)(i:Nat):O.α:=key (p.getD i 0)
def Gd(n:Nat)(p:Array Nat):Prop:=p.Perm (pc (pw n))
theorem Gd.size(g:Gd n p):p.size=n:=by rw[qg.size_eq g];simp
def Gd.lt(g:Gd n p)(hi:i<n):p.getD i 0<n:=by
 have h:i<p.size:=by rw[g.size];exact hi
 have e:p.getD i 0=p[i]:=by simp[Array.getD,h]
 have m:p[i]∈p:=Array.getElem_mem h
 have:=(qg.mem_iff g).mp m
 rw[e];simpa using this
def Srt(key:Nat->O.α)(p:Array Nat)(m:Nat):Prop:= ∀i j,i<=j->j<m->O.kle (PK key p i) (PK key p j)
def Fal(key:Nat->O.α)(p:Array Nat)(m:Nat):Prop:= ∀i j,i<=j->j<m->O.kle (PK key p j) (PK key p i)
def Cm(key:Nat->O.α)(n:Nat)(cmp:Nat->Nat->(Bool->Shared->Prop)->Shared->Prop)(s:Shared):Prop:= ∀i j (C:Bool->Shared->Prop),i<n->j<n->C (O.blt (key i) (key j)) s->cmp i j C s
def rV{p q:Array Nat}{i j:Nat}(h:p[i]? =q[j]?):PK key p i=PK key q j:=by
 unfold PK;simp only[Array.getD_eq_getD_getElem?,h]
def rW{p:Array Nat}{i j:Nat}(hj:j<=p.size)(k:Nat):PK key (kas_rev p i j) k=if i<=k/\k<j then PK key p (i+j-1-k)else PK key p k:=by
 have e:=getElem?_mirror_all (i:=i) hj k;unfold kas_rev;split
 ·rename_i h;rw[if_pos h]at e;exact rV e
 ·rename_i h;rw[if_neg h]at e;exact rV e
def rX(g:Gd n p)(i j:Nat):Gd n (kas_rev p i j):=(mirror_perm _ _ _ _).trans g
def EX{p:Array Nat}{k d:Nat}(hk:k<p.size)(hd:d<=k)(i:Nat):PK key (bubble p k d) i=if i=k-d then PK key p k else if k-d<i/\i<=k then PK key p (i-1)else PK key p i:=by
 have e:=getElem?_bubble hk d hd i
 by_cases a:i=k-d
 ·rw[if_pos a]at e ⊢;exact rV e
 ·rw[if_neg a]at e ⊢
  by_cases b:k-d<i/\i<=k
  ·rw[if_pos b]at e ⊢;exact rV e
  ·rw[if_neg b]at e ⊢;exact rV e
def KR(g:Gd n p)(k d:Nat):Gd n (bubble p k d):=(bubble_perm _ _ _).trans g
theorem Bd(hc:Cm key n cmp s){p:Array Nat}(g:Gd n p){G:Nat->Shared->Prop}: ∀(f k:Nat),1<=k->k+f<=n->Srt key p k->(∀m,k<=m->m<=k+f->Srt key p m->(m<k+f->O.klt (PK key p m) (PK key p (m-1)))->G m s)->(kas_asc p f k).kasWp cmp G s
 |0,k,_,_,hs,h=>h k (aj _) (aj _) hs λz=>absurd z (nv _)
 |f+1,k,h1,hf,hs,h=>by
  refine hc _ _ _ (g.lt (by lia)) (g.lt (by lia)) ?_
  cases o:O.blt (key (p.getD k 0)) (key (p.getD (k-1) 0))with
  |true=>exact h k (aj _) (by lia) hs λ_=>o
  |false=>
   refine Bd hc g f (k+1) (by lia) (by lia) (λi j l r=>?_) λm a b c d=>h m (by lia) (by lia) c λz=>d (by lia)
   by_cases e:j<k
   ·exact hs i j l e
   ·have:j=k:=by lia
    subst this
    by_cases q:i=j
    ·subst q;exact m5 _
    ·exact li (hs i (j-1) (by lia) (by lia)) o
theorem pE(hc:Cm key n cmp s){G:Array Nat×Nat×Nat->Shared->Prop}: ∀(f:Nat) (p:Array Nat) (k q:Nat),Gd n p->1<=k->k+f<=n->Fal key p k->q+1<=k->(∀i,k-(q+1)<=i->i<k->PK key p i=PK key p (k-1))->
  (∀p' m q',Gd n p'->k<=m->m<=k+f->Fal key p' m->q'+1<=m->(∀i,m-(q'+1)<=i->i<m->PK key p' i=PK key p' (m-1))->G (p',m,q') s)->(kas_desc f p k q).kasWp cmp G s
 |0,p,k,q,g,h1,hf,hs,hq,he,h=>h p k q g (aj _) (aj _) hs hq he
 |f+1,p,k,q,g,h1,hf,hs,hq,he,h=>by
  have y:=g.size;refine hc _ _ _ (g.lt (by lia)) (g.lt (by lia)) ?_
  cases u:O.blt (key (p.getD k 0)) (key (p.getD (k-1) 0))with
  |true=>
   have step: ∀p':Array Nat,(∀i,PK key p' i=PK key p i)->Fal key p' (k+1):=λp' t i j l x=>by
    rw[t,t]
    by_cases e:j<k
    ·exact hs i j l e
    ·have:j=k:=by lia
     subst this
     by_cases o:i=j
     ·subst o;exact m5 _
     ·exact li (ke u) (hs i (j-1) (by lia) (by lia))
   have same: ∀i,PK key (kas_rev p (k-(q+1)) k) i=PK key p i:=λi=>by
    rw[rW (by lia)]
    split
    ·rw[he _ (by lia) (by lia),he i (by lia) (by lia)]
    ·rfl
   show KasT.kasWp cmp (if qz=qz then(if q > 0 then kas_desc f (kas_rev p (k-(q+1)) k) (k+1) 0 else kas_desc f p (k+1) 0)else _) G s
   rw[if_pos rfl];split
   ·exact pE hc f _ (k+1) 0 (rX g _ _) (by lia) (by lia) (step _ same) (by lia) (λi a b=>by rw[show i=k+1-1 by lia]) λp' m q' a b c=>h p' m q' a (by lia) (by lia)
   ·exact pE hc f _ (k+1) 0 g (by lia) (by lia) (step _ λ_=>rfl) (by lia) (λi a b=>by rw[show i=k+1-1 by lia]) λp' m q' a b c=>h p' m q' a (by lia) (by lia)
  |false=>
   show KasT.kasWp cmp (if q4=qz then _ else KasT.ask (p.getD (k-1) 0) (p.getD k 0) λd=>if d=qz then .ret (p,k,q)else kas_desc f p (k+1) (q+1)) G s
   rw[if_neg (by decide)]
   refine hc _ _ _ (g.lt (by lia)) (g.lt (by lia)) ?_
   cases v:O.blt (key (p.getD (k-1) 0)) (key (p.getD k 0))with
   |true=>exact h p k q g (aj _) (by lia) hs hq he
   |false=>
    have r:PK key p k=PK key p (k-1):=KeyOrd.kle_antisymm v u
    refine pE hc f p (k+1) (q+1) g (by lia) (by lia) (λi j l x=>?_) (by lia) (λi a b=>?_) λp' m q' a b c=>h p' m q' a (by lia) (by lia)
    ·by_cases e:j<k
     ·exact hs i j l e
     ·have:j=k:=by lia
      subst this
      by_cases o:i=j
      ·subst o;exact m5 _
      ·rw[r];exact hs i (j-1) (by lia) (by lia)
    ·rw[show k+1-1=k by lia]
     by_cases o:i=k
     ·subst o;rfl
     ·rw[r];exact he i (by lia) (by lia)
def Be(hc:Cm key n cmp s){p:Array Nat}(g:Gd n p){k:Nat}(h1:1<=k)(hk:k<=n)(hs:Fal key p k){G:Nat×Array Nat->Shared->Prop}(h: ∀m p',Gd n p'->1<=m->m<=n->Srt key p' m->G (m,p') s):(kas_tail3 k n p).kasWp cmp G s:=by
 unfold kas_tail3;rw[m6];have e:=g.size;refine Bd hc (rX g 0 k) (n-k) k h1 (by lia) (λi j d f=>?_) λm a b c _=>h m _ (rX g 0 k) (by lia) (by lia) c
 rw[rW (by lia),rW (by lia),if_pos (by lia),if_pos (by lia)]
 exact hs _ _ (by lia) (by lia)
def Bf(hc:Cm key n cmp s){p:Array Nat}(g:Gd n p){k:Nat}(hk:k+1<=n)(hs:Fal key p (k+1)){G:Nat×Array Nat->Shared->Prop}(h: ∀m p',Gd n p'->1<=m->m<=n->Srt key p' m->G (m,p') s):(kas_descPart k n p).kasWp cmp G s:=by
 unfold kas_descPart;rw[m6];refine pE hc _ p (k+1) 0 g (by lia) (by lia) hs (by lia) (λi a b=>by rw[show i=k+1-1 by lia]) λp' m q f a b l c e=>?_
 have r:=f.size
 dsimp only
 split
 ·refine Be hc (rX f _ _) (by lia) (by lia) (λi j d o=>?_) h
  have same: ∀i,PK key (kas_rev p' (m-(q+1)) m) i=PK key p' i:=λi=>by
   rw[rW (by lia)]
   split
   ·rw[e _ (by lia) (by lia),e i (by lia) (by lia)]
   ·rfl
  rw[same,same];exact l i j d o
 ·exact Be hc f (by lia) (by lia) l h
def Dr(hc:Cm key n cmp s)(hn:1<=n){p:Array Nat}(g:Gd n p){G:Nat×Array Nat->Shared->Prop}(h: ∀m p',Gd n p'->1<=m->m<=n->Srt key p' m->G (m,p') s):(kas_count n p).kasWp cmp G s:=by
 unfold kas_count;rw[m6];have A:=g.size;refine Bd hc g (n-1) 1 (aj _) (by lia) (λi j f v=>by rw[show i=j by lia];exact m5 _) λm u B l st=>?_
 by_cases e:(m==n)=qz
 ·rw[if_pos e];exact h m p g u (by lia) l
 rw[if_neg e]
 have z:m<n:=by
  have:m≠n:=by simpa using e
  lia
 have r:=st (by lia)
 by_cases t:m > 1
 ·rw[if_pos t];refine hc _ _ _ (g.lt (by lia)) (g.lt (by lia)) ?_
  cases x:O.blt (key (p.getD 0 0)) (key (p.getD (m-1) 0))with
  |true=>exact h m p g u (by lia) l
  |false=>
   -- all alike
   have c: ∀i,i<m->PK key p i=PK key p (m-1):=λi d=>by
    have a:=l i (m-1) (by lia) (by lia)
    have b:O.kle (PK key p (m-1)) (PK key p 0):=x;exact KeyOrd.kle_antisymm a (li b (l 0 i (cb _) d))
   refine Bf hc (rX g 0 m) (by lia) (λi j f v=>?_) h
   have same: ∀i,PK key (kas_rev p 0 m) i=PK key p i:=λi=>by
    rw[rW (by lia)]
    split
    ·rw[c _ (by lia),c i (by lia)]
    ·rfl
   rw[same,same]
   by_cases q:j<m
   ·rw[c j q,c i (by lia)];exact m5 _
   ·have:j=m:=by lia
    subst this
    by_cases d:i=j
    ·subst d;exact m5 _
    ·rw[c i (by lia)];exact ke r
 ·rw[if_neg t]
  have:m=1:=by lia
  subst this;refine Bf hc g (by lia) (λi j f v=>?_) h
  by_cases d:i=j
  ·subst d;exact m5 _
  ·have y:i=0:=by lia
   have o:j=1:=by lia
   subst y o;exact ke r
theorem pF(hc:Cm key n cmp s){p:Array Nat}(g:Gd n p){k:Nat}(hk:k<n)(hs:Srt key p k){G:Nat->Shared->Prop}: ∀(f l r:Nat),l<=r->r<=k->r-l<=f->(∀i,i<l->O.kle (PK key p i) (PK key p k))->(∀i,r<=i->i<k->O.klt (PK key p k) (PK key p i))->
  (∀l',l'<=k->(∀i,i<l'->O.kle (PK key p i) (PK key p k))->(∀i,l'<=i->i<k->O.klt (PK key p k) (PK key p i))->G l' s)->(kas_place p k f l r).kasWp cmp G s
 |0,l,r,hlr,hrk,hf,lo,hi,h=>by
  have:l=r:=by lia
  subst this;exact h l hrk lo hi
 |f+1,l,r,hlr,hrk,hf,lo,hi,h=>by
  unfold kas_place;split
  ·have:l=r:=by lia
   subst this;exact h l hrk lo hi
  ·refine hc _ _ _ (g.lt (by lia)) (g.lt (by lia)) ?_
   cases c:O.blt (key (p.getD k 0)) (key (p.getD ((l+r)/2) 0))with
   |true=>
    refine pF hc g hk hs f l ((l+r)/2) (by lia) (by lia) (by lia) lo (λi a b=>?_) h
    exact KeyOrd.klt_of_klt_of_kle c (hs _ _ a b)
   |false=>
    refine pF hc g hk hs f ((l+r)/2+1) r (by lia) (by lia) (by lia) (λi a=>?_) hi h
    exact li (hs i ((l+r)/2) (by lia) (by lia)) c
theorem EY(hc:Cm key n cmp s){G:Array Nat->Shared->Prop}(h: ∀p',Gd n p'->Srt key p' n->G p' s): ∀(f:Nat) (p:Array Nat) (k:Nat),Gd n p->k+f=n->Srt key p k->(kas_bin f p k).kasWp cmp G s
 |0,p,k,g,e,hs=>by
  have:k=n:=by lia
  subst this;exact h p g hs
 |f+1,p,k,g,e,hs=>by
  unfold kas_bin;rw[m6];have x:=g.size;refine pF hc g (by lia) hs k 0 k (cb _) (aj _) (by lia) (λi z=>by lia) (λi a b=>by lia) λl v u t=>?_
  refine EY hc h f _ (k+1) (KR g k (k-l)) (by lia) λi j m y=>?_
  have d:k-(k-l)=l:=by lia
  rw[EX (by lia) (by lia),EX (by lia) (by lia),d]
  by_cases r:i=l
  ·rw[if_pos r]
   by_cases c:j=l
   ·rw[if_pos c];exact m5 _
   ·rw[if_neg c,if_pos (by lia)]
    exact ke (t _ (by lia) (by lia))
  ·rw[if_neg r]
   by_cases q:l<i/\i<=k
   ·rw[if_pos q,if_neg (by lia),if_pos (by lia)]
    exact hs _ _ (by lia) (by lia)
   ·rw[if_neg q]
    by_cases c:j=l
    ·rw[if_pos c];exact u i (by lia)
    ·rw[if_neg c]
     by_cases o:l<j/\j<=k
     ·rw[if_pos o];exact hs _ _ (by lia) (by lia)
     ·rw[if_neg o];exact hs _ _ m (by lia)
def GZ(hc:Cm key n cmp s)(hn:1<=n){G:Array Nat->Shared->Prop}(h: ∀p',Gd n p'->Srt key p' n->G p' s):(kas_sort n).kasWp cmp G s:=by
 unfold kas_sort;rw[m6];refine Dr hc hn (qg.refl _) λm p g c b a=>?_
 dsimp only
 split
 ·rw[show max m 1=m by lia]
  exact EY hc h _ p m g (by lia) a
 ·have:m=n:=by lia
  subst this;exact h p g a
end
theorem iT: ∀a,fZ a a=q4
 |[]=>rfl
 |a::r=>by simp[fZ,iT r]
theorem jT: ∀a b c,fZ a b=qz->fZ b c=qz->fZ a c=qz
 |[],[],_,h,_=>by cases h
 |[],_::_,[],_,h=>by cases h
 |[],_::_,_::_,_,_=>rfl
 |_::_,[],_,h,_=>by cases h
 |_::_,_::_,[],_,h=>by cases h
 |a::r,b::t,c::u,e,d=>by
  unfold fZ at e d ⊢
  by_cases f:a=b
  ·subst f;rw[if_pos rfl]at e
   by_cases g:a=c
   ·rw[if_pos g]at d ⊢;exact jT r t u e d
   ·rw[if_neg g]at d ⊢;exact d
  ·rw[if_neg f]at e;have e:=of_decide_eq_true e
   by_cases i:b=c
   ·subst i;rw[if_neg f];exact decide_eq_true e
   ·rw[if_neg i]at d;have d:=of_decide_eq_true d;rw[if_neg (by lia)];exact decide_eq_true (by lia)
theorem pG: ∀a b c,fZ a c=qz->fZ a b=qz\/fZ b c=qz
 |[],[],[],h=>by cases h
 |[],[],_::_,_=>.inr rfl
 |[],_::_,_,_=>.inl rfl
 |_::_,_,[],h=>by cases h
 |_::_,[],_::_,_=>.inr rfl
 |a::r,b::t,c::u,h=>by
  unfold fZ at h ⊢
  by_cases e:a=c
  ·subst e;rw[if_pos rfl]at h
   by_cases d:a=b
   ·subst d;rw[if_pos rfl,if_pos rfl];exact pG r t u h
   ·rw[if_neg d,if_neg (qu d)];rcases Int.lt_or_gt_of_ne d with z|z
    ·exact .inl (decide_eq_true z)
    ·exact .inr (decide_eq_true z)
  ·rw[if_neg e]at h;have h:=of_decide_eq_true h
   by_cases d:a=b
   ·subst d;rw[if_neg e];exact .inr (decide_eq_true h)
   ·rw[if_neg d]
    by_cases z:a<b
    ·exact .inl (decide_eq_true z)
    ·rw[if_neg (by lia)];exact .inr (decide_eq_true (by lia))
theorem jU: ∀a b,fZ a b=q4->fZ b a=q4->a=b
 |[],[],_,_=>rfl
 |[],_::_,h,_=>by cases h
 |_::_,[],_,h=>by cases h
 |a::r,b::t,c,d=>by
  unfold fZ at c d
  by_cases e:a=b
  ·subst e;rw[if_pos rfl]at c d;rw[jU r t c d]
  ·rw[if_neg e]at c;rw[if_neg (qu e)]at d;have c:=of_decide_eq_false c;have d:=of_decide_eq_false d
   lia
def Jg:KeyOrd:=⟨List Int,fZ,iT,jT,pG,jU⟩
def G0(h1:fZ b a=q4)(h2:fZ c b=q4):fZ c a=q4:=by
 cases h:fZ c a
 ·rfl
 ·rcases pG c b a h with z|z
  ·rw[h2]at z;cases z
  ·rw[h1]at z;cases z
theorem lX(a:D): ∀l,(Jd a l).Perm (a::l)
 |[]=>nq _
 |b::r=>by
  unfold Jd;split
  ·exact((lX a r).cons b).trans (qm.swap a b r)
  ·exact nq _
theorem jV: ∀l,(qV l).Perm l
 |[]=>nq _
 |a::r=>(lX a (qV r)).trans ((jV r).cons a)
theorem nZ(a:D): ∀{l:List D},l.Pairwise (λx y=>ltD y x=q4)->(Jd a l).Pairwise (λx y=>ltD y x=q4)
 |[],_=>gg _ _
 |b::r,h=>by
  unfold Jd;have f:=jm.mp h;split
  ·rename_i d;refine jm.mpr ⟨λc e=>?_,nZ a f.2⟩
   rcases au.mp ((lX a r).mem_iff.mp e)with rfl|e
   ·cases z:ltD c b
    ·rfl
    ·have:=jT _ _ _ d z;rw[iT]at this;cases this
   ·exact f.1 c e
  ·rename_i d
   have d:ltD b a=q4:=by simpa using d
   refine jm.mpr ⟨λc e=>?_,h⟩
   rcases au.mp e with rfl|e
   ·exact d
   ·exact G0 d (f.1 c e)
theorem lY: ∀l,(qV l).Pairwise (λx y=>ltD y x=q4)
 |[]=>jw
 |a::r=>nZ a (lY r)
def One(ds:List D):Prop:= ∀x∈ds, ∀y∈ds,same x y=qz
def yQ(ho:One l)(p:m.Perm l)(h:m.Pairwise (λx y=>ltD y x=q4)):m=qV l:=
 fx (λa b c d x y=>wT (ho a (p.mem_iff.mp c) b ((jV l).mem_iff.mp d)) (jU _ _ y x)) h (lY l) (p.trans (jV l).symm)
def KS(ho:One ds)(hn:ds.length=n)(g:Gd n p)(st:Srt (O:=Jg) (λi=>fU (ds.getD i .non)) p n):(p.toList.map λi=>ds.getD i .non)=qV ds:=by
 have f:p.toList.Perm (pw n):=by
  have:=qg.toList g
  simpa using this
 refine yQ ho ((f.map _).trans (qm.of_eq ?_)) ?_
 ·apply lj
  ·simp[hn]
  ·intro i l h;simp[h]
 ·rw[kf,List.pairwise_iff_getElem];intro i j c b a;have d:=g.size;rw[iy,d]at c b
  have:=st i j (om a) b
  have e: ∀k (hk:k<p.size),p.getD k 0=p.toList[k]'(by simpa using hk):=λk hk=>by simp[Array.getD,hk]
  have r:fZ (fU (ds.getD (p.getD j 0) .non)) (fU (ds.getD (p.getD i 0) .non))=q4:=this
  rw[e i (by lia),e j (by lia)]at r
  exact r
def gU(h:lL ds=qz):One ds/\(∀d∈ds,j8 d=qz/\dep d<=8)/\(2<=ds.length->∀d∈ds,iC d=qz):=by
 cases ds with
 |nil=>cases h
 |cons d r=>
  simp only[lL,av,decide_eq_true_eq,kj]at h;obtain⟨⟨⟨⟨l,s⟩,t⟩,o⟩,p⟩:=h
  have sd: ∀x∈d::r,same d x=qz:=λx c=>by
   rcases au.mp c with rfl|c
   ·exact o
   ·exact p x c
  have f: ∀x,same d x=qz->j8 x=qz:=λx c=>by
   cases d<;>simp[j8]at l
   cases x<;>simp[same]at c
   rfl
  have e:iC d=qz->∀x,same d x=qz->iC x=qz:=λi x c=>by
   cases d<;>simp[j8]at l
   rename_i j
   cases x<;>simp[same]at c
   rename_i m
   cases j with
   |nil=>simp[iC]at i
   |cons a j=>
    cases m with
    |nil=>simp[bI]at c
    |cons b m=>rfl
  refine⟨λx c y n=>Bc (sd x c) (sd y n),λx c=>⟨f x (sd x c),by rw[(wW (sd x c)).2.2];exact t⟩,λg x c=>?_⟩
  have i:iC d=qz:=by
   rcases(Bool.or_eq_true _ _).mp s with q|q
   ·have:r=[]:=by simpa using q
    subst this
    simp at g
   ·exact q
  exact e i x (sd x c)
section
variable{prog:Program}{w:World}{A:Around}{Ex:cg}{s:Shared}
mutual
theorem yR{h h':Heap}(k: ∀b o,o.cls= .type "tuple"->h.get? b=qv o->h'.get? b=qv o): ∀{d:PyData} {v:Value} {as:List Addr},hk d=qz->Reads h v d as->Reads h' v d as
 |_,_,_,_,.none=>.none
 |_,_,_,_,.int i t=>.int i t
 |_,_,_,hd,.tuple e c q r=>.tuple (k _ _ c e) c q (cL k (by simpa[hk]using hd) r)
 |_,_,_,hd,.bool _=>by simp[hk]at hd
 |_,_,_,hd,.str _ _=>by simp[hk]at hd
 |_,_,_,hd,.list _ _ _ _=>by simp[hk]at hd
 |_,_,_,hd,.dict _ _ _ _ _=>by simp[hk]at hd
theorem cL{h h':Heap}(k: ∀b o,o.cls= .type "tuple"->h.get? b=qv o->h'.get? b=qv o): ∀{ds:List PyData} {vs:List Value} {as:List Addr},hks ds=qz->ReadsAll h vs ds as->ReadsAll h' vs ds as
 |_,_,_,_,.nil=>.nil
 |_,_,_,hd,.cons a b=>by
  simp only[hks,av]at hd;exact .cons (yR k hd.1 a) (cL k hd.2 b)
end
theorem wY{n:Nat}{b fin:Bool}{Q:Bool->Shared->Prop}(hu:A.units+n<cLine): ∀{us vs:List Value} {xs ys:List D} {as bs:List Addr} (i:Nat),ReadsAll s.heap us (bA xs) as->ReadsAll s.heap vs (bA ys) bs->bI xs ys=qz->nL xs<=n->((b&&i==0)=qz->∃k r,xs= .int k::r)->fin=decide (xs.length<ys.length)->Q (fZ (dH xs) (dH ys)) s->KatLex prog w A b fin Q (us.zip vs) i s
 |us,vs,[],[],as,bs,i,c,a,hs,hn,hb,hf,h=>by
  simp only[bA]at c a
  cases c;cases a
  subst hf;exact h
 |us,vs,[],_::_,as,bs,i,c,a,hs,hn,hb,hf,h=>by simp[bI]at hs
 |us,vs,_::_,[],as,bs,i,c,a,hs,hn,hb,hf,h=>by simp[bI]at hs
 |us,vs,x::xs,y::ys,as,bs,i,c,a,hs,hn,hb,hf,h=>by
  simp only[bA]at c a
  cases c with
  |@cons u us _ _ l I g c=>
   cases a with
   |@cons v vs _ _ p G f a=>
    simp only[bI,av]at hs;simp only[nL]at hn;obtain⟨C,B,H⟩:=wW hs.1;have o:=eK B;have m:=eK C;have d:=kr (bO x) (bO y) A s u v l p g f (fX o) (fX m) (by rw[fY,fY];lia)
    rw[gE x y o m,pB hs.1]at d;refine kat_cons (d prog w _ _ ?_);simp only[dH]at h;rw[pD (i7 hs.1)]at h
    by_cases e:fU x=fU y
    ·rw[if_pos e]at h;rw[e,beq_self_eq_true];refine kat_yes (wY hu (i+1) c a hs.2 (by lia) (λz=>by simp at z) ?_ h)
     rw[hf];simp
    ·rw[if_neg e]at h;rw[show(fU x==fU y)=q4 by simpa using e]
     refine kat_no ?_
     cases j:(b&&i==0)with
     |true=>
      obtain⟨k,r,t⟩:=hb j;cases t
      cases y<;>simp[same]at hs
      rename_i k2;simp only[bO]at g f
      cases g;cases f
      have q:fZ (fU (D.int k)) (fU (D.int k2))=decide (k<k2):=by
       have E: ¬k=k2:=λz=>e (by rw[z])
       simp only[fU,fZ,if_neg E]
      rw[q]at h;exact oneLt_int h
     |false=>exact kat_one _ _ (KQ n x y u v l p A s _ _ hs.1 (by lia) g f hu h)
def rY(l:List D):(bA l).length=l.length:=by induction l with|nil=>rfl|cons a l ih=>simp[bA,ih]
theorem i8{h:Heap}: ∀{us:List Value} {ds:List D} {as:List Addr} {i:Nat},ReadsAll h us (bA ds) as->i<ds.length->∃bs,Reads h (us.getD i .none) (bO (ds.getD i .non)) bs
 |_,[],_,_,_,hi=>by cases hi
 |us,d::ds,as,i,r,hi=>by
  simp only[bA]at r
  cases r with
  |@cons u us _ _ c e a b=>
   cases i with
   |zero=>exact⟨c,a⟩
   |succ i=>exact i8 (us:=us) (ds:=ds) b (by simpa using hi)
theorem rZ{h:Heap}: ∀{vs:List Value} {ds:List D} {as:List Addr},ReadsAll h vs (bA ds) as->(∀d∈ds,iC d=qz)->∃fs:List Value,KatTups h vs fs/\fs.length=vs.length/\∀f∈fs, ∃d∈ds, ∃x r bs,d= .tup (x::r)/\Reads h f (bO x) bs
 |_,[],_,r,_=>by
  simp only[bA]at r;cases r;exact⟨[],trivial,rfl,nofun⟩
 |_,d::ds,_,r,hn=>by
  simp only[bA]at r
  cases r with
  |@cons u J _ _ I K l E=>
   obtain⟨fs,s,A,C⟩:=rZ E λx G=>hn x (.tail _ G)
   have p:=hn d (.head _)
   cases d<;>simp[iC]at p
   rename_i i
   cases i with
   |nil=>simp at p
   |cons x i=>
    simp only[bO]at l
    cases l with
    |@tuple a o vs n _ _ B t c e=>
     simp only[bA]at e
     cases b:vs.toList with
     |nil=>rw[b]at e;cases e
     |cons f H=>
      rw[b]at e
      cases e with
      |cons v L=>
       have z:vs[0]? =qv f:=by rw[<-ik,b];rfl
       refine⟨f::fs,KatTups.cons B t c z s,by simp[A],λg j=>?_⟩
       rcases au.mp j with rfl|j
       ·exact⟨_,.head _,x,i,_,rfl,v⟩
       ·obtain⟨y,m,q⟩:=C g j;exact⟨y,.tail _ m,q⟩
def Bg(hu:A.units+9<cLine)(ho:s.heap.get? a=qv (seqObj "list" vs.toArray n))(hr:ReadsAll s.heap vs (bA ds) as)(hd:lL ds=qz)(h64:vs.length<64)(h: ∀p:Array Nat,Gd vs.length p->Srt (O:=Jg) (λi=>fU (ds.getD i .non)) p vs.length->P (.done (.ret .none)) {s with heap:=sortedHeap s.heap a vs (pc (p.toList.map λi=>vs.getD i p3))}):
  wpAny (model prog w) A (Builtin.«list.sort» ⟨[.ref a],[]⟩) P Ex s:=by
 obtain⟨one,X,t⟩:=gU hd
 have bb:vs.length=ds.length:=by rw[ij _ _ _ hr,rY]
 have U: ∀{l:List D},(∀x∈l,same x x=qz)->hks (bA l)=qz:=by
  intro l
  induction l with
  |nil=>intro _;rfl
  |cons x l ih=>intro hl;simp[bA,hks,pC (hl x (.head _)),ih λy hy=>hl y (.tail _ hy)]
 rw[list_sort_plain];have ha:a<s.heap.objs.size:=ah ho;refine aa (listItems_at ho rfl (aa (listUpdate_at ho rfl ?_ (by rw[aw,sizeLine_eq];lia) (cb _))))
 obtain⟨e1,ab⟩: ∃e1,(s.heap.update a (qc λ_=>(#[]:Array Value))).get? a=qv (seqObj "list" #[] e1):=⟨_,get?_update_seq ho λ_=> #[]⟩
 refine aa (seqEpoch_at ab rfl (aa (wpAny_newTuple ?_ (by show vs.length<=_;rw[sizeLine_eq];lia))))
 refine aa (wpAny_newList (wpAny_holding ?_) (cb _))
 have H:(((s.heap.update a (qc λ_=> #[])).push (seqObj "tuple" vs.toArray 0)).push (seqObj "list" #[] 0)).get? a=qv (seqObj "list" #[] e1):=af _ (af _ ab)
 have keep: ∀b o,o.cls= .type "tuple"->s.heap.get? b=qv o->(((s.heap.update a (qc λ_=> #[])).push (seqObj "tuple" vs.toArray 0)).push (seqObj "list" #[] 0)).get? b=qv o:=λb o c e=>by
  have nb:b≠a:=λz=>by subst z;rw[ho]at e;cases e;simp at c
  exact af _ (af _ ((Heap.get?_update_ne _ _ _ _ nb).trans e))
 have M:=cL keep (U λx hx=>one x hx x hx) hr
 show wpAny (model prog w) A _ P Ex {s with heap:=((s.heap.update a (qc λ_=> #[])).push (seqObj "tuple" vs.toArray 0)).push (seqObj "list" #[] 0)}
 dsimp only
 by_cases S:vs.toArray.size<2
 ·rw[if_pos S,if_pos S];refine aa (ae ?_);rw[StateT.run_pure];refine aa (ae ?_)
  dsimp only
  have hz:(vs.toArray.zip vs.toArray).size=vs.length:=by simp
  have N:arrOf (SortSt.mk' general' (vs.toArray.zip vs.toArray) #[] 7 qw)=(pc (pw vs.length)).map (kas_item (vs.toArray.zip vs.toArray)):=by
   have:=kas_range (vs.toArray.zip vs.toArray)
   rw[hz]at this;exact this.symm
  have f:=kat_snds rfl N
  have J:((arrOf (SortSt.mk' general' (vs.toArray.zip vs.toArray) #[] 7 qw)).map (·.2)).size<=sizeLine+1:=by rw[f,aw,ao];simp;rw[sizeLine_eq];lia
  refine aa (seqEpoch_at H rfl (aa (listUpdate_at H rfl ?_ (cb _) J)));simp only[bne_self_eq_false,ay,if_false]
  have Y:=h (pc (pw vs.length)) (qg.refl _) λi j bc hj=>by
   rw[aw]at S;rw[show i=j by lia];exact m5 _
  rw[<-f]at Y;exact ae Y
 ·rw[if_neg S,if_neg S]
  have a7:2<=vs.length:=by rw[aw]at S;lia
  obtain⟨fs,f1,f2,f3⟩:=rZ M (t (by lia))
  have a6:0<ds.length:=by lia
  -- the kind of the first things
  obtain⟨T,a5,am,al⟩: ∃T:Value,(T==T)=qz/\(∀v∈fs,Looks (model prog w) (((s.heap.update a (qc λ_=> #[])).push (seqObj "tuple" vs.toArray 0)).push (seqObj "list" #[] 0)) (typeOf v) T)/\((T != qa "tuple")=qz->∀d∈ds, ∃k r,d= .tup (.int k::r)):=by
   obtain⟨d0,K⟩: ∃d0,d0∈ds:=⟨ds[0],lm a6⟩;have hN:=t (by lia) d0 K
   cases d0<;>simp[iC]at hN
   rename_i an
   cases an with
   |nil=>simp at hN
   |cons x0 r0=>
    have sx: ∀d∈ds, ∀x r,d= .tup (x::r)->same x0 x=qz:=λd hd x r e=>by
     have:=one _ K d hd
     rw[e]at this;simp only[same,bI,av]at this;exact this.1
    have ad: ∀d∈ds, ∃x r,d= .tup (x::r):=λd hd=>by
     have hN:=t (by lia) d hd
     cases d<;>simp[iC]at hN
     rename_i xs
     cases xs with
     |nil=>simp at hN
     |cons x r=>exact⟨x,r,rfl⟩
    have a0:=sx _ K x0 r0 rfl
    cases x0<;>try (simp[same]at a0;done)
    ·refine⟨.type "int",by decide,λv hv=>?_,λ_ d hd=>?_⟩
     ·obtain⟨d,hd,x,r,bs,e,W⟩:=f3 v hv
      have:=sx d hd x r e
      cases x<;>simp[same]at this
      simp only[bO]at W;cases W;exact Looks.of_pure rfl
     ·obtain⟨x,r,e⟩:=ad d hd
      have:=sx d hd x r e
      cases x<;>simp[same]at this
      exact⟨_,_,e⟩
    ·refine⟨.type "tuple",by decide,λv hv=>?_,λz=>by simp at z⟩
     obtain⟨d,hd,x,r,bs,e,W⟩:=f3 v hv
     have:=sx d hd x r e
     cases x<;>simp[same]at this
     simp only[bO]at W
     cases W with
     |tuple ar ap bd _=>exact λA Q E s2 k q=>wpAny_typeOf (⟨_,k _ _ ar,ap⟩:s2.TypeIs (.ref _) "tuple") q
  refine aa (kat_kind (T:=T) f1 (by lia) am a5 ?_)
  have hc:Cm (O:=Jg) (λi=>fU (ds.getD i .non)) vs.length (kas_ask prog w A (tuples' (T != qa "tuple")) vs) {s with heap:=((s.heap.update a (qc λ_=> #[])).push (seqObj "tuple" vs.toArray 0)).push (seqObj "list" #[] 0)}:=by
   intro i j C hi hj hC;obtain⟨b1,r1⟩:=i8 M (i:=i) (by lia)
   obtain⟨b2,r2⟩:=i8 M (i:=j) (by lia)
   have mi:ds.getD i .non∈ds:=by
    have Z:i<ds.length:=by lia
    rw[ce,bf Z,lr];exact lm Z
   have mj:ds.getD j .non∈ds:=by
    have ac:j<ds.length:=by lia
    rw[ce,bf ac,lr];exact lm ac
   have m:=one _ mi _ mj;obtain⟨ti,di⟩:=X _ mi;have I:=λz=>al z _ mi
   have L:C (fZ (fU (ds.getD i .non)) (fU (ds.getD j .non))) _:=hC;generalize ds.getD i .non=x at r1 m ti di I L;generalize ds.getD j .non=y at r2 m L;unfold kas_ask
   cases x<;>try (simp[same]at m;done)
   ·simp[j8]at ti
   ·cases y<;>simp[same]at m
    rename_i xs ys;simp only[bO]at r1 r2;generalize vs.getD i p3=u at r1;generalize vs.getD j p3=v at r2
    cases r1 with
    |@tuple a1 o1 us n1 _ _ g1 g2 g3 ra=>
     cases r2 with
     |@tuple a2 o2 ws n2 _ _ k1 k2 k3 rb=>
      simp only[dep]at di;refine kat_lt g1 g3 k1 k3 (wY (n:=8) (by lia) 0 ra rb m (by lia) (λz=>?_) ?_ (by simpa[fU]using L))
      ·have z':(T != qa "tuple")=qz:=by simpa using z
       obtain⟨k,r,e⟩:=I z';exact⟨k,r,by cases e;rfl⟩
      ·have l1:=ij _ _ _ ra;have l2:=ij _ _ _ rb;rw[rY]at l1 l2;rw[<-l1, <-l2];simp
  refine aa (wpAny_mono (kat_run (Q:=λB s'=>∃p:Array Nat,s'={s with heap:=((s.heap.update a (qc λ_=> #[])).push (seqObj "tuple" vs.toArray 0)).push (seqObj "list" #[] 0)}/\arrOf B=p.map (kas_item (vs.toArray.zip vs.toArray))/\failedOf B=qw/\Gd vs.length p/\Srt (O:=Jg) (λi=>fU (ds.getD i .non)) p vs.length)
   (G:=λp s'=>s'={s with heap:=((s.heap.update a (qc λ_=> #[])).push (seqObj "tuple" vs.toArray 0)).push (seqObj "list" #[] 0)}/\Gd vs.length p/\Srt (O:=Jg) (λi=>fU (ds.getD i .non)) p vs.length)
   rfl a7 h64 (λp B s' a1 a2 a3 a4=>⟨p,a4.1,a2,a3,a4.2⟩) (GZ hc (by lia) λp g st=>⟨rfl,g,st⟩)) ?_ λ_ _ e=>e)
  rintro⟨⟨⟩,B⟩ s' ⟨p,rfl,N,hf,g,st⟩
  dsimp only
  have f:=kat_snds rfl N
  have J:(pc (p.toList.map λi=>vs.getD i p3)).size=vs.length:=by rw[aw,ao,iy,g.size]
  rw[f];refine aa (seqEpoch_at H rfl (aa (listUpdate_at H rfl ?_ (cb _) (by rw[J,sizeLine_eq];lia))))
  rw[hf];simp only[bne_self_eq_false,ay,if_false];exact ae (h p g st)
def uL{Cd:List Value->Heap->Nat->Prop}{Q:cg}(hu:A.units+11<cLine)(hcol: ∀Q':List Value->Shared->Prop,(∀vs h1 tk,Cd vs h1 tk->Q' vs {s with heap:=h1,toks:=tk})->wpAny (model prog w) A.in1 (collect (.ref l)) Q' Ex s)(h: ∀vs h1 tk,Cd vs h1 tk->∃ds as,ReadsAll h1 vs (bA ds) as/\lL ds=qz/\vs.length<64/\
   ∀(h':Heap) (p:Array Nat) (e:Nat),(∀b o,h1.get? b=qv o->h'.get? b=qv o)->h'.get? h1.objs.size=qv (seqObj "list" (pc (p.toList.map λi=>vs.getD i p3)) e)->Gd vs.length p->Srt (O:=Jg) (λi=>fU (ds.getD i .non)) p vs.length->Q (.ref h1.objs.size) {s with heap:=h',toks:=tk}):
  wpAny (model prog w) A (call (.builtin "sorted") [.ref l]) Q Ex s:=by
 refine ez kind_sorted plain_sorted entry_sorted (args_sorted1 _) ?_;unfold Builtin.«sorted»;refine aa (m:=checkCount "sorted" 1 1 _) (ae ?_);refine aa (hcol _ λvs h1 tk u=>?_)
 obtain⟨ds,as,t,g,d,v⟩:=h vs h1 tk u;refine aa (wpAny_newList ?_ (by rw[sizeLine_eq];first|lia|(simp;lia)))
 have a:(h1.push (seqObj "list" vs.toArray 0)).get? h1.objs.size=qv (seqObj "list" vs.toArray 0):=ag _ rfl
 have c:hks (bA ds)=qz:=by
  obtain⟨one,_,_⟩:=gU g
  have: ∀l:List D,(∀x∈l,same x x=qz)->hks (bA l)=qz:=λl=>by
   induction l with
   |nil=>intro _;rfl
   |cons x l q=>intro f;simp[bA,hks,pC (f x (.head _)),q λy n=>f y (.tail _ n)]
  exact this ds λx j=>one x j x j
 show wpAny _ _ _ _ _ {s with heap:=h1.push (seqObj "list" vs.toArray 0),toks:=tk}
 refine aa (wpAny_holding (wpAny_call_entry slot_list_sort ⟨_,a,rfl⟩ entry_list_sort (Bg (by have:=A.in1_units;have:=A.in1.in1_units;lia) a (cL (λb o _ e=>af _ e) c t) g d λp r B=>⟨_,rfl,?_⟩) (args_list_sort _)))
 obtain⟨e,z⟩:=sortedHeap_at (out:=pc (p.toList.map λi=>vs.getD i p3)) a
 refine ae ⟨_,rfl,v _ p e (λb C q1=>?_) z r B⟩
 have lt:b<h1.objs.size:=ah q1;rw[sortedHeap_old (bj lt) (by rw[ai];exact jz lt),kc _ _ _ (bj lt)]
 exact q1
end
section
variable{prog:Program}{w:World}{A:Around}{I:Addr}{fp wr:List Addr}{G:Array GenState->Array GenState->Prop}{n:Nat}{P:Nat->Value->Prop}{St:Nat->Shared->Prop}{E:cg}{s:Shared}{R:_->Shared->Prop}
structure CmpJ(prog:Program)(w:World)(A:Around)(P:Nat->Value->Prop)(bt:Nat->Nat->Bool)(wr:List Addr)(J:Heap->Prop):Prop where
 cmp: ∀i j vi vj (s:Shared) (Q:cg) (E:cg),j<i->P i vi->P j vj->J s.heap->Q (.bool (bt i j)) s->wpAny (model prog w) A (richCompare .Lt vi vj) Q E s
 keep: ∀h h':Heap,(∀b o,b∉wr->h.get? b=qv o->h'.get? b=qv o)->J h->J h'
theorem jW(bt:Nat->Nat->Bool): ∀j,argBest bt j<=j
 |0=>aj _
 |j+1=>by
  have:=jW bt j
  simp only[argBest];split<;>lia
def Bh{J:Heap->Prop}(W:WalksS prog w A.in1 I fp wr G n P St)(bt:Nat->Nat->Bool)(S:Addr)(C:CmpJ prog w A.in1 P bt (S::wr) J)(hSf:S∉fp):
  ∀(k j:Nat) (s:Shared) (vb:Value) (c:Nat),n-(j+1)=k->j+1<=n->St (j+1) s->J s.heap->P (argBest bt j) vb->
  s.heap.get? S=qv {cls:=.type "list",dict:=qw,data:=.seq #[vb,vb] c,slots:= #[]}->
  (∀v s',P (argBest bt (n-1)) v->Moved (S::wr) G s s'->R (.ok (.ret v)) s')->codeAny (model prog w) A (.builtin "min.loop" ⟨[.ref I,.none,.ref S],[]⟩) R s:=by
 have H:S∉wr:=λh=>hSf (W.sub _ h)
 have a: ∀b∈wr,b∈S::wr:=λb d=>iq _ d
 have l:(toString "min"++toString ".loop":String)="min.loop":=by decide
 have i: ∀{b:Addr},b∉S::wr->S≠b:=λd h=>d (by rw[h];exact jc)
 intro k
 induction k with
 |zero=>
  intro j s vb c hk U x N m E K
  have B:j+1=n:=by lia
  refine codeAny_builtin lu ?_;rw[iw lx _];show wpAny _ A.in1 (seqItems? (.ref S) >>= _) _ _ s;refine aa (wpAny_seqItems E rfl ?_);show wpAny _ A.in1 (tryCatch (pyNext (.ref I)) _ >>= _) _ _ s;refine aa (wpAny_tryCatch (W.done s _ _ (B▸x) λs' u=>?_))
  have f:=u.heap S _ H E;show wpAny _ A.in1 (updateSeq S (λ_=> #[]) >>= _) _ _ _
  refine aa ?_;refine wpAny_updateSeq f rfl (aa (wpAny_letGo (ae ?_)));exact K vb _ (by rw[<-B];exact m) ((u.mono a).then_heap (tk:=s'.toks) (aj _) λb o d e=>(gu _ _ (i d)).trans e)
 |succ k O=>
  intro j s vb c hk U x N m E K;have y:j+1<n:=by lia
  refine codeAny_builtin lu ?_;rw[iw lx _];show wpAny _ A.in1 (seqItems? (.ref S) >>= _) _ _ s;refine aa (wpAny_seqItems E rfl ?_);show wpAny _ A.in1 (tryCatch (pyNext (.ref I)) _ >>= _) _ _ s;refine aa (wpAny_tryCatch (W.item (j+1) s _ _ y x λv s' Q p u=>?_))
  have f:=u.heap S _ H E;have q:J s'.heap:=C.keep _ _ (λb o d e=>u.heap b o (λz=>d (a _ z)) e) N
  have T:=jW bt j;show wpAny _ A.in1 (tryCatch (holding [v,v] (richCompare .Lt v vb >>= _)) _ >>= _) _ _ _;refine aa (wpAny_tryCatch (wpAny_holding (aa (C.cmp (j+1) (argBest bt j) v vb _ _ _ (by lia) Q m q ?_))))
  refine aa (wpAny_holding (wpAny_truthy_bool ?_));refine aa (wpAny_letGo (ae ?_))
  cases d:bt (j+1) (argBest bt j)with
  |true=>
   simp only[if_true];refine aa ?_;refine wpAny_updateSeq f rfl (aa (wpAny_letGo ?_));rw[l]
   refine ae ⟨plainId_quiet lx _,O (j+1) _ v _ (by lia) y (W.frame _ s' _ s'.toks p (aj _) λb M o e=>?_) ?_ (by simp only[argBest,d,if_true];exact Q) (ie _ f rfl)
    λL t r g=>?_⟩
   ·exact(gu _ _ (λh:S=b=>hSf (by rw[h];exact M))).trans e
   ·exact C.keep _ _ (λb o d e=>(gu _ _ (i d)).trans e) q
   ·exact K L t r (pq W.gtrans ((u.mono a).then_heap (by first|exact aj _|exact ph _|lia) λb o d e=>(gu _ _ (i d)).trans e) g)
  |false=>
   simp only[ay,if_false];refine aa (wpAny_letGo ?_);rw[l];refine ae ⟨plainId_quiet lx _,O (j+1) _ vb c (by lia) y p q (by simp only[argBest,d,ay,if_false];exact m) f λL t r g=>?_⟩
   exact K L t r (pq W.gtrans (u.mono a) g)
def yS(W:WalksS prog w A.in1 I fp wr G n P St)(bt:Nat->Nat->Bool)(S:Addr)(C:CmpJ prog w A.in1 P bt (S::wr) J)(hSf:S∉fp)(hn:0<n){s:Shared}(hst:St 0 s)(hJ:J s.heap)(hS:s.heap.get? S=qv {cls:=.type "list",dict:=qw,data:=.seq #[] c,slots:= #[]})(hR: ∀v s',P (argBest bt (n-1)) v->Moved (S::wr) G s s'->R (.ok (.ret v)) s'):codeAny (model prog w) A (.builtin "min.loop" ⟨[.ref I,.none,.ref S],[]⟩) R s:=by
 have r:S∉wr:=λh=>hSf (W.sub _ h)
 have f: ∀b∈wr,b∈S::wr:=λb a=>iq _ a
 have g:(toString "min"++toString ".loop":String)="min.loop":=by decide
 have d: ∀{b:Addr},b∉S::wr->S≠b:=λa h=>a (by rw[h];exact jc)
 refine codeAny_builtin lu ?_;rw[iw lx _];show wpAny _ A.in1 (seqItems? (.ref S) >>= _) _ _ s;refine aa (wpAny_seqItems hS rfl ?_);show wpAny _ A.in1 (tryCatch (pyNext (.ref I)) _ >>= _) _ _ s;refine aa (wpAny_tryCatch (W.item 0 s _ _ hn hst λv s' y l t=>?_))
 have i:=t.heap S _ r hS;have u:J s'.heap:=C.keep _ _ (λb o a e=>t.heap b o (λz=>a (f _ z)) e) hJ
 show wpAny _ A.in1 (updateSeq S (λ_=> #[v,v]) >>= _) _ _ _
 refine aa ?_;refine wpAny_updateSeq i rfl ?_;rw[g];refine ae ⟨plainId_quiet lx _,Bh W bt S C hSf _ 0 _ v _ rfl hn (W.frame _ s' _ s'.toks l (aj _) λb q o e=>?_) (C.keep _ _ (λb o a e=>(gu _ _ (d a)).trans e) u) y (ie _ i rfl) λx p m j=>?_⟩
 ·exact(gu _ _ (λh:S=b=>hSf (by rw[h];exact q))).trans e
 ·exact hR x p m (pq W.gtrans ((t.mono f).then_heap (by first|exact aj _|exact ph _|lia) λb o a e=>(gu _ _ (d a)).trans e) j)
def Bi{x:Value}{Q:cg}
  (h:wpAny (model prog w) A.in1 (pyIter x) (λit s₂=>∃I fp wr G n P St bt J,it= .ref I/\WalksS prog w A.in1 I fp wr G n P St/\St 0 s₂/\(∀b∈fp,b<s₂.heap.objs.size)/\0<n/\CmpJ prog w A.in1 P bt (s₂.heap.objs.size::wr) J/\J s₂.heap/\
   ∀v s',P (argBest bt (n-1)) v->Moved wr G s₂ s'->Q v s') E s):
  wpAny (model prog w) A (call (.builtin "min") [x]) Q E s:=by
 have a:(toString "min"++toString ".loop":String)="min.loop":=by decide
 refine call_function_tree F.kind_min F.plain_min F.entry_min (F.args_min1 _) ?_;show wpAny _ A.in1 (ee "min" ["key","default"] 0 ⟨[],[]⟩ >>= _) _ _ s;refine aa (wpAny_of_eq (show ee "min" ["key","default"] 0 ⟨[],[]⟩=pure [qw,qw] from rfl) ?_)
 refine aa (ae ?_);refine aa (wpAny_mono h (λit s₂ c=>?_) λ_ _ e=>e)
 obtain⟨I,fp,wr,G,n,P,St,bt,J,rfl,W,f,g,m,C,j,l⟩:=c;refine aa (wpAny_newObj_type ?_);have i:s₂.heap.objs.size∉fp:=λd=>nv _ (g _ d)
 rw[a];refine ae ⟨plainId_quiet lx _,yS W bt s₂.heap.objs.size C i m (W.frame 0 s₂ _ s₂.toks f (aj _) λb _ o e=>af _ e) (C.keep _ _ (λb o _ e=>af _ e) j) (ag _ rfl) λv s' p d=>?_⟩
 exact l v s' p (Moved.drop_new (tk:=s₂.toks) d (aj _))
end
def Nu(ds:List D): ∀(d:D) (r:List D),ds=d::r->∀j,j<ds.length->ds.getD (argBest (λi j=>ltD (ds.getD i .non) (ds.getD j .non)) j) .non=Ah d (r.take j):=by
 intro d r f j
 induction j with
 |zero=>intro _;subst f;simp[argBest,Ah]
 |succ j c=>
  intro m;have c:=c (by lia)
  have g:j<r.length:=by subst f;simpa using m
  have a:ds.getD (j+1) .non=r[j]:=by subst f;simp[g]
  have n:r.take (j+1)=r.take j++[r[j]]:=(List.take_append_getElem g).symm
  have o: ∀(d:D) (l:List D) (x:D),Ah d (l++[x])=if ltD x (Ah d l)then x else Ah d l:=by
   intro d l
   induction l generalizing d with
   |nil=>intro x;cases h:ltD x d<;>simp[Ah,h]
   |cons y l b=>intro x;simp only[lh,Ah];exact b _ x
  rw[n,o, <-c];simp only[argBest]
  by_cases h:ltD r[j] (ds.getD (argBest (λi j=>ltD (ds.getD i .non) (ds.getD j .non)) j) .non)=qz
  ·have e:ltD (ds.getD (j+1) .non) (ds.getD (argBest (λi j=>ltD (ds.getD i .non) (ds.getD j .non)) j) .non)=qz:=by rw[a];exact h
   rw[if_pos e,if_pos h];exact a
  ·have e: ¬ltD (ds.getD (j+1) .non) (ds.getD (argBest (λi j=>ltD (ds.getD i .non) (ds.getD j .non)) j) .non)=qz:=by rw[a];exact h
   rw[if_neg e,if_neg h]
section
variable{X:Cx}{ad:Ad}{G:Hp}
theorem r8{ds:List D}{vs:List V}(h:aJ X.K ad G ds vs): ∀{l:List Nat},(∀i∈l,i<ds.length)->aJ X.K ad G (l.map λi=>ds.getD i .non) (l.map λi=>vs.getD i .non)
 |[],_=>aJ.nil
 |i::l,hl=>by
  have a:=hl i (.head _);obtain⟨v,e,r⟩:=h.get (bf a);refine aJ.cons ?_ (r8 h λj d=>hl j (.tail _ d))
  have b:ds.getD i .non=ds[i]:=by simp[a]
  have c:vs.getD i .non=v:=by simp[e]
  show Rep X.K ad G (ds.getD i .non) (vs.getD i .non);rw[b,c];exact r
theorem sA{vs:List V}{us:List Value}(h:bQ vs us): ∀{l:List Nat},(∀i∈l,i<vs.length)->bQ (l.map λi=>vs.getD i .non) (l.map λi=>us.getD i .none)
 |[],_=>.nil
 |i::l,hl=>by
  have a:=hl i (.head _);obtain⟨u,e,r⟩:=h.get (bf a);refine .cons ?_ (sA h λj d=>hl j (.tail _ d))
  have b:vs.getD i .non=vs[i]:=by simp[a]
  have c:us.getD i .none=u:=by simp[e]
  show bG (vs.getD i .non) (us.getD i .none);rw[b,c];exact r
def EZ(hd:lL ds=qz):hks (bA ds)=qz:=by
 obtain⟨one,_,_⟩:=gU hd
 have: ∀l:List D,(∀x∈l,same x x=qz)->hks (bA l)=qz:=λl=>by
  induction l with
  |nil=>intro _;rfl
  |cons x l d=>intro a;simp[bA,hks,pC (a x (.head _)),d λy c=>a y (.tail _ c)]
 exact this ds λx b=>one x b x b
def sB(hd:lL ds=qz):bC ds=qz:=by
 obtain⟨one,_,_⟩:=gU hd
 have: ∀l:List D,(∀x∈l,same x x=qz)->bC l=qz:=λl=>by
  induction l with
  |nil=>intro _;rfl
  |cons x l d=>intro a;simp[bC,eK (a x (.head _)),d λy c=>a y (.tail _ c)]
 exact this ds λx b=>one x b x b
def yT(hu:X.A.units+62<cLine){σ:St}(I:Inv X cf σ H s)(hG:Same G H)(q:Seq X ad G H x v)(ru:bG v u)(e1:items x=qv ds)(hr:RK X.K ad G H (kQ ds) Q E):
  wpAny (model X.prog X.w) X.A (call (.builtin "sorted") [u]) (EP X cf σ Q) X.xe s:=by
 unfold kQ at hr
 by_cases g:(lL ds&&decide (ds.length<64))=qz
 ·rw[if_pos g]at hr;rw[av,decide_eq_true_eq]at g;obtain⟨h,ab⟩:=g;obtain⟨p,r,rfl,Y,M⟩:=q.items hG e1
  cases (show u=qj p from ru)
  obtain⟨T,o,d,n,W,N,h2,h3,t⟩: ∃T o d n,(T="list"\/T="tuple")/\s.heap.get? p=qv o/\o.cls= .type T/\o.data= .seq (pc d) n/\bQ r d:=by
   rcases Y with z|z
   ·obtain⟨d,L,⟨o,a,b,n,c⟩,_⟩:=I.tuple z.2;exact⟨"tuple",o,d,n,.inr rfl,a,b,c,L⟩
   ·obtain⟨d,L,pl,_⟩:=I.list z.2;obtain⟨o,a,b,n,c⟩:=pl.isList;exact⟨"list",o,d,n,.inl rfl,a,b,c,L⟩
  have Z:=M.length;have l2:=t.length;obtain⟨as,ra⟩:=eO I hG (sB h) M t
  have C:d.toArray.size<=sizeLine:=by rw[sizeLine_eq];simp;lia
  refine uL (Cd:=λf N S=>f=d/\(∀b o,s.heap.get? b=qv o->N.get? b=qv o)/\S=s.toks) (by lia) (λQ' y=>wpAny_collect_seq (hsz:=C) p W N h2 h3 λj k1=>y _ j s.toks ⟨rfl,k1,rfl⟩) ?_
  rintro f j S ⟨rfl,k1,rfl⟩;refine⟨ds,as,cL (λb o _ e=>k1 b o e) (EZ h) ra,h,by lia,λg2 O e k2 J B st=>?_⟩
  have U:Inv X cf σ H {s with heap:=j}:=I.kept (t':=s.toks) k1
  have gs:=B.size
  have lt: ∀i∈O.toList,i<r.length:=λi m=>by
   have:=(qg.mem_iff B).mp (Array.mem_def.mpr m)
   have:i<f.length:=by simpa using this
   lia
  have C:(O.toList.map λi=>r.getD i V.non).length<=sizeLine:=by rw[ao,iy,gs,sizeLine_eq];lia
  refine⟨.ref j.objs.size,_,U.laid (t':=s.toks) k2 (aj _) (show ObjOk X.prog X.w _ g2 _ (.lst _) from⟨C,_,e,sA t lt,J⟩),rfl,hr.ow_new hG ?_ (U.hok.fresh (aj _))⟩
  have P:=r8 M (l:=O.toList) λi m=>by rw[<-Z];exact lt i m
  rw[<-KS (n:=f.length) (gU h).1 (by lia) B st]
  exact P
 ·rw[if_neg g]at hr;exact hr.elim
def yU(hu:X.A.units+62<cLine):BOp X ad (.builtin "sorted") iM:=by
 intro l s j H G x v u Q E I h q g i
 have b:RK X.K ad G H (match items x with|some c=>kR c|none=>.bad) Q E:=i
 cases d:items x with
 |none=>rw[d]at b;exact b.elim
 |some c=>
  rw[d]at b
  have a:RK X.K ad G H (match dX c with
   |some f=>if f.length<64 then .ow ((kO f).map D.int)else .bad
   |none=>kQ c) Q E:=b
  cases e:dX c with
  |some f=>rw[e]at a;exact m7 I h q g d e a
  |none=>rw[e]at a;exact yT hu I h q g d a
def G6(hh:X.A.handled=qw)(hu:X.A.units+62<cLine){σ:St}(I:Inv X cf σ H s)(hG:Same G H)(q:Seq X ad G H x v)(ru:bG v u)(e:items x=qv ds)(hr:RK X.K ad G H (CU ds) Q E):
  wpAny (model X.prog X.w) X.A (call (.builtin "min") [u]) (EP X cf σ Q) X.xe s:=by
 unfold CU at hr
 by_cases l:lL ds=qz
 ·rw[if_pos l]at hr;obtain⟨one,y,_⟩:=gU l
  obtain⟨f,c,rfl⟩: ∃d r,ds=d::r:=by
   cases ds with
   |nil=>cases l
   |cons d r=>exact⟨d,r,rfl⟩
  have B:RK X.K ad G H (.ok (Ah f c)) Q E:=hr;obtain⟨p,Z,rfl,hq,L⟩:=q.items hG e;have C:SqL X.K H p Z\/SqT X.K H p Z:=hq.elim (λz=>.inr z.2) λz=>.inl z.2
  cases (show u=qj p from ru)
  refine Bi (i6 (A:=X.A.in1) hh I C λa s2 I' fp wr ab S W st N h1 h2 h3 T M=>?_)
  obtain⟨as,ra⟩:=eO I hG (sB l) L S;have ld:=L.length;have lv:=S.length;have hn:0<a.length:=by simp at ld;lia
  refine⟨I',fp,wr,_,a.length,_,_,λi j=>ltD ((f::c).getD i .non) ((f::c).getD j .non),λh=>∀b o,s.heap.get? b=qv o->h.get? b=qv o,rfl,W.toS,st,N,hn,⟨λi j Y vj s' Q' E' am n hj O hQ=>?_,λh h' k O b o P=>?_⟩,M,λv s' hv m=>?_⟩
  ·have t:=cL (λb o _ e=>O b o e) (EZ l) ra
   have ac:i<a.length:=(ax.mp n).1;have al:j<a.length:=(ax.mp hj).1;obtain⟨b1,r1⟩:=i8 t (i:=i) (by lia)
   obtain⟨b2,r2⟩:=i8 t (i:=j) (by lia)
   have gi:a.getD i .none=Y:=by rw[ce,n];rfl
   have gj:a.getD j .none=vj:=by rw[ce,hj];rfl
   rw[gi]at r1;rw[gj]at r2
   have g: ∀i,i<(f::c).length->(f::c).getD i .non∈f::c:=λi n=>by
    rw[ce,bf n,lr];exact lm n
   exact KQ 8 _ _ Y vj b1 b2 _ s' Q' E' (one _ (g i (by lia)) _ (g j (by lia))) (y _ (g i (by lia))).2 r1 r2 (by have:=X.A.in1_units;lia) hQ
  ·refine k b o (λz=>?_) (O b o P)
   rcases au.mp z with z|z
   ·have:=ah (M b o P)
    rw[z]at this;exact nv _ this
   ·exact T b o P z
  ·have bd:=Nu (f::c) f c rfl (a.length-1) (by lia)
   have tk:c.take (a.length-1)=c:=List.take_of_length_le (by simp at ld;lia)
   rw[tk]at bd
   have hb:argBest (λi j=>ltD ((f::c).getD i .non) ((f::c).getD j .non)) (a.length-1)<(f::c).length:=by
    have:=jW (λi j=>ltD ((f::c).getD i .non) ((f::c).getD j .non)) (a.length-1)
    lia
   have ed:(f::c)[argBest (λi j=>ltD ((f::c).getD i .non) ((f::c).getD j .non)) (a.length-1)]? =qv (Ah f c):=by
    rw[<-bd,ce,bf hb];rfl
   obtain⟨v',e2,rp⟩:=L.get ed;obtain⟨u',U,J⟩:=S.get e2
   have e4:a[argBest (λi j=>ltD ((f::c).getD i .non) ((f::c).getD j .non)) (a.length-1)]? =qv v:=hv
   rw[e4]at U;cases U;exact⟨v',H,I.moved M T h1 h2 h3 m,J,B.ok_now hG rp⟩
 ·rw[if_neg l]at hr;exact hr.elim
def Ds(hh:X.A.handled=qw)(hu:X.A.units+62<cLine):BOp X ad (.builtin "min") F5:=by
 intro l s j H G x v u Q E I h q f g
 have b:RK X.K ad G H (match items x with|some c=>J8 c|none=>.bad) Q E:=g
 cases e:items x with
 |none=>rw[e]at b;exact b.elim
 |some c=>
  rw[e]at b
  have a:RK X.K ad G H (match dX c with
   |some _=>.bad
   |none=>CU c) Q E:=b
  cases d:dX c with
  |none=>rw[d]at a;exact G6 hh hu I h q f e a
  |some i=>rw[d]at a;exact a.elim
end
noncomputable def ddS(acc:List Nat)(n:Nat):List Nat:=if n∈acc then acc else n::acc
def dd(ns:List Nat):List Nat:=ns.foldl ddS []
section
variable{prog:Program}{w:World}{A:Around}{E:cg}{R:Result->Shared->Prop}{I:Addr}{fp wr:List Addr}{G:Array GenState->Array GenState->Prop}{n:Nat}{P:Nat->Value->Prop}{St:Nat->Shared->Prop}
def G8{Q:cg}(h:Q (.bool (decide (i > j))) s):wpAny (model prog w) A (richCompare .Gt (.int i t) (.int j u)) Q E s:=
 CmpOf.ints_gt (P:=λk v=>(k=0/\v= .int i t)\/(k=1/\v= .int j u)) (λk=>if k=0 then i else j) (λk v hk=>by rcases hk with ⟨rfl,rfl⟩|⟨rfl,rfl⟩<;>exact⟨_,rfl⟩) 0 1 _ _ s Q E (.inl ⟨rfl,rfl⟩) (.inr ⟨rfl,rfl⟩) h
def Bj(W:WalksS prog w A.in1 I fp wr G n P St)(val:Nat->Int)(hval: ∀i v,P i v->∃t,v= .int (val i) t)(S:Addr)(hSf:S∉fp)(kw:List (Str×Value)):
  ∀(k i:Nat) (s:Shared) (m:Int) (tm:Tok) (c:Nat),n-i=k->i<=n->St i s->s.heap.get? S=qv {cls:=.type "list",dict:=qw,data:=.seq #[.int m tm,.int m tm] c,slots:= #[]}->
  (∀s' t',Moved (S::wr) G s s'->R (.ok (.ret (.int (vO m (((pw n).drop i).map val)) t'))) s')->codeAny (model prog w) A (.builtin "max.loop" ⟨[.ref I,.none,.ref S],kw⟩) R s:=by
 have y:S∉wr:=λh=>hSf (W.sub _ h)
 have sub: ∀b∈wr,b∈S::wr:=λb g=>.tail _ g
 have f:(toString "max"++toString ".loop":String)="max.loop":=by decide
 have l: ∀{b:Addr},b∉S::wr->S≠b:=λg h=>g (by rw[h];exact .head _)
 intro k
 induction k with
 |zero=>
  intro i s m tm c hk J r x z
  have B:i=n:=by lia
  subst B;refine codeAny_builtin ia ?_;rw[iw ib _];show wpAny _ A.in1 (seqItems? (.ref S) >>= _) _ _ s;refine aa (wpAny_seqItems x rfl ?_);show wpAny _ A.in1 (tryCatch (pyNext (.ref I)) _ >>= _) _ _ s;refine aa (wpAny_tryCatch (W.done s _ _ r λs' u=>?_))
  have a:=u.heap S _ y x;show wpAny _ A.in1 (updateSeq S (λ_=> #[]) >>= _) _ _ _
  refine aa ?_;refine wpAny_updateSeq a rfl (aa (wpAny_letGo (ae ?_)))
  have:=z _ tm ((u.mono sub).then_heap (tk:=s'.toks) (aj _) λb o g e=>(gu _ (qc λ_=> #[]) (l g)).trans e)
  rw[List.drop_of_length_le (by simp)]at this
  exact this
 |succ k E=>
  intro i s m tm c hk J r x z;have j:i<n:=by lia
  have H:(pw n).drop i=i::(pw n).drop (i+1):=by
   rw[ew (by simpa using j)];simp
  refine codeAny_builtin ia ?_;rw[iw ib _];show wpAny _ A.in1 (seqItems? (.ref S) >>= _) _ _ s;refine aa (wpAny_seqItems x rfl ?_);show wpAny _ A.in1 (tryCatch (pyNext (.ref I)) _ >>= _) _ _ s;refine aa (wpAny_tryCatch (W.item i s _ _ j r λv s' K p u=>?_))
  obtain⟨t,rfl⟩:=hval i v K;have a:=u.heap S _ y x;show wpAny _ A.in1 (tryCatch (holding [.int (val i) t,.int (val i) t] (richCompare .Gt (.int (val i) t) (.int m tm) >>= _)) _ >>= _) _ _ _;refine aa (wpAny_tryCatch (wpAny_holding (aa (G8 ?_))));refine aa (wpAny_holding (wpAny_truthy_bool ?_));refine aa (wpAny_letGo (ae ?_))
  by_cases g:val i > m
  ·rw[decide_eq_true g];simp only[if_true];refine aa ?_;refine wpAny_updateSeq a rfl (aa (wpAny_letGo ?_));rw[f];refine ae ⟨plainId_quiet ib _,E (i+1) _ (val i) t _ (by lia) j (W.frame _ s' _ s'.toks p (aj _) λb C o e=>?_) (ie _ a rfl) λq t' d=>?_⟩
   ·exact(gu _ _ (λh:S=b=>hSf (by rw[h];exact C))).trans e
   ·have:=z q t' (pq W.gtrans ((u.mono sub).then_heap (by first|exact aj _|exact ph _|lia) λb o g e=>(gu _ _ (l g)).trans e) d)
    rw[H,ny]at this;unfold vO at this;rw[if_pos (by lia)]at this
    exact this
  ·rw[decide_eq_false g];simp only[ay,if_false];refine aa (wpAny_letGo ?_);rw[f];refine ae ⟨plainId_quiet ib _,E (i+1) _ m tm _ (by lia) j p a λq t' d=>?_⟩
   have:=z q t' (pq W.gtrans (u.mono sub) d)
   rw[H,ny]at this;unfold vO at this;rw[if_neg (by lia)]at this
   exact this
def Bk(a d:Value):argsOk "max" ⟨[a],[(ox "default",d)]⟩:=by unfold argsOk;kernel_rfl
def Bl{x d:Value}{s:Shared}{Q:cg}
  (h:wpAny (model prog w) A.in1 (pyIter x) (λit s₂=>∃I fp wr G n P St val,it= .ref I/\WalksS prog w A.in1 I fp wr G n P St/\St 0 s₂/\(∀b∈fp,b<s₂.heap.objs.size)/\(∀i v,P i v->∃t,v= .int (val i) t)/\
   (n=0->∀s',Moved wr G s₂ s'->Q d s')/\(0<n->∀s' t',Moved wr G s₂ s'->Q (.int (vO (val 0) (((pw n).drop 1).map val)) t') s')) E s):
  wpAny (model prog w) A (call (.builtin "max") [x] [(ox "default",d)]) Q E s:=by
 have a:(toString "max"++toString ".loop":String)="max.loop":=by decide
 refine wpAny_call (codeAny_call_builtin PySem.F.plain_max PySem.F.entry_max ?_);simp only[checkBuiltinCall,PySem.F.kind_max]
 have g:wpAny (model prog w) A.in1 (Builtin.«max» ⟨[x],[(ox "default",d)]⟩) (λT s'=>match T with
   |.done f=>(match(Except.ok f:Result)with|.ok (.ret v)=>Q v s'|.ok _=>False|.error e=>E e s')
   |.again X=>X.quiet=qz/\codeAny (model prog w) A X (λr s'=>match r with|.ok (.ret v)=>Q v s'|.ok _=>False|.error e=>E e s') s') E s:=by
  show wpAny _ A.in1 (ee "max" ["key","default"] 0 ⟨[],[(ox "default",d)]⟩ >>= _) _ _ s;refine aa (wpAny_of_eq (show ee "max" ["key","default"] 0 ⟨[],[(ox "default",d)]⟩=pure [qw,qv d] from rfl) ?_)
  refine aa (ae ?_);refine aa (wpAny_mono h (λit s₂ p=>?_) λ_ _ e=>e)
  obtain⟨I,fp,wr,G,n,P,St,val,rfl,W,N,O,c,Z,Y⟩:=p;refine aa (wpAny_newObj_type ?_);have l:s₂.heap.objs.size∉fp:=λm=>nv _ (O _ m)
  have J:s₂.heap.objs.size∉wr:=λh=>l (W.sub _ h)
  have sub: ∀b∈wr,b∈s₂.heap.objs.size::wr:=λb C=>.tail _ C
  have B: ∀{b:Addr},b∉s₂.heap.objs.size::wr->s₂.heap.objs.size≠b:=λC h=>C (by rw[h];exact .head _)
  have j:=W.frame 0 s₂ (s₂.heap.push {cls:=.type "list",data:=.seq ([]:List Value).toArray}) s₂.toks N (aj _) λb _ o e=>af _ e
  have U:(s₂.heap.push {cls:=.type "list",data:=.seq ([]:List Value).toArray}).get? s₂.heap.objs.size=qv {cls:=.type "list",data:=.seq ([]:List Value).toArray}:=ag _ rfl;rw[a];refine ae ⟨plainId_quiet ib _,codeAny_builtin ia ?_⟩;rw[iw ib _];show wpAny _ A.in1 (seqItems? (.ref s₂.heap.objs.size) >>= _) _ _ _;refine aa (wpAny_seqItems U rfl ?_);show wpAny _ A.in1 (tryCatch (pyNext (.ref I)) _ >>= _) _ _ _;rcases Nat.eq_zero_or_pos n with z|z
  ·refine aa (wpAny_tryCatch (W.done _ _ _ (by rw[z];exact j) λs' m=>?_))
   show wpAny _ A.in1 (rule _ >>= λ_=>ret d) _ _ _
   exact aa (wpAny_rule (ae (Z z s' (Moved.drop_new (tk:=s₂.toks) (m.mono sub) (aj _)))))
  ·refine aa (wpAny_tryCatch (W.item 0 _ _ _ z j λv s' hP H m=>?_))
   obtain⟨t,rfl⟩:=c 0 v hP;have q:=m.heap _ _ J U;show wpAny _ A.in1 (updateSeq s₂.heap.objs.size (λ_=> #[.int (val 0) t,.int (val 0) t]) >>= _) _ _ _
   refine aa ?_;refine wpAny_updateSeq q rfl ?_;rw[a];refine ae ⟨plainId_quiet ib _,Bj W val c s₂.heap.objs.size l _ _ 1 _ (val 0) t _ rfl z (W.frame _ s' _ s'.toks H (aj _) λb M o e=>?_) (ie _ q rfl) λL t' u=>?_⟩
   ·exact(gu _ _ (λh:s₂.heap.objs.size=b=>l (by rw[h];exact M))).trans e
   ·exact Y z L t' (Moved.drop_new (tk:=s₂.toks) (pq W.gtrans ((m.mono sub).then_heap (by first|exact aj _|exact ph _|lia) λb o C e=>(gu _ _ (B C)).trans e) u) (aj _))
 cases y:Manifest.signature? "max" with
 |none=>exact ae g
 |some S=>
  have K:Bind.checkArgs "max" S ⟨[x],[(ox "default",d)]⟩=pure ():=by
   have:=Bk x d
   simpa only[argsOk,y]using this
  simp only[K];exact ae g
end
noncomputable def iv:Value->Int
 |.int n _=>n
 |_=>0
section
variable{ad:Ad}
def Ha(hg:L2.Gl X "max")(hm:X.mg "max"=qw)(hh:X.A.handled=qw)(ha:ML X ad a f)(he:starEach [a] X.env=(q4,eval a X.env)::starEach [] X.env):
  ME X ad (.Call (.Name "max" p) [a] [⟨qv "default",.Constant (.int i) cj cp,kp⟩] pos) (aB (Ai i) [f]):=by
 refine λP s Y H Q I h9=>h9.el λG ρ E hG hS hx J=>?_
 unfold aB at J;rw[oW]at J;refine wpAny_Call_Name_kw (gB (u:=.builtin "max") I hg hm (by decide+kernel) ?_ (by decide) (by decide))
 refine callWith_kw (L2.thn (b8 ha cZ he pos P s Y H (λr c=>∃v d h,r=[v]/\Step G H h c/\Seq X ad h c d v/\RK X.K ad h c (Ai i [d]) Q E) I ?_) λus o ⟨r,c,I1,r1,v,d,h,e1,st,q,k⟩=>?_) (by rw[he];rfl) (by rw[he];rfl) rfl rfl
 ·exact uF hG hS hx J λv d h c st q k=>⟨v,d,h,rfl,st,q,k⟩
 ·subst e1;obtain⟨u,rfl,ru⟩:=mU r1;refine kws_cons (wpAny_Constant_int (kws_nil ?_));show wpAny _ _ (call (.builtin "max") [u] [(ox "default",.int i o.toks)]) _ _ {o with toks:=o.toks+1}
  have C:Inv X P Y c {o with toks:=o.toks+1}:=I1.kept (t':=o.toks+1) (h':=o.heap) λ_ _ e=>e
  have t:RK X.K ad h c (match(items d).bind dX with|some g=>.ok (.int (Nc i g))|none=>.bad) Q E:=k
  cases e:items d with
  |none=>rw[e]at t;exact t.elim
  |some Z=>
   rw[e]at t
   have k2:RK X.K ad h c (match dX Z with|some g=>.ok (.int (Nc i g))|none=>.bad) Q E:=t
   cases B:dX Z with
   |none=>rw[B]at k2;exact k2.elim
   |some g=>
    rw[B]at k2;obtain⟨b,r,rfl,hq,rq⟩:=q.items st.gh e;have y:SqL X.K c b r\/SqT X.K c b r:=hq.elim (λz=>.inr z.2) λz=>.inl z.2
    cases (show u=qj b from ru)
    have ev:=lQ B rq;subst ev;refine Bl (i6 (A:=X.A.in1) hh C y λl s2 I' fp wr ab T W M N L x h3 S U=>?_)
    have O:l.length=g.length:=by rw[<-T.length,ao]
    refine⟨I',fp,wr,_,l.length,_,_,λi=>g.getD i 0,rfl,W.toS,M,N,λi v e=>EO T e,λz s' m=>?_,λz s' t' m=>?_⟩
    ·have:g=[]:=List.length_eq_zero_iff.mp (by lia)
     subst this;exact⟨.int i,c,C.moved U S L x h3 m,⟨_,rfl⟩,k2.ok_now st.gh bF⟩
    ·cases g with
     |nil=>rw[List.length_nil]at O;lia
     |cons n g=>
      refine⟨.int (vO n g),c,C.moved U S L x h3 m,⟨t',?_⟩,k2.ok_now st.gh bF⟩
      have e3:((pw l.length).drop 1).map (λi=>(n::g).getD i 0)=g:=by
       rw[O,bu,gy,List.drop_one,List.tail_cons,pd];apply lj
       ·simp
       ·intro j L x;simp[x]
      rw[e3];rfl
end
section
variable{h h':Heap}{d:Addr}{o:Obj}{es:Array DictEntry}{ep:Nat}
def Dt(ho:h.get? d=qv o)(hd:o.data= .dict es ep)(hs:oo d h h')(hu:h.get? a=qv u)(hq:u.data= .seq vs n):h'.get? a=qv u:=by
 have b:a≠d:=λz=>by
  subst z;rw[ho]at hu;cases hu;rw[hd]at hq;cases hq
 exact(hs.2 a b).trans hu
mutual
theorem rk1(ho:h.get? d=qv o)(hd:o.data= .dict es ep)(hs:oo d h h'): ∀(k:PyData) (v:Value) (as:List Addr),hk k=qz->Reads h v k as->Reads h' v k as
 |.none,v,as,_,r=>by cases r;exact .none
 |.int i,v,as,_,r=>by cases r;exact .int _ _
 |.tuple xs,v,as,hk',r=>by
  cases r with
  |tuple b e a c=>exact .tuple (Dt ho hd hs b a) e a (rk2 ho hd hs xs _ _ (by simpa[hk]using hk') c)
 |.bool _,_,_,h,_=>by simp[hk]at h
 |.str _,_,_,h,_=>by simp[hk]at h
 |.list _,_,_,h,_=>by simp[hk]at h
 |.dict _,_,_,h,_=>by simp[hk]at h
theorem rk2(ho:h.get? d=qv o)(hd:o.data= .dict es ep)(hs:oo d h h'): ∀(ks:List PyData) (vs:List Value) (as:List Addr),hks ks=qz->ReadsAll h vs ks as->ReadsAll h' vs ks as
 |[],_,_,_,r=>by cases r;exact .nil
 |k::ks,_,_,hk',r=>by
  rw[hks,av]at hk'
  cases r with
  |cons a b=>exact .cons (rk1 ho hd hs k _ _ hk'.1 a) (rk2 ho hd hs ks _ _ hk'.2 b)
end
end
mutual
theorem Nv: ∀x:PyData,hk x=qz->qf x x=qz
 |.none,_=>by simp[qf]
 |.int i,_=>by simp[qf]
 |.tuple xs,h=>by
  rw[qf];exact KU xs (by simpa[hk]using h)
 |.bool _,h=>by simp[hk]at h
 |.str _,h=>by simp[hk]at h
 |.list _,h=>by simp[hk]at h
 |.dict _,h=>by simp[hk]at h
theorem KU: ∀xs:List PyData,hks xs=qz->nz xs xs=qz
 |[],_=>by simp[nz]
 |x::xs,h=>by
  rw[hks,av]at h;rw[nz,Nv x h.1,KU xs h.2];rfl
end
noncomputable instance decPy:DecidableEq PyData:=λa b=>Classical.propDecidable (a=b)
def Mv(h:Heap)(d:PyData)(a:Addr):Prop:=hk d=qz/\d.depth<=8/\∃as,Reads h (.ref a) d as
def Du(prog:Program)(w:World):HeapKind prog w PyData where
 is:=Mv
 hash:=hsh
 draws:=dr
 room:=λA=>A.units+20<cLine
 inj:=λ{h a x y} k1 k2=>by
  obtain⟨a1,_,b1,c1⟩:=k1;obtain⟨a2,_,b2,c2⟩:=k2;exact SeqAt.Reads.unique x y _ b1 b2 (wP _ a1) c1 c2
 keeps:=λ{h h' k a d o es ep} k1 ho hd hs=>by
  obtain⟨a1,a2,b1,c1⟩:=k1;exact⟨a1,a2,b1,rk1 ho hd hs _ _ _ a1 c1⟩
 pyHash:=λ{A E s k a Q} hu k1 hq=>by
  obtain⟨a1,a2,b1,c1⟩:=k1;exact GY 8 k _ b1 A s Q E a1 a2 c1 (by lia) hq
 eqBool:=λ{A E s x y a b Q} hu k1 k2 hq=>by
  obtain⟨a1,a2,b1,c1⟩:=k1;obtain⟨a3,a4,b2,c2⟩:=k2;have e:=kr x y A s (.ref a) (.ref b) b1 b2 c1 c2 (wP _ a1) (wP _ a3) (by lia)
  refine e prog w E Q ?_
  by_cases z:x=y
  ·subst z;rw[decide_eq_true rfl]at hq
   cases q:qf x x with
   |true=>exact hq
   |false=>
    have:=Nv x a1
    rw[this]at q;cases q
  ·rw[decide_eq_false z]at hq
   cases q:qf x y with
   |false=>exact hq
   |true=>exact absurd (uK x y a1 a3 q) z
 quiet:=λ{A E s k a Q} k1 hq=>by
  obtain⟨a1,a2,b1,c1⟩:=k1;exact Dq 8 k _ b1 A s Q E a1 a2 c1 hq
mutual
theorem i9: ∀d:D,hkD d=qz->plain d=qz
 |.non,_=>by simp[plain]
 |.int _,_=>by simp[plain]
 |.tup xs,h=>by simpa[plain]using oA xs (by simpa[hkD]using h)
 |.bl _,h=>by simp[hkD]at h
 |.str _,h=>by simp[hkD]at h
 |.lst _,h=>by simp[hkD]at h
 |.exc _,h=>by simp[hkD]at h
 |.fn _,h=>by simp[hkD]at h
theorem oA: ∀ds:List D,EB ds=qz->bC ds=qz
 |[],_=>by simp[bC]
 |d::ds,h=>by
  have a:hkD d=qz/\EB ds=qz:=by simpa[EB]using h
  simp[bC,i9 d a.1,oA ds a.2]
end
mutual
theorem oB: ∀d:D,hkD d=qz->hk (bO d)=qz/\hsh (bO d)=hD d
 |.non,_=>by simp[bO,hk,hsh,hD]
 |.int _,_=>by simp[bO,hk,hsh,hD]
 |.tup xs,h=>by
  have:=Bm xs (by simpa[hkD]using h)
  simp[bO,hk,hsh,hD,this.1,this.2]
 |.bl _,h=>by simp[hkD]at h
 |.str _,h=>by simp[hkD]at h
 |.lst _,h=>by simp[hkD]at h
 |.exc _,h=>by simp[hkD]at h
 |.fn _,h=>by simp[hkD]at h
theorem Bm: ∀ds:List D,EB ds=qz->hks (bA ds)=qz/\CG (bA ds)=hDs ds
 |[],_=>by simp[bA,hks,CG,hDs]
 |d::ds,h=>by
  have b:hkD d=qz/\EB ds=qz:=by simpa[EB]using h
  have a:=oB d b.1;have c:=Bm ds b.2;simp[bA,hks,CG,hDs,a.1,a.2,c.1,c.2]
end
def eX(h:dD k=qz):j8 k=qz/\hkD k=qz/\dep k<=8:=by
 simp only[dD,av,decide_eq_true_eq]at h;exact⟨h.1.1,h.1.2,h.2⟩
def Bn(h1:dD k=qz)(h2:dD l=qz):deq k l=decide (bO k=bO l):=by
 have b:=(eX h1).2.1;have a:=(eX h2).2.1;rw[<-gE k l (i9 k b) (i9 l a)]
 by_cases z:bO k=bO l
 ·rw[decide_eq_true z,z];exact Nv _ (oB l a).1
 ·rw[decide_eq_false z];refine j3.mpr λq=>z (uK _ _ (oB k b).1 (oB l a).1 q)
noncomputable def mkE(x:Int×Addr×Value):DictEntry:=⟨x.1,.ref x.2.1,x.2.2⟩
def y3(p:D×D)(x:Int×Addr×Value):PyData×Addr×Value:=(bO p.1,x.2.1,x.2.2)
abbrev RX(p:Int×Addr×V)(q:Int×Addr×Value):Prop:=p.1=q.1/\p.2.1=q.2.1/\bG p.2.2 q.2.2
noncomputable def E0(kvs:List (D×D))(es:List (Int×Addr×V))(k:D)(b:Addr)(v:V):List (Int×Addr×V):=
 if tU kvs k then pe (λp e=>if deq p.1 k then(e.1,e.2.1,v)else e) kvs es else es++[(hD k,b,v)]
noncomputable def Jh(kvs:List (D×D))(xs:List (Int×Addr×Value))(k:D)(b:Addr)(u:Value):List (Int×Addr×Value):=
 if tU kvs k then pe (λp e=>if deq p.1 k then(e.1,e.2.1,u)else e) kvs xs else xs++[(hD k,b,u)]
section
variable{K:og}{ad:Ad}
def Bo(h:DL K ad G kvs es):kvs.length=es.length:=nu h
def KW(hk:Rep K ad G k (.ref b))(hd:Rep K ad G d v)(h:DL K ad G kvs es):DL K ad G (putK kvs k d) (E0 kvs es k b v):=by
 unfold putK E0;split
 ·have c: ∀{kvs:List (D×D)} {es:List (Int×Addr×V)},DL K ad G kvs es->DL K ad G (kvs.map (λp=>if deq p.1 k then(p.1,d)else p)) (pe (λp e=>if deq p.1 k then(e.1,e.2.1,v)else e) kvs es):=by
   intro kvs es h
   induction h with
   |nil=>exact .nil
   |@cons p q _ _ r _ a=>
    refine .cons ?_ a
    dsimp only
    by_cases z:deq p.1 k=qz
    ·rw[if_pos z,if_pos z];exact⟨r.1,r.2.1,hd⟩
    ·rw[if_neg z,if_neg z];exact r
  exact c h
 ·exact pv h ⟨rfl,hk,hd⟩
def yV(h: ¬tU kvs k=qz): ∀p∈kvs,deq p.1 k=q4:=λp a=>by
 refine j3.mpr λz=>h ?_
 unfold tU;exact List.any_eq_true.mpr ⟨p,a,z⟩
def Bp(h:KOk kvs)(hk:dD k=qz):KOk (putK kvs k d):=by
 unfold putK;split
 ·have e: ∀p:D×D,(if deq p.1 k then(p.1,d)else p).1=p.1:=λp=>by split<;>rfl
  refine⟨λp a=>?_,?_⟩
  ·obtain⟨q,b,rfl⟩:=aq.mp a;rw[e];exact h.1 q b
  ·refine kf.mpr (h.2.imp λ{p q} z=>?_)
   rw[e,e];exact z
 ·rename_i c;refine⟨λp a=>?_,List.pairwise_append.mpr ⟨h.2,gg _ _,λp a q b=>?_⟩⟩
  ·rcases md.mp a with z|z
   ·exact h.1 p z
   ·rw[ji.mp z];exact hk
  ·rw[ji.mp b];exact yV c p a
def KY(r:bG v u)(kvs:List (D×D))(h:Paired RX es xs):Paired RX (E0 kvs es k b v) (Jh kvs xs k b u):=by
 unfold E0 Jh;split
 ·have f: ∀{es:List (Int×Addr×V)} {xs:List (Int×Addr×Value)},Paired RX es xs->∀kvs:List (D×D),Paired RX (pe (λp e=>if deq p.1 k then(e.1,e.2.1,v)else e) kvs es) (pe (λp e=>if deq p.1 k then(e.1,e.2.1,u)else e) kvs xs):=by
   intro es xs h
   induction h with
   |nil=>intro kvs;cases kvs<;>exact .nil
   |@cons p q _ _ a _ d=>
    intro kvs
    cases kvs with
    |nil=>exact .nil
    |cons c kvs=>
     refine .cons ?_ (d kvs)
     dsimp only
     by_cases z:deq c.1 k=qz
     ·rw[if_pos z,if_pos z];exact⟨a.1,a.2.1,r⟩
     ·rw[if_neg z,if_neg z];exact a
  exact f h kvs
 ·exact pv h ⟨rfl,rfl,r⟩
abbrev HX(p:D×D)(x:Int×Addr×Value):Prop:=x.1=hD p.1
def KZ(hd:DL K ad G kvs es)(hx:Paired RX es xs):Paired HX kvs xs:=by
 induction hd generalizing xs with
 |nil=>cases hx;exact .nil
 |cons r _ a=>
  cases hx with
  |cons b hx=>exact .cons (by show _=_;rw[<-b.1,r.1]) (a hx)
def K0(h:Paired HX kvs xs):Paired HX (putK kvs k d) (Jh kvs xs k b u):=by
 unfold putK Jh;split
 ·have c: ∀{kvs:List (D×D)} {xs:List (Int×Addr×Value)},Paired HX kvs xs->Paired HX (kvs.map (λp=>if deq p.1 k then(p.1,d)else p)) (pe (λp e=>if deq p.1 k then(e.1,e.2.1,u)else e) kvs xs):=by
   intro kvs xs h
   induction h with
   |nil=>exact .nil
   |@cons p q _ _ r _ a=>
    refine .cons ?_ a
    dsimp only
    by_cases z:deq p.1 k=qz
    ·rw[if_pos z,if_pos z];exact r
    ·rw[if_neg z,if_neg z];exact r
  exact c h
 ·exact pv h rfl
def E1(h:Paired HX kvs xs)(hk: ∀p∈kvs,dD p.1=qz):(pe y3 kvs xs).map (entryOfKey (Du prog w))=xs.map mkE:=by
 induction h with
 |nil=>rfl
 |@cons p x _ _ r _ b=>
  show _::_=_::_;rw[b λp a=>hk p (.tail _ a)]
  congr 1
  show(⟨hsh (bO p.1),.ref x.2.1,x.2.2⟩:DictEntry)=⟨x.1,.ref x.2.1,x.2.2⟩
  rw[(oB p.1 (eX (hk p (.head _))).2.1).2, <-r]
def Hb(hr: ∀k b,dD k=qz->Rep K ad G k (.ref b)->Mv h (bO k) b)(hd:DL K ad G kvs es)(hx:Paired RX es xs)(hk: ∀p∈kvs,dD p.1=qz):
  (∀y∈pe y3 kvs xs,Mv h y.1 y.2.1)/\(pe y3 kvs xs).map (·.1)=kvs.map λp=>bO p.1:=by
 induction hd generalizing xs with
 |nil=>cases hx;exact⟨λy a=>by simp at a,rfl⟩
 |@cons p q _ _ r _ c=>
  cases hx with
  |@cons _ x _ xs d hx=>
   obtain⟨g,e⟩:=c hx λp f=>hk p (.tail _ f)
   have i:=hk p (.head _);refine⟨λy a=>?_,?_⟩
   ·rcases au.mp a with rfl|a
    ·have:=hr p.1 q.2.1 i r.2.1
     rw[d.2.1]at this;exact this
    ·exact g y a
   ·show _::_=_::_;rw[e];rfl
def K1(hk:dD k=qz)(hl:kvs.length=xs.length)(ha: ∀p∈kvs,dD p.1=qz):(atKey (pe y3 kvs xs) (bO k)).isSome=tU kvs k:=by
 unfold atKey tU;rw[kg]
 induction kvs generalizing xs with
 |nil=>rfl
 |cons p kvs b=>
  cases xs with
  |nil=>cases hl
  |cons x xs=>
   have i:=b (xs:=xs) (by simpa using hl) λp a=>ha p (.tail _ a)
   show((y3 p x::pe y3 kvs xs).find? _).isSome=_
   rw[my,n4,Bn (ha p (.head _)) hk];show Option.isSome (match decide (bO p.1=bO k)with|true=>qv (y3 p x)|false=>_)=_
   cases decide (bO p.1=bO k)with
   |true=>rfl
   |false=>exact i
def K2(hk:dD k=qz)(hl:kvs.length=xs.length)(ha: ∀p∈kvs,dD p.1=qz):
  storedH (pe y3 kvs xs) (bO k) b u=pe y3 (putK kvs k d) (Jh kvs xs k b u):=by
 unfold storedH putK Jh;rw[K1 hk hl ha]
 by_cases z:tU kvs k=qz
 ·rw[if_pos z,if_pos z,if_pos z];clear z
  induction kvs generalizing xs with
  |nil=>rfl
  |cons p kvs f=>
   cases xs with
   |nil=>cases hl
   |cons x xs=>
    have i:=f (xs:=xs) (by simpa using hl) λp g=>ha p (.tail _ g)
    show putAt (bO k) u (y3 p x)::_=y3 _ _::_;rw[i]
    congr 1
    unfold putAt;have e:=Bn (ha p (.head _)) hk
    by_cases q:bO p.1=bO k
    ·rw[decide_eq_true q]at e
     have a:(if(y3 p x).1=bO k then((y3 p x).1,(y3 p x).2.1,u)else y3 p x)=((y3 p x).1,(y3 p x).2.1,u):=if_pos q
     rw[a]
     dsimp only
     rw[if_pos e,if_pos e];rfl
    ·rw[decide_eq_false q]at e
     have a:(if(y3 p x).1=bO k then((y3 p x).1,(y3 p x).2.1,u)else y3 p x)=y3 p x:=if_neg q
     have c: ¬deq p.1 k=qz:=by rw[e];exact bg
     rw[a]
     dsimp only
     rw[if_neg c,if_neg c]
 ·rw[if_neg z,if_neg z,if_neg z,List.zipWith_append hl];rfl
end
section
variable{X:Cx}{ad:Ad}{σ:St}{H G:Hp}
def _root_.L2.Inv.big(I:Inv X cf σ H s):(s.heap.objs.size==sysModules)=q4:=by
 obtain⟨o,_,_,c,_⟩:=I.mod.glob;have h:=ah (I.bk _ _ c)
 have e:mainGlobals=3:=rfl
 have b:sysModules=1:=rfl
 rw[e]at h;rw[b];exact beq_false_of_ne (λz:s.heap.objs.size=1=>by have a:(3:Nat)<s.heap.objs.size:=h;rw[z]at a;exact absurd a (by decide))
def E3(d:Nk h a es):ObjOk X.prog X.w H h a (dcO a es):=by
 refine⟨d,?_,λg f d k=>?_⟩
 ·obtain⟨_,_,o,_,_,b,_⟩:=d;exact⟨o,b⟩
 ·obtain⟨z,l,o,c,e,b,r⟩:=d;exact⟨z,l,o,c,e,k _ b,r⟩
def tD0:TE:=λ_ H Q=>∀p,H p=qw->Q (.ref p) (upd H p (dcO p (0,[])))
def Dv:PE X (.Dict [] [] pos) tD0:=by
 intro d s f H Q I c;refine wpAny_Dict_empty ?_
 have a:H s.heap.objs.size=qw:=I.hok.fresh (aj _)
 refine⟨.ref s.heap.objs.size,upd H s.heap.objs.size (dcO s.heap.objs.size (0,[])),I.laid (t':=s.toks) (λb u e=>af _ e) (aj _) (E3 ?_),rfl,c _ a⟩
 exact⟨I.big,by decide,_, #[],[],ag _ rfl,⟨rfl,rfl,rfl⟩,rfl,rfl,.nil⟩
def Hc(hN:X.N.Nodup)(hi:X.N[i]? =qv x)(hx:Loc X.env.scope x)(hs:swapsWith (.Dict [] [] p) (qv (.Name x pos')) pos.line X.env=pure q4)(hf:X.fn x=qz\/X.env.scope.names.lookup x=qv .local):
  MS X ad Z (.Assign [.Name x pos'] (.Dict [] [] p) pos) (F6 i):=by
 refine PS.imp (nF hN hi hx Dv hs hf) ?_;rintro d f H ⟨a,G,e,E,S,hx,c⟩;exact λq n=>c _ G _ (S.setNew (Step.own S.st.gh n) n ⟨q,(0,[]),rfl,S.st.gh.free n,aG,.nil,λp b=>by simp at b,.nil⟩)
def Bq(I:Inv X cf σ H s)(hG:Same G H)(hk:dD k=qz)(r:Rep X.K ad G k (.ref b)):Mv s.heap (bO k) b:=by
 obtain⟨e,a,d⟩:=eX hk;obtain⟨c,q⟩:=eG I hG (i9 k a) r (u:=.ref b) rfl;exact⟨(oB k a).1,by rw[fY];exact d,c,q⟩
def Hd(I:Inv X cf σ H s)(hG:Same G H)(ha:H a=qv (dcO a es))(hd:DR X.K ad G kvs es)(hk:KOk kvs):
  (a==sysModules)=q4/\es.2.length<=200000/\∃xs,Paired RX es.2 xs/\s.heap.DictOfH (Du X.prog X.w) a (pe y3 kvs xs):=by
 obtain⟨⟨z,l,o,m,xs,u,t,c,g,d⟩,_,_⟩:=I.hok a _ ha;obtain⟨j,i⟩:=Hb (h:=s.heap) (λk b r x=>Bq I hG r x) hd d hk.1
 refine⟨z,l,xs,d,o,m,es.1,u,t,c,?_,j,?_⟩
 ·rw[g,E1 (KZ hd d) hk.1];rfl
 ·rw[i];refine kf.mpr ?_
  have:=hk.2
  refine List.Pairwise.imp_of_mem ?_ this;intro p q n v f e;rw[Bn (hk.1 p n) (hk.1 q v),decide_eq_true e]at f;cases f
def K3(K:og)(ad:Ad):V->V->V->Hp->(Hp->Prop)->Prop:=λo i v H Q=>∃a es b k G kvs,o= .ref a/\i= .ref b/\H a=qv (dcO a es)/\Same G H/\DR K ad G kvs es/\KOk kvs/\Rep K ad G k (.ref b)/\dD k=qz/\kvs.length<LIM/\∀n,Q (upd H a (dcO a (n,E0 kvs es.2 k b v)))
def Dw{kvs:List (D×D)}{es:List (Int×Addr×V)}{k:D}{b:Addr}{v:V}:(E0 kvs es k b v).length<=es.length+1:=by
 unfold E0;split
 ·rw[List.length_zipWith];lia
 ·simp
def Dx(hu:X.A.units+62<cLine):JK X (K3 X.K ad):=by
 intro cf s σ H o i v ov iv u Q I ro Z rv h;obtain⟨a,es,b,k,G,f,rfl,rfl,J,M,p,j,rk,hk,N,q⟩:=h;cases ro;cases Z;obtain⟨Y,W,P,y,hm⟩:=Hd I M J p j
 have l:f.length=P.length:=(Bo p).trans (nu y)
 have ab:=Bo p
 have L:LIM=100000:=rfl
 refine wpAny_mono (wpAny_setItem_heap (knd:=Du X.prog X.w) (show X.A.in1.units+20<cLine by have:=X.A.in1_units;lia) (Bq I M hk rk) hm (λh' n U=>?_) (by rw[List.length_zipWith];exact ol (Nat.min_le_left _ _) (ol (om N) (by decide)))) (λ_ _ z=>z) λ_ _ z=>z
 rw[K2 (d:=.non) hk l j.1]at n;obtain⟨S,C,t,m,B,g,E,_⟩:=n;refine⟨_,I.write (x:=a) (e:=a) (t':=_) (by rw[J];trivial) (.inl rfl) (λc u' O T=>(U.2 c O).trans T) ⟨_,m⟩ (E3 ?_),q t⟩
 have r:=KY (k:=k) (b:=b) rv f y;refine⟨Y,by have:= @Dw f es.2 k b v;show(E0 f es.2 k b v).length<=200000;lia,S,C,_,m,B,g,?_,r⟩
 rw[E,E1 (K0 (KZ p y)) (Bp j hk).1];rfl
end
section
variable{X:Cx}{ad:Ad}{cf:ci}{s:Shared}{σ:St}{H G:Hp}{ρ:Rho}{E:St->Nat->Hp->Prop}{pos:Pos}
def Nw(K:og)(ad:Ad):V->V->V->Hp->(Hp->Prop)->Prop:=λo i v H Q=>J3 o i v H Q\/K3 K ad o i v H Q
def Dy(hu:X.A.units+62<cLine):JK X (Nw X.K ad):=λe s d H o i v b iv u Q I f a c h=>
 h.elim (vM e s d H o i v b iv u Q I f a c) (Dx hu e s d H o i v b iv u Q I f a c)
def wZ(hk:dD k=qz)(r:Rep X.K ad G k v): ∃b,v= .ref b:=by
 have h:=(eX hk).1
 cases k<;>try (cases h;done)
 unfold Rep at r;obtain⟨a,_,rfl,_⟩:=r;exact⟨a,rfl⟩
def K4(hu:X.A.units+62<cLine)(hN:X.N[i]? =qv x)(hv:Vis X.env.scope x)(hd:(x==("__debug__":Str))=q4)(hcd:(x==("__classdict__":Str))=q4)(he:ME X ad e f)(hk:ME X ad kx fk)(ha: ∀v,assign (.Subscript (.Name x p) kx tp) X.env v=(do
   let ov<-holding [v] (eval (.Name x p) X.env);let iv<-holding [v,ov] (eval kx X.env)
   standAt tp
   holding [v,ov,iv] (setItem ov iv v)
   release [v,ov,iv] []))(hs:swapsWithSole [.Subscript (.Name x p) kx tp] e pos.line X.env=pure q4)(hw:swappedStores [.Subscript (.Name x p) kx tp] e X.env=pure qw):
  MS X ad Z (.Assign [.Subscript (.Name x p) kx tp] e pos) (ED i fk f):=by
 refine PS.imp (zS he (JM (b9 hN hv hd hcd) hk (Dy (ad:=ad) hu) ha) hs hw rfl) ?_;rintro T Y H ⟨l,G,L,E,S,M,W⟩;unfold ED at W;refine eW S M W λv d G1 H1 st r k=>?_
 cases q:L[i]? with
 |none=>rw[q]at k;exact k.elim
 |some sl=>
  rw[q]at k
  cases sl with
  |no=>exact k.elim
  |sh d=>exact k.elim
  |sd d=>exact k.elim
  |rk _ _=>exact k.elim
  |ow K=>
   obtain⟨a,vs,u,h2,h3,O⟩:=(S.step st).sl.ow q;refine⟨.ref a,u,?_⟩;refine eW (S.step st) M k λv2 y I H2 c t k2=>?_
   obtain⟨g2,s⟩:=eI c h2 h3
   cases y<;>try exact az k2
   rename_i j;unfold Rep at t;subst t
   have g:OKo X ad l (match ixD K.length j with|some m=>.nx (L.set i (.ow (K.set m d)))|none=>.rt .bad) T E:=k2
   cases q2:ixD K.length j with
   |none=>rw[q2]at g;exact g.elim
   |some m=>
    rw[q2]at g;have r4:=O.mono c.sg;refine .inl ⟨a,vs,j,m,rfl,rfl,s,by rw[O.length, <-vS];exact q2,?_⟩
    exact g Y I _ (((S.step st).step c).upd q u g2 (aJ.set (r.mono c.sg) m r4))
  |dc h=>
   obtain⟨a,es,u,h2,h3,O,h5⟩:=(S.step st).sl.dc q;refine⟨.ref a,u,?_⟩;refine eW (S.step st) M k λv2 y I H2 c t k2=>?_
   have U:=(S.step st).step c;obtain⟨P,J,C,s,Q,B,z⟩:=U.sl.dc q
   have ea:P=a:=by rw[u]at C;cases C;rfl
   subst ea
   have g:OKo X ad l (if(dD y&&decide (h.length<LIM))=qz then .nx (L.set i (.dc (putK h y d)))else .rt .bad) T E:=k2
   by_cases o:(dD y&&decide (h.length<LIM))=qz
   ·rw[if_pos o]at g;rw[av,decide_eq_true_eq]at o;obtain⟨b,rfl⟩:=wZ o.1 t;refine .inr ⟨P,J,b,y,I,h,rfl,rfl,Q,c.gh,B,z,t,o.1,o.2,?_⟩;exact λn=>g Y I _ (U.updG q rfl u ⟨P,_,rfl,s,aG,KW t (r.mono c.sg) B,Bp z o.1⟩)
   ·rw[if_neg o]at g;exact g.elim
def RK.bool_share{E:Nat->Hp->Prop}(hb:(∃b,r= .ok (.bl b))\/r= .bad)(g:G a=qw)(k:RK X.K ad G H r Q E):RK X.K ad (upd G a (.lst vs)) H r Q E:=by
 rcases hb with ⟨b,rfl⟩|rfl
 ·intro v f m st q
  have l:v= .bl b:=by unfold Rep at q;exact q
  subst l;refine k (.bl b) (λc=>if c=a then qw else f c) m ⟨λc u e=>?_,λc u e=>?_,st.sh,λc i j=>?_⟩ bS
  ·have h:c≠a:=aY e g
   show(if c=a then qw else f c)=qv u
   rw[if_neg h];exact st.sg c u (by rw[aD h];exact e)
  ·have d:(if c=a then qw else f c)=qv u:=e
   by_cases z:c=a
   ·rw[if_pos z]at d;cases d
   ·rw[if_neg z]at d;exact st.gh c u d
  ·have d:(if c=a then qw else f c)≠qw:=j
   by_cases z:c=a
   ·rw[if_pos z]at d;exact absurd rfl d
   ·rw[if_neg z]at d;exact st.nw c (by rw[aD z];exact i) d
 ·exact k
def He{E:Nat->Hp->Prop}(hu:X.A.units+62<cLine)(I:Inv X cf σ H s)(hG:Same G H)(qx:Seq X ad G H x v)(qy:Seq X ad G H y w)(ru:bG v u)(rz:bG w z)(k:RK X.K ad G H (fC op x y) Q E):wpAny (model X.prog X.w) X.A (compareOp op u z) (EP X cf σ Q) X.xe s:=by
 have l:=Ap (op:=op) (x:=x) (y:=y)
 -- the left one is shared for the time
 have sh: ∀{G:Hp} {a:Addr} {vs:List V} {ds:List D},Same G H->H a=qv (.lst vs)->aJ X.K ad G ds vs->Same (upd G a (.lst vs)) H/\Rep X.K ad (upd G a (.lst vs)) (.lst ds) (.ref a):=λ{G a vs ds} hG h2 h3=>by
  have st:G a=qw\/G a=qv (.lst vs):=by
   cases q:G a with
   |none=>exact .inl rfl
   |some o=>rw[hG a o q]at h2;exact .inr h2
  have m:Same G (upd G a (.lst vs)):=λb o e=>by
   by_cases d:b=a
   ·subst d;rcases st with q|q
    ·rw[q]at e;cases e
    ·rw[aG, <-q];exact e
   ·rw[aD d];exact e
  refine⟨λb o e=>?_,?_⟩
  ·by_cases d:b=a
   ·subst d;rw[aG]at e;cases e;exact h2
   ·rw[aD d]at e;exact hG b o e
  ·unfold Rep;exact⟨a,vs,rfl,SqL.of aG,h3.mono m⟩
 have f: ∀{G:Hp} {a:Addr} {vs:List V},G a=qw->Same G (upd G a (.lst vs)):=λg=>Same.upd_new g
 have c: ∀{G:Hp},Same G H->Rep X.K ad G x v->Seq X ad G H y w->RK X.K ad G H (fC op x y) Q E->wpAny (model X.prog X.w) X.A (compareOp op u z) (EP X cf σ Q) X.xe s:=λ{G} hG rx qy k=>by
  rcases qy with ry|⟨a,vs,ds,rfl,rfl,g1,h2,h3⟩
  ·exact gF op hu cf s σ H G x y v w u z Q E I hG rx ry ru rz k
  ·obtain⟨i,h⟩:=sh hG h2 h3;exact gF op hu cf s σ H _ x _ v _ u z Q E I i (rx.mono (f g1)) h ru rz (k.bool_share l g1)
 rcases qx with rx|⟨a,vs,ds,rfl,rfl,g1,h2,h3⟩
 ·exact c hG rx qy k
 ·obtain⟨i,h⟩:=sh hG h2 h3;refine c i h ?_ (k.bool_share l g1);rcases qy with ry|⟨a',vs',ds',rfl,rfl,g1',h2',h3'⟩
  ·exact .inl (ry.mono (f g1))
  ·by_cases j:a'=a
   ·subst j;rw[h2]at h2';cases h2';refine .inl ?_;unfold Rep;exact⟨a',vs,rfl,SqL.of aG,h3'.mono (f g1)⟩
   ·exact .inr ⟨a',vs',ds',rfl,rfl,by rw[aD j];exact g1',h2',h3'.mono (f g1)⟩
def Br{E:Nat->Hp->Prop}(hu:X.A.units+62<cLine)(ha:MLk X ad a f)(hb:MLk X ad b g)(I:Inv X cf σ H s)(hG:Same G H)(hS:SL X.K ad G H ρ σ)(hx:XP X ad σ E)(hr:RK X.K ad G H (bH op f g ρ) Q E):
  wpAny (model X.prog X.w) X.A (eval a X.env) (λu s1=>wpAny (model X.prog X.w) X.A (eval b X.env) (λz s2=>wpAny (model X.prog X.w) X.A (compareOp op u z) (EP X cf σ Q) X.xe s2) X.xe s1) X.xe s:=by
 refine L2.thn (ha cf s σ H G ρ (λx=>(g ρ).bind λy=>fC op x y) Q E I hG hS hx hr) λu s1 h=>?_
 obtain⟨v,m,p,n,o,i,d,q1,k1⟩:=h;refine L2.thn (hb cf s1 σ n p ρ (λy=>fC op m y) Q E o d.gh (hS.step d) hx k1) λz s2 e=>?_
 obtain⟨w,q,r,H2,j,l,c,q2,k2⟩:=e;exact He hu j c.gh (Seq.step q1 c) q2 i l k2
def Hf(hu:X.A.units+62<cLine)(ha:MLk X ad a f)(hb:MLk X ad b g)(hm:behindInMarks op b=q4):ME X ad (.Compare a [op] [b] pos) (bH op f g):=by
 refine λj s m H Q I d=>d.el λG l E e c i h=>?_
 exact wpAny_Compare1 (Br hu ha hb I e c i h) hm
def pH{op:CmpOp}{a b:Expr}{F':F}(hm:behindInMarks op b=q4)
  (go: ∀{cf:ci} {s:Shared} {σ:St} {H G:Hp} {ρ:Rho} {Q:VK} {E:Nat->Hp->Prop},Inv X cf σ H s->Same G H->SL X.K ad G H ρ σ->XP X ad σ E->RK X.K ad G H (F' ρ) Q E->
   wpAny (model X.prog X.w) X.A (eval a X.env) (λu s1=>wpAny (model X.prog X.w) X.A (eval b X.env) (λz s2=>wpAny (model X.prog X.w) X.A (compareOp op u z) (EP X cf σ Q) X.xe s2) X.xe s1) X.xe s):MT X ad (.Compare a [op] [b] pos) F':=by
 refine λcf s σ H Q I j=>j.el λG ρ E m f p t g=>?_
 refine wpAny_isTrue_Compare1 (L2.thn (go I m f p g) λv s1 h=>L2.thn h λu s2 n=>L2.thn n λc r o=>?_) hm
 obtain⟨x,i,l,d,k,e,q⟩:=o;subst e;cases d;exact wpAny_truthy_bool ⟨i,l,q⟩
def Hg(hu:X.A.units+62<cLine)(ha:MLk X ad a f)(hb:MLk X ad b g)(hm:behindInMarks op b=q4):MT X ad (.Compare a [op] [b] pos) (bH op f g):=
 pH hm λI h c e d=>Br hu ha hb I h c e d
def uM{E':cg}(h:wpAny (model X.prog X.w) A (compareOp .In x y) (λv s=>∃b,v= .bool b/\Q b s) E' s):wpAny (model X.prog X.w) A (contains y x) Q E' s:=λc p a=>by
 have t:=h c p a;rw[show compareOp .In x y=(contains y x >>= λb=>pure (.bool b)) from rfl,Sem.wp_bind']at t
 refine Sem.wp_mono _ _ _ (λb f d q=>?_) (λ_ _ _ q=>q) _ _ t
 rw[Sem.wp_pure']at q;obtain⟨g,e,q⟩:=q;cases e;exact q
def Bs{E:Nat->Hp->Prop}(hu:X.A.units+62<cLine)(I:Inv X cf σ H s)(hG:Same G H)(ru:bG v u)(rx:Rep X.K ad G x v)(hk:dD x=qz)(ha:H a=qv (dcO a es))(hd:DR X.K ad G kvs es)(hko:KOk kvs)(k:RK X.K ad G H (inK op (tU kvs x)) Q E):wpAny (model X.prog X.w) X.A (compareOp op u (.ref a)) (EP X cf σ Q) X.xe s:=by
 obtain⟨b,rfl⟩:=wZ hk rx;cases ru;obtain⟨m,i,l,n,j⟩:=Hd I hG ha hd hko
 have d:kvs.length=l.length:=(Bo hd).trans (nu n)
 have h:wpAny (model X.prog X.w) X.A (contains (.ref a) (.ref b)) (λc f=>c=tU kvs x/\Inv X cf σ H f) X.xe s:=by
  refine uM (wpAny_in_heap (knd:=Du X.prog X.w) (show X.A.in1.units+20<cLine by have:=X.A.in1_units;lia) (Bq I hG hk rx) m j ⟨_,rfl,?_⟩)
  rw[K1 hk d hko.1];exact⟨rfl,I.tok _⟩
 cases op<;>try exact az k
 ·rw[show compareOp .In (.ref b) (.ref a)=(contains (.ref a) (.ref b) >>= λb=>pure (.bool b)) from rfl]
  refine aa (L2.thn h λc f e=>ae ?_)
  obtain⟨rfl,g⟩:=e;exact⟨.bl _,H,g,rfl,k.ok_now hG bS⟩
 ·rw[show compareOp .NotIn (.ref b) (.ref a)=(contains (.ref a) (.ref b) >>= λb=>pure (.bool !b)) from rfl]
  refine aa (L2.thn h λc f e=>ae ?_)
  obtain⟨rfl,g⟩:=e;exact⟨.bl _,H,g,rfl,k.ok_now hG bS⟩
def E4{E:Nat->Hp->Prop}(hN:X.N[i]? =qv x)(hv:Vis X.env.scope x)(hd:(x==("__debug__":Str))=q4)(hcd:(x==("__classdict__":Str))=q4)(hu:X.A.units+62<cLine)(ha:MLk X ad a f)(I:Inv X cf σ H s)(hG:Same G H)(hS:SL X.K ad G H ρ σ)(hx:XP X ad σ E)(hr:RK X.K ad G H (J9 op f i ρ) Q E):
  wpAny (model X.prog X.w) X.A (eval a X.env) (λu s1=>wpAny (model X.prog X.w) X.A (eval (.Name x p) X.env) (λz s2=>wpAny (model X.prog X.w) X.A (compareOp op u z) (EP X cf σ Q) X.xe s2) X.xe s1) X.xe s:=by
 refine L2.thn (ha cf s σ H G ρ (λx=>match ρ[i]? with
  |some (.dc c)=>if dD x then inK op (tU c x)else .bad
  |some (.sd c)=>if dD x then inK op (tU c x)else .bad
  |_=>.bad) Q E I hG hS hx hr) λu s1 t=>?_
 obtain⟨v,g,M,n,S,J,d,q1,k1⟩:=t;have B:=hS.step d
 cases e:ρ[i]? with
 |none=>rw[e]at k1;exact k1.elim
 |some U=>
  rw[e]at k1
  have look: ∀(w:V),σ[i]? =qv (qv w)->(∀z s2,Inv X cf σ n s2->bG w z->wpAny (model X.prog X.w) X.A (compareOp op u z) (EP X cf σ Q) X.xe s2)->
    wpAny (model X.prog X.w) X.A (eval (.Name x p) X.env) (λz s2=>wpAny (model X.prog X.w) X.A (compareOp op u z) (EP X cf σ Q) X.xe s2) X.xe s1:=λw m h=>by
   refine L2.thn (b9 hN hv hd hcd cf s1 σ n (λC L=>C=w/\L=n) S ⟨w,m,rfl,rfl⟩) λz s2 r=>?_
   obtain⟨C,L,j,l,O,P⟩:=r;subst O;subst P;exact h z s2 j l
  cases U with
  |no=>exact k1.elim
  |rk _ _=>exact k1.elim
  |sh _=>exact k1.elim
  |ow _=>exact k1.elim
  |dc c=>
   obtain⟨b,es,m,T,y,o,q⟩:=B.dc e
   have k2:RK X.K ad M n (if dD g=qz then inK op (tU c g)else .bad) Q E:=k1
   by_cases hk:dD g=qz
   ·rw[if_pos hk]at k2;refine look _ m λz s2 j l=>?_
    cases l;rcases q1 with q1|⟨_,_,ds,rfl,_⟩
    ·exact Bs hu j d.gh J q1 hk y o q k2
    ·exact absurd (eX hk).1 bg
   ·rw[if_neg hk]at k2;exact k2.elim
  |sd c=>
   obtain⟨b,es,m,T,y,o,q⟩:=B.sd e
   have k2:RK X.K ad M n (if dD g=qz then inK op (tU c g)else .bad) Q E:=k1
   by_cases hk:dD g=qz
   ·rw[if_pos hk]at k2;refine look _ m λz s2 j l=>?_
    cases l;rcases q1 with q1|⟨_,_,ds,rfl,_⟩
    ·exact Bs hu j d.gh J q1 hk y o q k2
    ·exact absurd (eX hk).1 bg
   ·rw[if_neg hk]at k2;exact k2.elim
def K5(hN:X.N[i]? =qv x)(hv:Vis X.env.scope x)(hd:(x==("__debug__":Str))=q4)(hcd:(x==("__classdict__":Str))=q4)(hu:X.A.units+62<cLine)(ha:MLk X ad a f)(hm:behindInMarks op (.Name x p)=q4):ME X ad (.Compare a [op] [.Name x p] pos) (J9 op f i):=by
 refine λh s l H Q I c=>c.el λG j E d b g e=>?_
 exact wpAny_Compare1 (E4 hN hv hd hcd hu ha I d b g e) hm
def K6(hN:X.N[i]? =qv x)(hv:Vis X.env.scope x)(hd:(x==("__debug__":Str))=q4)(hcd:(x==("__classdict__":Str))=q4)(hu:X.A.units+62<cLine)(ha:MLk X ad a f)(hm:behindInMarks op (.Name x p)=q4):MT X ad (.Compare a [op] [.Name x p] pos) (J9 op f i):=
 pH hm λI e b d c=>E4 hN hv hd hcd hu ha I e b d c
end
section
variable{E:cg}
def Hh{Q:cg}(hd:(d==sysModules)=q4)(ho:s.heap.get? d=qv o)(hc:o.ExactDict)(hdat:o.data= .dict ar ep)(hQ:Q (.ref s.heap.objs.size) {s with heap:=s.heap.push {cls:=.type "dict_keyiterator",data:=.fields #[.ref d,.int 0 0,.int ar.size 0,.int ep 0]} }):
  wpAny (model prog w) A (pyIter (.ref d)) Q E s:=by
 have ty:s.TypeIs (.ref d) "dict":=⟨o,ho,hc.1⟩;refine wpAny_pyIter_slot ty F.slot_dict_iter (wpAny_call_entry F.slot_dict_iter ty F.entry_dict_iter ?_ (F.args_dict_iter_1 _));unfold Builtin.«dict.__iter__» Builtin.Dict.dictSlotNone;refine aa (aa (wpAny_notOrdered_dict ty ?_));refine ae ?_;unfold Builtin.Dict.showsAll;show wpAny _ _ ((if(d==sysModules)=qz then _ else _) >>= _) _ _ s
 rw[hd,if_neg bg];refine aa (ae (aa (wpAny_dictEntries ho hdat (aa (wpAny_dictEpoch ho hdat ?_)))));refine aa (wpAny_newObj_type (ae ⟨_,rfl,"dict_keyiterator",_,⟨_,ag _ rfl,rfl⟩,d7.lookup,?_⟩));simpa[rawInt]using hQ
def Hi(hit:s.heap.IsKeyIter it d i ar.size ep)(ho:s.heap.get? d=qv o)(hdat:o.data= .dict ar ep)(hi:i<ar.size)(hQ: ∀h',h'.IsKeyIter it d (i+1) ar.size ep->oo it s.heap h'->Q (qv ar[i].key) {s with heap:=h'}):wpAny (model prog w) A (pyNext (.ref it)) Q E s:=by
 obtain⟨f,b,c,a⟩:=id hit;have ty:=hit.typeIs;unfold pyNext;refine aa (wpAny_attempt (wpAny_callSpecial?_slot (name:=ox "__next__") ty d7 (wpAny_call_entry d7 ty d6 ?_ (dz _))));refine aa (ae (aa (aa ?_)))
 first
  |refine aa (wpAny_typeNameOfWhole_keyiter ty (ae (aa (wpAny_fieldsOf b a ?_))))
  |refine aa (wpAny_typeNameOf_keyiter ty (ae (aa (wpAny_fieldsOf b a ?_))))
 have own:Builtin.Dict_items.ownsTuple "dict_keyiterator"=q4:=by decide
 simp only[own,ay,if_false];show wpAny _ _ (if(qj d==p3)=qz then _ else _) _ _ s
 rw[if_neg (show ¬(qj d==p3)=qz from bg)]
 refine aa (ae (aa (wpAny_dictEntries ho hdat ?_)));rw[if_neg (by simp)]
 refine aa (ae (aa (wpAny_dictEpoch ho hdat ?_)));rw[if_neg (by simp)]
 refine ae ?_;simp only[show ¬((i:Int)<0) from by lia,if_false,kb,Array.getElem?_eq_getElem hi]
 refine aa ?_
 first
  |refine aa (wpAny_typeNameOfWhole_keyiter ty (ae (aa (wpAny_isOneOf_keyiter ty ?_))))
  |refine aa (wpAny_typeNameOf_keyiter ty (ae (aa (wpAny_isOneOf_keyiter ty ?_))))
  |refine aa (wpAny_typeNameOfWhole_keyiter ty (ae ?_))
 show wpAny _ _ (setField (.ref it) 1 (rawInt ((i:Int)+1)) >>= _) _ _ s;refine aa (wpAny_setField b a (by simp) ?_)
 have e:(s.heap.update it (Obj.mapFields (·.setIfInBounds 1 (rawInt ((i:Int)+1))))).IsKeyIter it d (i+1) ar.size ep:=
  ⟨_,ie _ b (Obj.isFreed_of_fields (jl a _)),(Obj.cls_mapFields ..).trans c,by rw[jl a];simp[rawInt]⟩
 refine aa (wpAny_holding (aa (wpAny_isOneOf_keyiter (s:={s with heap:=s.heap.update it (Obj.mapFields (·.setIfInBounds 1 (rawInt ((i:Int)+1))))}) e.typeIs ?_)))
 exact ae (ae ⟨_,rfl,ae (hQ _ e (ja ..))⟩)
def Hj(hh:A.handled=qw)(hit:s.heap.IsKeyIter it d i ar.size ep)(ho:s.heap.get? d=qv o)(hdat:o.data= .dict ar ep)(hi:ar.size<=i)(hQ: ∀h',pj it s.heap h'->Q qw {s with heap:=h'}):wpAny (model prog w) A (pyNext (.ref it)) Q E s:=by
 obtain⟨g,e,f,c⟩:=id hit;have ty:=hit.typeIs;unfold pyNext;refine aa (wpAny_attempt (wpAny_callSpecial?_slot (name:=ox "__next__") ty d7 (wpAny_call_entry d7 ty d6 ?_ (dz _))));refine aa (ae (aa (aa ?_)))
 first
  |refine aa (wpAny_typeNameOfWhole_keyiter ty (ae (aa (wpAny_fieldsOf e c ?_))))
  |refine aa (wpAny_typeNameOf_keyiter ty (ae (aa (wpAny_fieldsOf e c ?_))))
 have own:Builtin.Dict_items.ownsTuple "dict_keyiterator"=q4:=by decide
 simp only[own,ay,if_false];show wpAny _ _ (if(qj d==p3)=qz then _ else _) _ _ s
 rw[if_neg (show ¬(qj d==p3)=qz from bg)]
 refine aa (ae (aa (wpAny_dictEntries ho hdat ?_)));rw[if_neg (by simp)]
 refine aa (ae (aa (wpAny_dictEpoch ho hdat ?_)));rw[if_neg (by simp)]
 refine ae ?_;simp only[show ¬((i:Int)<0) from by lia,if_false,kb,Array.getElem?_eq_none hi]
 refine aa ?_
 first
  |refine aa (wpAny_typeNameOfWhole_keyiter ty (ae ?_))
  |refine aa (wpAny_typeNameOf_keyiter ty (ae ?_))
 show wpAny _ _ (setField (.ref it) 0 .none >>= _) _ _ s;refine aa (wpAny_setField e c (by simp) (aa ?_))
 simp only[newExc,newTuple];refine aa (wpAny_newObj_type (aa (m:=firstArgMember _ _) (wpAny_of_eq (a:=p3) (by first|rfl|(simp only[firstArgMember];rfl)) (wpAny_newObj_type ?_ (by size_fits)))) (by size_fits))
 simp only[raiseNew];refine aa (wpAny_handled ?_);rw[show A.in1.handled=qw from hh]
 refine aa (ae (wpAny_throw ?_));refine aa (wpAny_isInstance (b:=qz) (T:="StopIteration") ⟨_,ag _ rfl,rfl⟩ isSubtype_stop ?_);exact ae (hQ _ (((ja ..).extBut.push _).push _))
end
noncomputable def Itd(a:Addr)(ep n:Nat):It:=
 ⟨λi H=>i<n/\∃es,H a=qv (dcO a (ep,es))/\es.length=n,λi H x H'=>H'=H/\∀es,H a=qv (dcO a es)->∃e,es.2[i]? =qv e/\x= .ref e.2.1,λi H=>n<=i/\∃es,H a=qv (dcO a (ep,es))/\es.length=n⟩
theorem sC{α β:Type}{R:α->β->Prop}: ∀{l:List α} {m:List β},Paired R l m->∀{i:Nat} {b:β},m[i]? =qv b->∃a,l[i]? =qv a/\R a b
 |_,_,.nil,i,b,h=>by simp at h
 |_,_,.cons r t,0,b,h=>by simp at h;subst h;exact⟨_,rfl,r⟩
 |_,_,.cons r t,i+1,b,h=>by
  obtain⟨a,e,r⟩:=sC t (i:=i) (b:=b) (by simpa using h)
  exact⟨a,by simpa using e,r⟩
theorem oC{α β:Type}{R:α->β->Prop}: ∀{l:List α} {m:List β},Paired R l m->∀{i:Nat} {a:α},l[i]? =qv a->∃b,m[i]? =qv b/\R a b
 |_,_,.nil,i,b,h=>by simp at h
 |_,_,.cons r t,0,b,h=>by simp at h;subst h;exact⟨_,rfl,r⟩
 |_,_,.cons r t,i+1,b,h=>by
  obtain⟨a,e,r⟩:=oC t (i:=i) (a:=b) (by simpa using h)
  exact⟨a,by simpa using e,r⟩
def Bt{K:og}(a it:Addr)(ep n:Nat):Turn P w K tg (Itd a ep n) [it] it (λi h=>h.IsKeyIter it a i n ep) where
 mem:=by simp
 obj:=λi h st b q=>by
  have e:b=it:=by simpa using q
  subst e;obtain⟨o,e,c,d⟩:=st;exact⟨o,e,λv z=>by rw[d]at z;cases z⟩
 keep:=λi h t st k=>st.at λo e=>k it (by simp) o e
 item:=by
  intro X hP hw hK hc i cf s σ H E I G st Y;subst hP hw hK;obtain⟨J,es,U,L⟩:=Y;obtain⟨⟨z,l,o,ar,B,A,he,f,j,C⟩,_,_⟩:=I.hok a _ U
  have sz:ar.size=n:=by rw[<-iy,j,ao, <-nu C];exact L
  obtain⟨Z,f1,f2,f3,S,T⟩:=G it (by simp)
  have y:i<ar.size:=by rw[sz];exact J
  refine Hi (ar:=ar) (by rw[sz];exact st) A f y λt u sb=>?_
  have I1:Inv X cf σ H {s with heap:=t}:=I.turned (t':=s.toks) (λb o q e=>(sb.2 b q).trans e) Z f1 f3 S T
  have ac:B[i]? =qv (B[i]'(by have:=congrArg pi j;rw[iy,ao]at this;lia)):=bf _
  have key: ∀(es:Nat×List (Int×Addr×V)),Nk s.heap a es->∃e,es.2[i]? =qv e/\ar[i].key= .ref e.2.1:=λes d=>by
   obtain⟨_,_,o',ab,m,x,_,g,p,M⟩:=d
   have eo:o'=o:=by rw[A]at x;cases x;rfl
   subst eo;rw[f]at g;cases g;have Q:i<m.length:=by have:=congrArg pi p;rw[iy,ao]at this;lia
   obtain⟨e,N,r⟩:=sC M (i:=i) (b:=m[i]) (bf _);refine⟨e,N,?_⟩
   have:ar.toList[i]? =qv ⟨m[i].1,.ref m[i].2.1,m[i].2.2⟩:=by rw[p,ju,bf Q];rfl
   rw[ik,Array.getElem?_eq_getElem y]at this;rw[lz this,r.2.1]
  obtain⟨e0,_,k0⟩:=key (ep,es) ⟨z,l,o,ar,B,A,he,f,j,C⟩;obtain⟨oi,e,c,d⟩:=id u;rw[k0];refine⟨_,rfl,zT (s:={s with heap:=t}) e c d (by decide) ⟨.ref e0.2.1,H,I1,rfl,⟨rfl,λO t=>?_⟩,by rw[<-sz];exact u,λb q=>(G b q).1⟩⟩
  obtain⟨N,q1,q2⟩:=key O (I.hok a _ t).1;refine⟨N,q1,?_⟩;rw[qj.inj (k0.symm.trans q2)]
 done:=by
  intro X hP hw hK hc i cf s σ H E I G st Y;subst hP hw hK;obtain⟨J,es,U,L⟩:=Y;obtain⟨⟨z,l,o,ar,B,A,he,f,j,C⟩,_,_⟩:=I.hok a _ U
  have sz:ar.size=n:=by rw[<-iy,j,ao, <-nu C];exact L
  obtain⟨Z,f1,f2,f3,S,T⟩:=G it (by simp)
  exact Hj (ar:=ar) (I.ok.hd hc) (by rw[sz];exact st) A f (by rw[sz];exact J) λt eb=>⟨rfl,I.turned (t':=s.toks) (λb o q e=>eb b o q e) Z f1 f3 S T⟩
 self:=λ_ _ _ _ _ st h=>wpAny_pyIter_keyiter st h
section
variable{ad:Ad}{σ:St}
def Dz(ha:H a=qv (dcO a es))(hd:DR X.K ad G kvs es)(few:es.2.length<=200000):ItH X ad (Itd a es.1 es.2.length) G H (kvs.map (·.1)):=by
 have c:kvs.length=es.2.length:=nu hd
 refine⟨λi f l d st e=>?_,λf l st=>⟨by rw[ao,c];exact aj _,es.2,st.sh _ _ ha,rfl⟩,by rw[ao,c];exact ol few (by decide)⟩
 rw[ju]at e;obtain⟨p,h,rfl⟩:=zMd e;obtain⟨q,b,r⟩:=oC hd h;have j:i<es.2.length:=(ax.mp b).1;refine⟨⟨j,es.2,st.sh _ _ ha,rfl⟩,?_⟩;rintro x H2 ⟨rfl,y⟩;obtain⟨m,g,rfl⟩:=y es (st.sh _ _ ha);rw[b]at g;cases g;exact⟨f,Step.refl st.gh,r.2.1.mono st.sg⟩
def Bu{i:Nat}(hN:X.N[i]? =qv x)(hv:Vis X.env.scope x)(hd:(x==("__debug__":Str))=q4)(hcd:(x==("__classdict__":Str))=q4)(I:Inv X cf σ H s)(hG:Same G H)(h1:σ[i]? =qv (qv (.ref a)))(h3:H a=qv (dcO a es))(h4:DR X.K ad G kvs es)(h5:KOk kvs)(hw: ∀J G' H',Step G H G' H'->ItH X ad J G' H' (kvs.map (·.1))->W J H'):
  wpAny (model X.prog X.w) X.A (eval (.Name x p) X.env) (λv s1=>wpAny (model X.prog X.w) X.A (pyIter v) (PIE X cf σ tg W) X.xe s1) X.xe s:=by
 refine L2.thn (b9 hN hv hd hcd cf s σ H (λj H'=>j= .ref a/\H'=H) I ⟨.ref a,h1,rfl,rfl⟩) λz s1 f=>?_
 obtain⟨j,H',c,n,m,q⟩:=f;subst m;subst q;cases n;obtain⟨B,h,_⟩:=Hd c hG h3 h4 h5;obtain⟨⟨z,l,o,r,E,y,u,d,g,C⟩,_,_⟩:=c.hok a _ h3
 have sz:r.size=es.2.length:=by rw[<-iy,g,ao, <-nu C]
 refine Hh B y u d ?_;refine⟨s1.heap.objs.size,[s1.heap.objs.size],_,_,H',rfl,c.kept (t':=s1.toks) λb o e=>af _ e,Bt a _ es.1 es.2.length,⟨_,ag _ rfl,rfl,by rw[sz];rfl⟩,λb t=>?_,hw _ G H' (Step.refl hG) (Dz h3 h4 h)⟩
 have e:b=s1.heap.objs.size:=by simpa using t
 subst e;exact c.fpOk (aj _) (c.hok.fresh (aj _))
def Hk(hN:X.N[i]? =qv x)(hv:Vis X.env.scope x)(hd:(x==("__debug__":Str))=q4)(hcd:(x==("__classdict__":Str))=q4):MI X ad tg (.Name x p) (lM i):=by
 rintro u s t H W I ⟨G,f,E,o,h,K,c⟩
 have b:lM i f=aI i f->wpAny (model X.prog X.w) X.A (eval (.Name x p) X.env) (λv y=>wpAny (model X.prog X.w) X.A (pyIter v) (PIE X u t tg W) X.xe y) X.xe s:=λz=>
  vY (As hN hv hd hcd) u s t H W I ⟨G,f,E,o,h,K,by rw[<-z];exact c⟩
 cases e:f[i]? with
 |none=>exact b (by unfold lM;rw[e])
 |some J=>
  cases J with
  |no=>exact b (by unfold lM;rw[e])
  |rk _ _=>exact b (by unfold lM;rw[e])
  |sh d=>exact b (by unfold lM;rw[e])
  |ow d=>exact b (by unfold lM;rw[e])
  |dc r=>
   unfold lM at c;rw[e]at c;obtain⟨B,g,l⟩:=c;cases g;obtain⟨a,es,n,C,q,j,m⟩:=h.dc e;exact Bu hN hv hd hcd I o n q j m l
  |sd r=>
   unfold lM at c;rw[e]at c;obtain⟨B,g,l⟩:=c;cases g;obtain⟨a,es,n,C,q,j,m⟩:=h.sd e;exact Bu hN hv hd hcd I o n q j m l
end
end SK
namespace L2
open PySem PySem.Spec PyProof.Rows
section
variable {κ:Type} [DecidableEq κ]
noncomputable def sD(kvs:List (κ×V))(k:κ):Option V:=(kvs.find? λkv=>decide (kv.1=k)).map (·.2)
noncomputable def putK(kvs:List (κ×V))(k:κ)(v:V):List (κ×V):=
 if(kvs.any λkv=>decide (kv.1=k))=qz then kvs.map (λkv=>if kv.1=k then(kv.1,v)else kv)else kvs++[(k,v)]
def DA{k:κ}:sD ([]:List (κ×V)) k=qw:=rfl
def kU{p:κ×V}{r:List (κ×V)}{k:κ}(e:p.1=k):sD (p::r) k=qv p.2:=by simp[sD,my,e]
def kW{p:κ×V}{r:List (κ×V)}{k:κ}(e: ¬p.1=k):sD (p::r) k=sD r k:=by simp[sD,my,e]
theorem w4(k:κ): ∀kvs:List (κ×V),(kvs.any λkv=>decide (kv.1=k))=(sD kvs k).isSome
 |[]=>rfl
 |p::r=>by
  rw[n4]
  by_cases e:p.1=k
  ·simp only[kU e,decide_eq_true e,Bool.true_or,Option.isSome_some]
  ·rw[kW e,decide_eq_false e,Bool.false_or];exact w4 k r
def lZ(kvs:List (κ×V))(k:κ)(v:V):(putK kvs k v).length<=kvs.length+1:=by
 unfold putK;split
 ·rw[ao];lia
 ·rw[bq,bu,List.length_nil];lia
def p5.isSome_eq{o:Option V}{u:Option Value}(r:p5 o u):o.isSome=u.isSome:=by
 cases o with
 |none=>cases u with
  |none=>rfl
  |some _=>exact(show False from r).elim
 |some _=>cases u with
  |none=>exact(show False from r).elim
  |some _=>rfl
theorem p5.getD{o:Option V}{u:Option Value}{d:V}{d':Value}(r:p5 o u)(rd:bG d d'):bG (o.getD d) (u.getD d'):=by
 cases o with
 |none=>cases u with
  |none=>exact rd
  |some _=>exact(show False from r).elim
 |some _=>cases u with
  |none=>exact(show False from r).elim
  |some _=>exact r
def KV.val{kvs:List (κ×V)}{vs:List (κ×Value)}(r:KV kvs vs)(k:κ):p5 (sD kvs k) (valueAt vs k):=by
 unfold KV at r
 induction r with
 |nil=>exact qb
 |@cons p q i c h t f=>
  obtain⟨d,g⟩:=h
  by_cases e:p.1=k
  ·have a:q.1=k:=d.symm.trans e
   have b:valueAt (q::c) k=qv q.2:=by simp[valueAt,my,a]
   rw[kU e,b];exact g
  ·have a: ¬q.1=k:=λz=>e (d.trans z)
   have b:valueAt (q::c) k=valueAt c k:=by simp[valueAt,my,a]
   rw[kW e,b];exact f
theorem KV.any{kvs:List (κ×V)}{vs:List (κ×Value)}(r:KV kvs vs)(k:κ):(kvs.any λkv=>decide (kv.1=k))=vs.any λkv=>decide (kv.1=k):=by
 unfold KV at r
 induction r with
 |nil=>rfl
 |cons h t a=>rw[n4,n4,a,h.1]
def KV.repl{kvs:List (κ×V)}{vs:List (κ×Value)}(r:KV kvs vs)(k:κ){y:V}{u:Value}(ry:bG y u):
  KV (kvs.map λkv=>if kv.1=k then(kv.1,y)else kv) (vs.map λkv=>if kv.1=k then(kv.1,u)else kv):=by
 unfold KV at r ⊢
 induction r with
 |nil=>exact .nil
 |@cons p q d f h t b=>
  rw[ny,ny];refine .cons ?_ b;obtain⟨a,c⟩:=h
  by_cases e:p.1=k
  ·rw[if_pos e,if_pos (a.symm.trans e)];exact⟨a,ry⟩
  ·rw[if_neg e,if_neg (λz=>e (a.trans z))];exact⟨a,c⟩
def KV.put{kvs:List (κ×V)}{vs:List (κ×Value)}(r:KV kvs vs)(k:κ){y:V}{u:Value}(ry:bG y u):KV (putK kvs k y) (stored vs k u):=by
 unfold putK stored;rw[r.any k]
 by_cases e:(vs.any λa=>decide (a.1=k))=qz
 ·rw[if_pos e,if_pos e];exact r.repl k ry
 ·rw[if_neg e,if_neg e];exact pv r ⟨rfl,ry⟩
def KV.keys{kvs:List (κ×V)}{vs:List (κ×Value)}(r:KV kvs vs):kvs.map (·.1)=vs.map (·.1):=by
 unfold KV at r
 induction r with
 |nil=>rfl
 |cons h t a=>rw[ny,ny,a,h.1]
theorem KV.length{kvs:List (κ×V)}{vs:List (κ×Value)}(r:KV kvs vs):kvs.length=vs.length:=nu r
end
def yW(r:bG (kV k) u):(cP P w).is k u=qz:=by
 cases k with
 |inl i=>obtain⟨t,e⟩:=(show ∃t,u=qh i t from r);subst e;exact tX P w i t
 |inr x=>obtain⟨t,e⟩:=(show ∃t,u=qi x t from r);subst e;exact tY P w x t
theorem sE{P:Program}{w:World}: ∀{ks:List Key} {us:List Value},bQ (ks.map kV) us->ItemsAre (cP P w) ks us
 |[],_,r=>by rw[oy]at r;cases r;exact .nil
 |k::ks,_,r=>by
  rw[ny]at r
  cases r with
  |cons h t=>exact .cons (yW h) (sE t)
abbrev KT(H:Hp):List (List Key×V)->List (List Key×Addr×Value)->Prop:=Paired λp q=>p.1=q.1/\H q.2.1=qv (.tup (p.1.map kV))/\bG p.2 q.2.2
def KT.val(r:KT H kvs xs)(k:List Key):p5 (sD kvs k) ((atKey xs k).map (·.2)):=by
 induction r with
 |nil=>exact qb
 |@cons p q i c h t f=>
  obtain⟨d,_,g⟩:=h
  by_cases e:p.1=k
  ·have a:q.1=k:=d.symm.trans e
   have b:atKey (q::c) k=qv q.2:=by simp[atKey,my,a]
   rw[kU e,b];exact g
  ·have a: ¬q.1=k:=λz=>e (d.trans z)
   have b:atKey (q::c) k=atKey c k:=by simp[atKey,my,a]
   rw[kW e,b];exact f
def KT.repl(r:KT H kvs xs)(k:List Key)(ry:bG y u):
  KT H (kvs.map λkv=>if kv.1=k then(kv.1,y)else kv) (xs.map (putAt k u)):=by
 induction r with
 |nil=>exact .nil
 |@cons p q f g h t c=>
  rw[ny,ny];refine .cons ?_ c;obtain⟨a,b,d⟩:=h;unfold putAt
  by_cases e:p.1=k
  ·rw[if_pos e,if_pos (a.symm.trans e)];exact⟨a,b,ry⟩
  ·rw[if_neg e,if_neg (λz=>e (a.trans z))];exact⟨a,b,d⟩
def KT.put(r:KT H kvs xs)(k:List Key)(hb:H b=qv (.tup (k.map kV)))(ry:bG y u):
  KT H (putK kvs k y) (storedH xs k b u):=by
 have e:(kvs.any λa=>decide (a.1=k))=(atKey xs k).isSome:=by
  rw[w4,(r.val k).isSome_eq,kg]
 unfold putK storedH;rw[e]
 by_cases q:(atKey xs k).isSome=qz
 ·rw[if_pos q,if_pos q];exact r.repl k ry
 ·rw[if_neg q,if_neg q];exact pv r ⟨rfl,hb,ry⟩
def KT.keeps(r:KT H kvs xs)(ht: ∀b ys,H b=qv (.tup ys)->H' b=qv (.tup ys)):KT H' kvs xs:=
 Paired.mapP r λ_ _ z=>⟨z.1,ht _ _ z.2.1,z.2.2⟩
def K7(ok:HOk P w H h)(e:Rd H a u):ObjOk P w H h a u:=e.ok ok
def uN(ok:HOk P w H h)(e:Rd H a (.dK kvs)):kvs.length<=sizeLine/\(a==sysModules)=q4/\∃vs,KV kvs vs/\h.DictOf (cP P w) a vs:=
 show ObjOk P w H h a (.dK kvs) from K7 ok e
def K8(ok:HOk P w H h)(e:H a=qv (.dK kvs)):kvs.length<=sizeLine/\(a==sysModules)=q4/\∃vs,KV kvs vs/\h.DictOf (cP P w) a vs:=uN ok (.inl e)
def eX(ok:HOk P w H h)(e:H a=qv (.tup (ks.map kV))):(tupleKind (cP P w)).is h ks a:=by
 obtain⟨_,b,r,⟨o,f,c,n,d⟩,_⟩:=(show ObjOk P w H h a (.tup (ks.map kV)) from ok a _ e)
 exact⟨o,b.toArray,n,f,c,d,by simpa using sE r⟩
def uO(ok:HOk P w H h)(e:Rd H a (.dT kvs)):kvs.length<=sizeLine/\(a==sysModules)=q4/\
  ∃xs,KT H kvs xs/\h.DictOfH (tupleKind (cP P w)) a xs:=by
 obtain⟨z,y,xs,r,o,es,g,j,n,s,d,i⟩:=(show ObjOk P w H h a (.dT kvs) from K7 ok e)
 refine⟨z,y,xs,r,o,es,g,j,n,s,d,λx b=>?_,i⟩
 have all: ∀{l:List (List Key×V)} {m:List (List Key×Addr×Value)},KT H l m->∀x∈m,(tupleKind (cP P w)).is h x.1 x.2.1:=by
  intro l m q
  induction q with
  |nil=>intro x b;exact nomatch b
  |@cons p q v u c t f=>
   intro x b;rcases au.mp b with e|b
   ·subst e;exact eX ok (by rw[<-c.1];exact c.2.1)
   ·exact f x b
 exact all r x b
def Nx(ok:HOk P w H h)(e:H a=qv (.dT kvs)):kvs.length<=sizeLine/\(a==sysModules)=q4/\
  ∃xs,KT H kvs xs/\h.DictOfH (tupleKind (cP P w)) a xs:=uO ok (.inl e)
def uP(H:Hp)(a:Addr)(y:V)(r:Option V):Prop:=
 (∃kvs k,Rd H a (.dK kvs)/\y=kV k/\r=sD kvs k)\/∃kvs k b,Rd H a (.dT kvs)/\y= .ref b/\H b=qv (.tup (k.map kV))/\r=sD kvs k
def Ji(H:Hp)(a:Addr)(y v:V)(H':Hp):Prop:=
 (∃kvs k,H a=qv (.dK kvs)/\y=kV k/\kvs.length<sizeLine/\H'=upd H a (.dK (putK kvs k v)))\/
 ∃kvs k b,H a=qv (.dT kvs)/\y= .ref b/\H b=qv (.tup (k.map kV))/\kvs.length<sizeLine/\H'=upd H a (.dT (putK kvs k v))
theorem uP.k{k:Key}(e:H a=qv (.dK kvs)):uP H a (kV k) (sD kvs k):=.inl ⟨kvs,k,.inl e,rfl,rfl⟩
theorem Ji.k{k:Key}(e:H a=qv (.dK kvs))(hl:kvs.length<sizeLine):Ji H a (kV k) v (upd H a (.dK (putK kvs k v))):=.inl ⟨kvs,k,e,rfl,hl,rfl⟩
section
variable{σ:St}{E:cg}
def Inv.bigK(I:Inv X cf σ H s):sysModules<s.heap.objs.size:=by
 have h:mainGlobals<s.heap.objs.size:=(I.mod.glob.keeps I.bk).lt;exact Nat.lt_trans (by decide) h
def Bv{Q:cg}(hu:A.units+1<cLine)(I:Inv X cf σ H s)(g:uP H a y (qv v))(ry:bG y u)(h: ∀w' s',Inv X cf σ H s'->bG v w'->Q w' s'):
  wpAny (model X.prog X.w) A (getItem (.ref a) u) Q E s:=by
 rcases g with ⟨m,k,e,j,l⟩|⟨m,k,b,e,j,x,l⟩
 ·subst j;obtain⟨z,t,n,d,dd⟩:=uN I.hok e;obtain⟨w',i,c⟩:=p5.some_of (v:=v) (o:=valueAt n k) (by rw[l];exact d.val k)
  exact wpAny_getItem_of (yW ry) dd.mapOf i (h w' _ (I.tok _) c)
 ·subst j
  cases (show u=qj b from ry)
  obtain⟨z,t,r,d,dd⟩:=uO I.hok e;obtain⟨w',i,c⟩:=p5.some_of (v:=v) (o:=(atKey r k).map (·.2)) (by rw[l];exact d.val k)
  obtain⟨p,q,f⟩:=zMd i;refine wpAny_getItem_heap (tupleKind_room_in1 hu) (eX I.hok x) dd q ?_;rw[f];exact h w' _ (I.tok _) c
def Pj{Q:cg}(hu:A.units+1<cLine)(I:Inv X cf σ H s)(g:uP H a y o)(ry:bG y u)(h: ∀s',Inv X cf σ H s'->Q (.bool o.isSome) s'):
  wpAny (model X.prog X.w) A (compareOp .In u (.ref a)) Q E s:=by
 rcases g with ⟨f,k,e,d,l⟩|⟨f,k,b,e,d,j,l⟩
 ·subst d;obtain⟨z,i,m,c,dd⟩:=uN I.hok e;refine wpAny_in_of (yW ry) i dd.mapOf ?_;rw[<-(c.val k).isSome_eq, <-l];exact h _ (I.tok _)
 ·subst d
  cases (show u=qj b from ry)
  obtain⟨z,i,n,c,dd⟩:=uO I.hok e;refine wpAny_in_heap (tupleKind_room_in1 hu) (eX I.hok j) i dd ?_;have q:=(c.val k).isSome_eq;rw[kg]at q;rw[<-q, <-l];exact h _ (I.tok _)
def Hl{Q:cg}(hu:A.units+1<cLine)(I:Inv X cf σ H s)(g:uP H a y o)(ry:bG y u)(h: ∀s',Inv X cf σ H s'->Q (.bool (!o.isSome)) s'):
  wpAny (model X.prog X.w) A (compareOp .NotIn u (.ref a)) Q E s:=by
 rcases g with ⟨f,k,e,d,l⟩|⟨f,k,b,e,d,j,l⟩
 ·subst d;obtain⟨z,i,m,c,dd⟩:=uN I.hok e;refine wpAny_notIn_of (yW ry) i dd.mapOf ?_;rw[<-(c.val k).isSome_eq, <-l];exact h _ (I.tok _)
 ·subst d
  cases (show u=qj b from ry)
  obtain⟨z,i,n,c,dd⟩:=uO I.hok e;refine wpAny_notIn_heap (tupleKind_room_in1 hu) (eX I.hok j) i dd ?_;have q:=(c.val k).isSome_eq;rw[kg]at q;rw[<-q, <-l];exact h _ (I.tok _)
def Bw(I:Inv X cf σ H s)(mu:Mut (H a))(hs:oo a s.heap h')(he: ∃q,h'.get? a=qv q)(new:ObjOk X.prog X.w (upd H a ob) h' a ob):
  Inv X cf σ (upd H a ob) {s with heap:=h',toks:=t'}:=
 I.write (x:=a) (e:=a) mu (.inl rfl) (λb q c z=>(hs.2 b c).trans z) he new
def K9(z:kvs.length<=sizeLine)(hd:(a==sysModules)=q4)(rel:KV kvs vs)(dd:h'.DictOf (cP P w) a vs):
  ObjOk P w H' h' a (.dK kvs):=⟨z,hd,vs,rel,dd⟩
def Bx(hu:A.units+1<cLine)(I:Inv X cf σ H s)(g:Ji H a y v H')(ry:bG y u)(rv:bG v r)(h: ∀s',Inv X cf σ H' s'->Q () s'):
  wpAny (model X.prog X.w) A (setItem (.ref a) u r) Q E s:=by
 rcases g with ⟨f,k,e,n,l,p⟩|⟨f,k,b,e,n,G,l,p⟩
 ·subst n p;obtain⟨z,o,K,d,dd⟩:=K8 I.hok e
  have x:K.length<=sizeLine:=by rw[<-d.length];exact z
  have m:(putK f k v).length<=sizeLine:=by have:=lZ f k v;lia
  refine wpAny_setItem_pairs (hsz:=x) (yW ry) dd λC i t=>h _ ?_
  have O: ∃q,C.get? a=qv q:=let ⟨q,_,_,j,_⟩:=i;⟨q,j⟩
  exact Bw I (by rw[e];exact qb) t O (K9 m o (d.put k rv) i)
 ·subst n p
  cases (show u=qj b from ry)
  obtain⟨z,o,M,d,dd⟩:=Nx I.hok e
  have x:M.length<=sizeLine:=by rw[<-nu d];exact z
  have m:(putK f k v).length<=sizeLine:=by have:=lZ f k v;lia
  refine wpAny_setItem_heap (hsz:=x) (tupleKind_room_in1 hu) (eX I.hok G) dd λC i t=>h _ ?_
  obtain⟨q,es,L,j,P,S,J,_,N⟩:=i;refine Bw I (by rw[e];exact qb) t ⟨q,j⟩ ⟨m,o,_,(d.put k G rv).keeps λc T B=>?_,q,es,L,j,P,S,J,N⟩
  rw[aD (MH B e (λz=>nomatch z))]
  exact B
end
def Ny(i:Expr):Prop:= ∀ov iv,subscripted i q4 ov iv=operate [ov,iv] (getItem ov iv)
def Hm{E:cg}{T id:String}{Q:cg}(hl:typeLookup (.type T) "__getitem__"=pure (qv (.builtin id)))(hs:Ny slice)(h:wpAny (model prog w) A (eval value env) (λo s₁=>wpAny (model prog w) A (eval slice env) (λi s₂=>s₂.TypeIs o T/\wpAny (model prog w) A (getItem o i) Q E s₂) E s₁) E s):
  wpAny (model prog w) A (eval (.Subscript value slice pos) env) Q E s:=by
 refine Subscript_ (wpAny_mono h (λo s₁ e=>wpAny_mono e (λi s₂ a=>?_) λ_ _ x=>x) λ_ _ x=>x)
 obtain⟨f,a⟩:=a;unfold subscriptTail;refine aa ?_;rw[getitemInPython_of_ne f.not_modules];refine aa (wpAny_specialOf f hl ?_)
 have c:wpAny (model prog w) A (subscripted slice q4 o i) (λr b=>wpAny (model prog w) A (letTemporaryGo value o r >>= λ_=>pure r) Q E b) E s₂:=by
  rw[hs o i];exact wpAny_operating (wpAny_mono a (λr b d=>aa (wpAny_letTemporaryGo (ae d))) λ_ _ x=>x)
 first
  |exact ae (aa c)
  |exact aa (ae (aa c))
  |exact aa c
def uQ{σ:St}(I:Inv X cf σ H s)(g:uP H a y o):s.TypeIs (.ref a) "dict":=by
 rcases g with ⟨c,k,e,_,_⟩|⟨c,k,b,e,_,_,_⟩
 ·obtain⟨_,_,d,_,dd⟩:=uN I.hok e;exact dd.typeIs
 ·obtain⟨_,_,f,_,dd⟩:=uO I.hok e;exact dd.typeIs
def Nz(td ty:TE):TE:=λσ H Q=>td σ H λx H1=>ty σ H1 λy H2=>∃a v,x= .ref a/\uP H2 a y (qv v)/\Q v H2
def Pk(ty td:TE):TE:=λσ H Q=>ty σ H λy H1=>td σ H1 λx H2=>∃a o,x= .ref a/\uP H2 a y o/\Q (.bl o.isSome) H2
def Hn(ty td:TE):TE:=λσ H Q=>ty σ H λy H1=>td σ H1 λx H2=>∃a o,x= .ref a/\uP H2 a y o/\Q (.bl (!o.isSome)) H2
def NA(td ty tv:TE):TS:=λD σ H=>tv σ H λv H1=>td σ H1 λx H2=>ty σ H2 λy H3=>∃a H4,x= .ref a/\Ji H3 a y v H4/\D.nx σ H4
def Ho(hu:X.A.units+1<cLine)(ho:PE X o td)(hi:PE X i ty)(hs:Ny i):PE X (.Subscript o i pos) (Nz td ty):=by
 intro e s d H Q I h;refine Hm PySem.F.slot_dict_getitem.lookup hs (thn (ho e s d H _ I h) λu j ⟨x,n,p,l,q1⟩=>thn (hi e j d n _ p q1) λiv r ⟨y,H2,c,m,a,v,f,g,q2⟩=>?_)
 subst f;obtain rfl:u=qj a:=l;exact⟨uQ c g,Bv hu c g m λt z q b=>⟨v,H2,q,b,q2⟩⟩
def La(hu:X.A.units+1<cLine)(hi:PE X i ty)(ho:PE X o td):PC X .In i o (Pk ty td):=by
 intro c s b H Q I h;refine thn (hi c s b H _ I h) λiv j ⟨y,n,p,m,q1⟩=>thn (ho c j b n _ p q1) λu r ⟨x,H2,f,l,a,d,e,g,q2⟩=>?_
 subst e;obtain rfl:u=qj a:=l;exact Pj hu f g m λt q=>⟨.bl d.isSome,H2,q,rfl,q2⟩
def By(hu:X.A.units+1<cLine)(hi:PE X i ty)(ho:PE X o td):PC X .NotIn i o (Hn ty td):=by
 intro c s b H Q I h;refine thn (hi c s b H _ I h) λiv j ⟨y,n,p,m,q1⟩=>thn (ho c j b n _ p q1) λu r ⟨x,H2,f,l,a,d,e,g,q2⟩=>?_
 subst e;obtain rfl:u=qj a:=l;exact Hl hu f g m λt q=>⟨.bl (!d.isSome),H2,q,rfl,q2⟩
def Bz(hu:X.A.units+1<cLine)(ho:PE X o td)(hi:PE X i ty)(hv:PE X value tv)(hs:swapsWith value (qv (.Subscript o i pos')) pos.line X.env=pure q4):
  PS X (.Assign [.Subscript o i pos'] value pos) (NA td ty tv):=by
 intro c s b H D I h;refine wpAny_Assign_Subscript (thn (hv c s b H _ I h) λr m ⟨v,q,t,j,q1⟩=>thn (ho c m b q _ t q1) λu f ⟨x,H2,e,n,q2⟩=>thn (hi c f b H2 _ e q2) λiv B ⟨y,H3,z,p,a,H4,d,g,q3⟩=>?_) hs
 subst d;obtain rfl:u=qj a:=n;exact Bx hu z g p j λC l=>⟨b,H4,l,q3⟩
def DB(h:Heap)(hb:sysModules<h.objs.size):ObjOk P w H (h.push {cls:=.type "dict",data:=.dict #[]}) h.objs.size (.dK []):=
 ⟨cb _,beq_eq_false_iff_ne.mpr (qu (bj hb)),[],.nil,Heap.DictOf.new h⟩
def Lb:TE:=λ_ H Q=>∀p,H p=qw->Q (.ref p) (upd H p (.dK []))
def DC:PE X (.Dict [] [] pos) Lb:=λb s c H Q I h=>
 wpAny_Dict_empty ⟨.ref s.heap.objs.size,_,I.laid (a:=s.heap.objs.size) (o:=.dK []) (t':=s.toks) (λ_ _ q=>af _ q) (aj _) (DB s.heap I.bigK),rfl,h _ (I.hok.fresh (aj _))⟩
structure M1(X:Cx)(o:Expr)(m:Str)(apos:Pos)(e:Expr)(cpos:Pos):Prop where
 base:attributeBase o m X.env (eval o X.env)=eval o X.env
 few:((backTo cpos (starEach [e] X.env)).all (λx=> !x.1)&&(backToKw cpos (keywordEach [] X.env)).all (λx=>x.1.isSome)
  &&decide (([e]:List Expr).length+([]:List Keyword).length+(if([]:List Keyword).isEmpty then 0 else 1)<30))=qz
 line:(apos.endLine==cpos.line)=qz
 trees:backTo cpos (starEach [e] X.env)=[(q4,eval e X.env)]
def IsD(H:Hp)(a:Addr):Prop:=(∃kvs,Rd H a (.dK kvs))\/∃kvs,Rd H a (.dT kvs)
def Lc{σ:St}(I:Inv X cf σ H s)(d:IsD H a):
  s.TypeIs (.ref a) "dict"/\(∀b,qj a= .ref b->∃ob,s.heap.get? b=qv ob/\ob.dict=qw)/\(a==sysModules)=q4:=by
 rcases d with ⟨g,e⟩|⟨g,e⟩
 ·obtain⟨_,h,i,_,dd⟩:=uN I.hok e;refine⟨dd.typeIs,λb q=>?_,h⟩
  cases q;obtain⟨ob,_,_,f,c,_⟩:=dd;exact⟨ob,f,c.2.1⟩
 ·obtain⟨_,h,j,_,dd⟩:=uO I.hok e;refine⟨dd.typeIs,λb q=>?_,h⟩
  cases q;obtain⟨ob,_,_,f,c,_⟩:=dd;exact⟨ob,f,c.2.1⟩
section
variable{σ:St}{E:cg}
def Ld{Q:cg}(hu:A.units+1<cLine)(I:Inv X cf σ H s)(g:uP H a y o)(ry:bG y u)(h: ∀w' s',Inv X cf σ H s'->bG (o.getD .non) w'->Q w' s'):
  wpAny (model X.prog X.w) A (call (.builtin "dict.get") [.ref a,u]) Q E s:=by
 rcases g with ⟨f,k,e,d,l⟩|⟨f,k,b,e,d,j,l⟩
 ·subst d;obtain⟨z,i,n,c,dd⟩:=uN I.hok e;refine call_meetsIn ig dd.typeIs h8 (gf _ _) (meets_dict_get (cP X.prog X.w) a (yW ry) i) ⟨_,dd.mapOf,h _ _ (I.tok _) ?_⟩;rw[l];exact(c.val k).getD rfl
 ·subst d
  cases (show u=qj b from ry)
  obtain⟨z,i,m,c,dd⟩:=uO I.hok e;refine call_meetsIn ig dd.typeIs h8 (gf _ _) (meetsH_dict_get (tupleKind (cP X.prog X.w)) a b i) ⟨tupleKind_room_in1 hu,k,m,eX I.hok j,dd,h _ _ (I.tok _) ?_⟩;rw[l];exact(c.val k).getD rfl
end
def Le(td ty:TE):TE:=λσ H Q=>td σ H λx H1=>∃a,x= .ref a/\IsD H1 a/\ty σ H1 λy H2=>∃o,uP H2 a y o/\Q (o.getD .non) H2
def DD(hu:X.A.units+1<cLine)(ho:PE X o td)(he:PE X e ty)(m:M1 X o "get" apos e cpos):PE X (.Call (.Attribute o "get" apos) [e] [] cpos) (Le td ty):=by
 intro j s f H Q I h;refine wpAny_Call_method m.base m.few m.line PySem.F.plainAttrs_dict ig PySem.F.type_dict_get (thn (ho j s f H _ I h) λu p c=>?_)
 obtain⟨x,t,i,q,a,l,d,q1⟩:=c;subst l;obtain rfl:u=qj a:=q;obtain⟨t1,t2,_⟩:=Lc i d;refine⟨t1,t2,?_⟩;rw[m.trees];refine gw rfl (ir (je (thn (he j p f t _ i q1) λiv B ⟨y,H2,n,r,z,g,q2⟩=>jt ?_)))
 exact Ld hu n g r λC E v b=>⟨_,H2,v,b,q2⟩
section
variable {κ:Type} [DecidableEq κ]
end
end L2
namespace SK
open PySem PySem.Spec PyProof.Rows L2 PySem.W
section
variable{X:Cx}{ad:Ad}{σ:St}{A:Nat}
def jX(hr:RK X.K ad G H (yF A i k ρ) Q E): ∃r,ρ[i]? =qv (.rk A r)/\RK X.K ad G H (k r) Q E:=by
 unfold yF at hr
 cases e:ρ[i]? with
 |none=>rw[e]at hr;exact hr.elim
 |some c=>
  rw[e]at hr
  cases c with
  |rk C r=>
   have a:RK X.K ad G H (if C=A then k r else .bad) Q E:=hr
   by_cases b:C=A
   ·rw[if_pos b]at a;subst b;exact⟨r,rfl,a⟩
   ·rw[if_neg b]at a;exact a.elim
  |no=>exact hr.elim
  |sh d=>exact hr.elim
  |ow d=>exact hr.elim
  |dc d=>exact hr.elim
  |sd d=>exact hr.elim
def pI{K:Frag}(h:HR K ad G held kvs)(x:Str):match eM held x with|none=>sD kvs (qt x)=qw|some d=>∃v,sD kvs (qt x)=qv v/\Rep K ad G d v:=by
 induction h with
 |nil=>exact DA
 |@cons p q f g a t b=>
  unfold eM;rw[my]
  by_cases e:p.1=x
  ·rw[decide_eq_true e];exact⟨q.2,kU (by rw[a.1,e]),a.2⟩
  ·rw[decide_eq_false e]
   have c: ¬q.1=(qt x:L2.Key):=λz=>e (by rw[a.1]at z;exact qt.inj z)
   rw[kW c];exact b
def iF(RC:RkC X.K A)(h:RackIn X.K ad A G H p0 r dx d l1 l2)(hi:σ[i]? =qv (qv (.ref p0)))(hf:[(("held":Str),V.ref d),("done",.ref l1),("undone",.ref l2)].lookup fd=qv v)(na:iA X.K A fd)(q:Q v H):Mj X.K (Jx i) fd σ H Q:=
 ⟨.ref p0,hi,p0,A,dx,_,v,rfl,h.ins,RC.cl,na,hf,q⟩
def E5(RC:RkC X.K A)(hN:X.N[i]? =qv x)(hv:Vis X.env.scope x)(hd:(x==("__debug__":Str))=q4)(hcd:(x==("__classdict__":Str))=q4)(bb:Bool):
  ML X ad (.Attribute (.Name x p) (if bb then "done" else "undone") pos) (Mq A i bb):=by
 refine PE.imp (iX (b9 hN hv hd hcd) rfl) λI H Q g=>?_
 obtain⟨G,y,E,j,l,L,b⟩:=g;unfold Mq yF at b
 cases e:y[i]? with
 |none=>rw[e]at b;exact b.elim
 |some v=>
  rw[e]at b
  cases v with
  |rk C r=>
   have a:LK X ad G H (if C=A then .ok (.lst (Kc bb r))else .bad) Q E:=b
   by_cases f:C=A
   ·rw[if_pos f]at a;subst f;obtain⟨J,B,d,t,q,h,c⟩:=l.rk e;obtain⟨z,s,m⟩:=c.done;obtain⟨u,n,o⟩:=c.undone;cases bb
    ·exact iF RC c h (fd:="undone") rfl RC.n3 (a _ G H (Step.refl j) (.inr ⟨q,u,_,rfl,rfl,c.g2,n,o⟩))
    ·exact iF RC c h (fd:="done") rfl RC.n2 (a _ G H (Step.refl j) (.inr ⟨t,z,_,rfl,rfl,c.g1,s,m⟩))
   ·rw[if_neg f]at a;exact a.elim
  |no=>exact b.elim
  |sh d=>exact b.elim
  |ow d=>exact b.elim
  |dc d=>exact b.elim
  |sd d=>exact b.elim
def Hq(hu:X.A.units+62<cLine)(RC:RkC X.K A)(hN:X.N[i]? =qv x)(hv:Vis X.env.scope x)(hd:(x==("__debug__":Str))=q4)(hcd:(x==("__classdict__":Str))=q4)(hf:ME X ad a f)(hs:Ny a):
  ME X ad (.Subscript (.Attribute (.Name x p) "held" ap) a pos) (qY A i f):=by
 refine PE.imp (Ho (by lia) (iX (b9 hN hv hd hcd) rfl) hf hs) λO H Q g=>?_
 obtain⟨G,U,E,C,h,L,c⟩:=g;unfold qY at c;obtain⟨r,e,c⟩:=jX c;obtain⟨S,M,d,T,P,u,m⟩:=h.rk e;refine iF RC m u (fd:="held") rfl RC.n1 ?_;refine iN C h L c λv t B z st l k=>?_
 obtain⟨J,s,I⟩:=(m.step st).held
 cases t with
 |str y=>
  unfold Rep at l;subst l;have j:=pI I y
  have b:RK X.K ad B z (match eM r.held y with|some d=>.ok d|none=>.bad) Q E:=k
  cases q:eM r.held y with
  |none=>rw[q]at b;exact b.elim
  |some dd=>
   rw[q]at b j;obtain⟨v,n,o⟩:=j;refine⟨d,v,rfl,?_,b.ok_now st.gh o⟩;rw[<-n];exact uP.k (k:=qt y) s
 |_=>exact az k
def Hr(hu:X.A.units+62<cLine)(RC:RkC X.K A)(hN:X.N[i]? =qv x)(hv:Vis X.env.scope x)(hd:(x==("__debug__":Str))=q4)(hcd:(x==("__classdict__":Str))=q4)(hf:ME X ad a f)(hm:M1 X (.Attribute (.Name x p) "held" pos) "get" ap a cp):
  ME X ad (.Call (.Attribute (.Attribute (.Name x p) "held" pos) "get" ap) [a] [] cp) (CW A i f):=by
 refine PE.imp (DD (by lia) (iX (b9 hN hv hd hcd) rfl) hf hm) λW H Q l=>?_
 obtain⟨G,U,E,O,n,z,h⟩:=l;unfold CW at h;obtain⟨r,e,h⟩:=jX h;obtain⟨Y,P,d,T,S,J,m⟩:=n.rk e;obtain⟨b,C,_⟩:=m.held;refine iF RC m J (fd:="held") rfl RC.n1 ⟨d,rfl,.inl ⟨b,.inl C⟩,?_⟩;refine iN O n z h λv I M L st o k=>?_
 obtain⟨j,t,u⟩:=(m.step st).held
 cases I with
 |str y=>
  unfold Rep at o;subst o;have g:=pI u y;have c:RK X.K ad M L (.ok ((eM r.held y).getD .non)) Q E:=k;refine⟨sD j (qt y),uP.k (k:=qt y) t,?_⟩
  cases q:eM r.held y with
  |none=>
   rw[q]at c g;rw[g];exact c.ok_now st.gh (by unfold Rep;rfl)
  |some dd=>
   rw[q]at c g;obtain⟨v,s,B⟩:=g;rw[s];exact c.ok_now st.gh B
 |_=>exact az k
def Lf(hu:X.A.units+62<cLine)(RC:RkC X.K A)(hN:X.N[i]? =qv x)(hv:Vis X.env.scope x)(hd:(x==("__debug__":Str))=q4)(hcd:(x==("__classdict__":Str))=q4)(hf:ME X ad a f)(neg:Bool):
  PC X (if neg then .NotIn else .In) a (.Attribute (.Name x p) "held" ap) (tE X ad (Jf neg A i f)):=by
 have L: ∀(b:Bool) (g:St) (H:Hp) (Q:VK),tE X ad (Jf b A i f) g H Q->tE X ad f g H λy B=>Mj X.K (Jx i) "held" g B λz H2=>∃a o,z= .ref a/\uP H2 a y o/\Q (.bl (b != o.isSome)) H2:=λb g H Q c=>by
  obtain⟨G,t,E,n,h,m,j⟩:=c;unfold Jf at j;refine iN n h m j λv U Y B st J k=>?_
  obtain⟨r,e,k⟩:=jX k;obtain⟨p0,Z,d,l1,l2,W,M⟩:=(h.step st).rk e;refine iF RC M W (fd:="held") rfl RC.n1 ?_;obtain⟨l,S,T⟩:=M.held
  cases U with
  |str y=>
   unfold Rep at J;subst J;have u:=pI T y
   have P:RK X.K ad Y B (.ok (.bl (b != (eM r.held y).isSome))) Q E:=k
   refine⟨d,sD l (qt y),rfl,uP.k (k:=qt y) S,?_⟩
   have es:(sD l (qt y)).isSome=(eM r.held y).isSome:=by
    cases q:eM r.held y with
    |none=>rw[q]at u;rw[u];rfl
    |some dd=>rw[q]at u;obtain⟨v,O,_⟩:=u;rw[O];rfl
   rw[es];exact P.ok_now st.gh (by unfold Rep;rfl)
  |_=>exact az k
 intro C s g H Q I c;cases neg
 ·refine La (by lia) hf (iX (b9 hN hv hd hcd) rfl) C s g H Q I ?_
  obtain⟨G,t,E,n,h,m,j⟩:=L q4 g H Q c;exact⟨G,t,E,n,h,m,by simpa using j⟩
 ·refine By (by lia) hf (iX (b9 hN hv hd hcd) rfl) C s g H Q I ?_
  obtain⟨G,t,E,n,h,m,j⟩:=L qz g H Q c;exact⟨G,t,E,n,h,m,by simpa using j⟩
end
def E6(h1:ltS b a=q4)(h2:ltS c b=q4):ltS c a=q4:=by
 unfold ltS at *;rw[decide_eq_false_iff_not]at *;rw[List.not_lt]at *;exact List.le_trans h1 h2
def BA(h1:ltS a b=q4)(h2:ltS b a=q4):a=b:=by
 unfold ltS at *;rw[decide_eq_false_iff_not]at *;rw[List.not_lt]at *;have e:=List.le_antisymm h2 h1;obtain⟨⟨x⟩⟩:=a;obtain⟨⟨y⟩⟩:=b;cases e;rfl
def DE(h:ltS a b=qz):ltS b a=q4:=by
 unfold ltS at *;rw[decide_eq_true_iff]at h;rw[decide_eq_false_iff_not,List.not_lt];exact List.le_of_lt h
theorem l4(x:Str): ∀l,(Gc x l).Perm (x::l)
 |[]=>nq _
 |y::l=>by
  unfold Gc;split
  ·exact((l4 x l).cons y).trans (qm.swap x y l)
  ·exact nq _
theorem jY: ∀l,(gC l).Perm l
 |[]=>nq _
 |x::l=>(l4 x _).trans ((jY l).cons x)
theorem oE(x:Str): ∀{l:List Str},l.Pairwise (λa b=>ltS b a=q4)->(Gc x l).Pairwise (λa b=>ltS b a=q4)
 |[],_=>by simp[Gc]
 |y::l,h=>by
  rw[jm]at h;unfold Gc;split
  ·rename_i e;rw[jm];refine⟨λz c=>?_,oE x h.2⟩
   rcases au.mp ((l4 x l).mem_iff.mp c)with rfl|c
   ·exact DE e
   ·exact h.1 z c
  ·rename_i e
   have d:ltS y x=q4:=by simpa using e
   rw[jm];refine⟨λz c=>?_,jm.mpr h⟩
   rcases au.mp c with rfl|c
   ·exact d
   ·exact E6 d (h.1 z c)
theorem l5: ∀l,(gC l).Pairwise (λa b=>ltS b a=q4)
 |[]=>.nil
 |x::l=>oE x (l5 l)
theorem w5: ∀{l:List Str} {p:Str},risingS p l=qz->(p::l).Pairwise (λa b=>ltS b a=q4)
 |[],p,_=>by simp
 |x::r,p,h=>by
  unfold risingS at h;rw[av]at h;have d:=w5 h.2
  have e:ltS x p=q4:=by
   have:=h.1
   rw[ltCps_eq]at this;simpa[ltS]using this
  rw[jm];refine⟨λz c=>?_,d⟩
  rcases au.mp c with rfl|c
  ·exact e
  ·exact E6 e ((jm.mp d).1 z c)
def yX(p:m.Perm l)(h:sortedS m=qz):m=gC l:=by
 have c:m.Pairwise (λa b=>ltS b a=q4):=by
  cases m with
  |nil=>exact .nil
  |cons x r=>exact w5 h
 exact fx (λa b _ _ x y=>BA y x) c (l5 l) (p.trans (jY l).symm)
section
variable{Ex:cg}
def uR(S:KdlSrc prog w T r d n P OK)(hh:A.handled=qw)(hok:OK s.heap)(hn:n<=sizeLine)(h: ∀h' tk (vs:List Value),(∀b o,s.heap.get? b=qv o->h'.get? b=qv o)->vs.length=n->(∀j v,vs[j]? =qv v->P j v)->Q vs {s with heap:=h',toks:=tk}):wpAny (model prog w) A (collect (.ref r)) Q Ex s:=by
 have lt:=S.there _ hok;unfold collect;refine aa (wpAny_runValue (codeAny_builtin entry_proto_collect' ?_));refine aa (wpAny_newList (ae ⟨Code.quiet_builtin _ (by decide+kernel),codeAny_builtin entry_list_iadd' ?_⟩))
 refine kdl_extend (A:=A) (R:=λq i=>match q with
  |.ok (.ret v)=>wpAny (model prog w) A (match v with
   |.ref a=>(do
    let o<-load a
    match o.data with
    |.seq m _=>pure m.toList
    |_=>unsupported "internal:collect")
   |_=>unsupported "internal:collect") Q Ex i
  |.ok _=>False
  |.error e=>Ex e i) (s:={s with heap:=s.heap.push (seqObj "list" #[] 0)}) S hh (S.keep _ _ hok λb _ o e=>af _ e) s.heap.objs.size (oq lt.1) (oq lt.2) (.ref s.heap.objs.size) 0 (ag _ rfl) (λh' tk g c hk l f=>?_) hn
 refine aa (wpAny_load l (ae ?_));refine h h' tk g.toList (λb o e=>hk b o (bj (ah e)) (af _ e)) (by rw[iy];exact f.1) λj v e=>f.2 j v (by rw[<-ik];exact e)
def yY{Q:cg}(S:KdlSrc prog w T r d n P OK)(hh:A.handled=qw)(hok:OK s.heap)(h64:n<64)(hP: ∀vs:List Value,vs.length=n->(∀j v,vs[j]? =qv v->P j v)->StrsAre vs ss)(h: ∀(h1 h':Heap) tk (out:List Value) e,(∀b o,s.heap.get? b=qv o->h1.get? b=qv o)->(∀b o,h1.get? b=qv o->h'.get? b=qv o)->h'.get? h1.objs.size=qv (seqObj "list" out.toArray e)->StrsAre out (gC ss)->Q (.ref h1.objs.size) {s with heap:=h',toks:=tk}):
  wpAny (model prog w) A (call (.builtin "sorted") [.ref r]) Q Ex s:=by
 refine ez kind_sorted plain_sorted entry_sorted (args_sorted1 _) ?_;unfold Builtin.«sorted»;refine aa (m:=checkCount "sorted" 1 1 _) (ae ?_);refine aa (uR (A:=A.in1) S hh hok (by rw[sizeLine_eq];lia) λh1 tk vs hk p q=>?_)
 have g:=hP vs p q;refine aa (wpAny_newList ?_ (by rw[sizeLine_eq];lia))
 have c:(h1.push (seqObj "list" vs.toArray 0)).get? h1.objs.size=qv (seqObj "list" vs.toArray 0):=ag _ rfl
 refine aa (wpAny_holding (wpAny_call_entry slot_list_sort ⟨_,c,rfl⟩ entry_list_sort (list_sort_treeK (s:={s with heap:=h1.push (seqObj "list" vs.toArray 0),toks:=tk}) strKind_oneLt c g.keysOf (λi l eU e=>keyKind_strs (by rw[<-e];exact g)) (by lia) λa u B=>⟨_,rfl,?_⟩) (args_list_sort _)))
 obtain⟨C,y,t,z⟩:=sorted_out_str g u B;obtain⟨e,x⟩:=sortedHeap_at (out:=(arrOf a).map (·.2)) c
 have f: ∀b o,h1.get? b=qv o->(sortedHeap (h1.push (seqObj "list" vs.toArray 0)) h1.objs.size vs ((arrOf a).map (·.2))).get? b=qv o:=λb o q1=>by
  have lt:b<h1.objs.size:=ah q1;rw[sortedHeap_old (bj lt) (by rw[ai];exact jz lt),kc _ _ _ (bj lt)]
  exact q1
 exact ae ⟨_,rfl,h h1 _ tk ((arrOf a).map (·.2)).toList e hk f (by rw[Array.toArray_toList];exact x) (by rw[<-yX t z];exact y)⟩
end
def Lg:List V->Hp->VK->Prop:=λxs H Q=>∃d kvs ks,xs=[V.ref d]/\H d=qv (.dK kvs)/\kvs.map (·.1)=ks.map (λk:Str=>(qt k:L2.Key))/\ks.length<64/\∀p,H p=qw->Q (.ref p) (upd H p (.lst ((gC ks).map V.str)))
def BB(h:StrsAre vs ss):bQ (ss.map V.str) vs:=by
 induction h with
 |nil=>exact .nil
 |cons y t _ a=>exact .cons ⟨t,rfl⟩ a
def yZ(hc:X.calm=qz):qC X (.builtin "sorted") Lg:=by
 intro O s Z H xs us Q I r h;obtain⟨d,kvs,a,rfl,hd,hk,E,q⟩:=h;obtain⟨u,rfl,M⟩:=bQ.one r;cases M;obtain⟨z,L,p,T,dd⟩:=K8 I.hok hd;obtain⟨o,es,ep,m1,m2,U,N,Y,P⟩:=dd
 have b:p.map (·.1)=a.map (λk:Str=>(qt k:L2.Key)):=by rw[<-T.keys];exact hk
 have ab:p.length=a.length:=by simpa using congrArg pi b
 refine yY (ss:=a) (kdl_dict (knd:=cP X.prog X.w) (kvs:=p) (ep:=ep) L) (I.ok.hd hc) ⟨o,es,m1,m2,U,N,Y,P⟩ (by lia) (λc g m=>?_) λC h' G A e k1 k2 f l=>?_
 ·have B: ∀(c:List Value) (a:List Str),c.length=a.length->(∀(j:Nat) (v:Value),c[j]? =qv v->∃k,a[j]? =qv k/\∃t,v=qi k t)->StrsAre c a:=by
   intro c
   induction c with
   |nil=>intro a g _;cases a with|nil=>exact .nil|cons _ _=>cases g
   |cons v c W=>
    intro a g m
    cases a with
    |nil=>cases g
    |cons k a=>
     obtain⟨k',f,t,l⟩:=m 0 v rfl;cases f;subst l;exact .cons k t (W a (by simpa using g) λj v e=>m (j+1) v e)
  refine B c a (by lia) λj v e=>?_
  obtain⟨k,x,f,l⟩:=m j v e
  have i:(a.map (λk:Str=>(qt k:L2.Key)))[j]? =qv k:=by rw[<-b,ju,f];rfl
  rw[ju]at i
  cases J:a[j]? with
  |none=>rw[J]at i;cases i
  |some y=>
   rw[J]at i;cases i;refine⟨y,rfl,?_⟩;exact Value.isStrOf_shape l
 ·have K:Inv X O Z H {s with heap:=C,toks:=G}:=I.kept k1
  have n:=K.hok.fresh (aj C.objs.size)
  have S:((gC a).map V.str).length<=sizeLine:=by
   rw[ao,(jY a).length_eq];exact ol (om E) (by decide)
  exact⟨.ref C.objs.size,_,K.laid (o:=.lst ((gC a).map V.str)) (t':=G) k2 (aj _) ⟨S,A,e,BB l,f⟩,rfl,q _ n⟩
section
variable{ad:Ad}{A:Nat}
def Ht{K:Frag}(h:HR K ad G held kvs):kvs.map (·.1)=(held.map (·.1)).map (λk:Str=>(qt k:L2.Key)):=by
 induction h with
 |nil=>rfl
 |cons b t a=>rw[ny,ny,ny,a,b.1]
theorem sF{K:Frag}{G:Hp}: ∀ss:List Str,aJ K ad G (ss.map D.str) (ss.map V.str)
 |[]=>aJ.nil
 |s::ss=>aJ.cons (by unfold Rep;rfl) (sF ss)
def Hu(hc:X.calm=qz)(RC:RkC X.K A)(hg:L2.Gl X "sorted")(hm:X.mg "sorted"=qw)(hN:X.N[i]? =qv x)(hv:Vis X.env.scope x)(hd:(x==("__debug__":Str))=q4)(hcd:(x==("__classdict__":Str))=q4):
  ME X ad (.Call (.Name "sorted" p) [.Attribute (.Name x np) "held" ap] [] pos) (CY A i):=by
 refine PE.imp (CO (yZ hc) hg hm (by decide+kernel) (b8 (iX (b9 hN hv hd hcd) rfl) cZ rfl)) λt H Q c=>?_
 obtain⟨G,z,E,m,h,B,a⟩:=c;obtain⟨r,e,a⟩:=jX a;obtain⟨v,s,d,y,u,l,g⟩:=h.rk e;obtain⟨f,j,o⟩:=g.held
 by_cases b:r.held.length<64
 ·rw[if_pos b]at a;refine iF RC g l (fd:="held") rfl RC.n1 ⟨d,f,r.held.map (·.1),rfl,j,Ht o,by simpa using b,λq n=>?_⟩
  exact a.ow_new m (sF _) n
 ·rw[if_neg b]at a;exact a.elim
end
def E7{m:Str}(h:m≠"held"/\m≠"done"/\m≠"undone"):[(("held":Str),V.ref d),("done",.ref l1),("undone",.ref l2)].lookup m=qw:=by
 have a:(m==("held":Str))=q4:=by simpa using h.1
 have b:(m==("done":Str))=q4:=by simpa using h.2.1
 have c:(m==("undone":Str))=q4:=by simpa using h.2.2
 rw[ky,a,ky,b,ky,c,List.lookup_nil]
def sG(hb:attributeBase o m env (eval o env)=eval o env)(hf:methodCallForm (es.length+([]:List Keyword).length) (backTo cp (starEach es env)) (backToKw cp (keywordEach [] env))=qz)(hl:(ap.endLine==cp.line)=qz):
  eval (.Call (.Attribute o m ap) es [] cp) env=(do
   let ov<-eval o env
   standAt ap.atName
   let (f,first)<-holding [ov] (getMethod ov m (do return (<-importBound o env).getD qz))
   callWith cp f first (backTo cp (starEach es env)) (backToKw cp (keywordEach [] env))):=by
 rw[arm_eval_Call,hb];unfold methodCall calleeOf methodCallPos;rw[hf,hl];rfl
def uS(X:Cx)(ad:Ad)(A i:Nat)(M:FM)(fs:List F):TE:=λσ H Q=>∃G ρ E r p0 dx d l1 l2,Same G H/\SL X.K ad G H ρ σ/\XP X ad σ E/\σ[i]? =qv (qv (V.ref p0))/\RackIn X.K ad A G H p0 r dx d l1 l2/\
 tA X ad fs σ H (λvs H1=>∃ds G1,Step G H G1 H1/\aJ X.K ad G1 ds vs/\ds.length=fs.length/\RMK X.K ad A G1 H1 p0 dx d l1 l2 (M r ds) Q E)
section
variable{X:Cx}{ad:Ad}{σ:St}{Q:VK}{E:Nat->Hp->Prop}{p ap cp:Pos}{es:List Expr}{fs:List F}{A i n:Nat}{x m:Str}{M:FM}
def BC{m:RM}(h:RK X.K ad G H m.told Q E):RMK X.K ad A G H p0 dx d l1 l2 m Q E:=by
 cases m with
 |pure x=>exact h
 |chg _ _=>exact az h
theorem RMK.impE{G H:Hp}{p0 dx d l1 l2:Addr}{m:RM}{E':Nat->Hp->Prop}(h:RMK X.K ad A G H p0 dx d l1 l2 m Q E)(k: ∀c H',E c H'->E' c H'):RMK X.K ad A G H p0 dx d l1 l2 m Q E':=by
 cases m with
 |pure x=>exact RK.impE h k
 |chg _ _=>exact h
def uT(M0:MetOk X ad A m n M)(I:Inv X cf σ H s)(hG:Same G H)(hR:RackIn X.K ad A G H p0 r dx d l1 l2)(rv:bQ vs us)(rq:aJ X.K ad G ds vs)(hl:ds.length=n)(hx:XP X ad σ E)(h:RMK X.K ad A G H p0 dx d l1 l2 (M r ds) Q E)(hf:Meth X.K A m f):
  wpAny (model X.prog X.w) X.A (call (.ref f) (.ref p0::us)) (EP X cf σ Q) X.xe s:=by
 obtain⟨g,k,p,t,o,j,l,b⟩:=M0.ok
 have e:g=f:=by
  have z:=o.at_.symm.trans hf.at_;cases z;rfl
 subst e;exact oX (vs:=V.ref p0::vs) (E:=xk ad E) j l b I (.cons rfl rv) ⟨G,p0,r,dx,d,l1,l2,ds,vs,rfl,hG,hR,rq,hl,h.impE λc q e=>⟨c,rfl,e⟩⟩ λe i a=>hx cf H s e i I a
def E8(RC:RkC X.K A)(M0:MetOk X ad A m n M)(hN:X.N[i]? =qv x)(hv:Vis X.env.scope x)(hd:(x==("__debug__":Str))=q4)(hcd:(x==("__classdict__":Str))=q4)(ha:MA X ad es fs)(hn:fs.length=n)(hst: ∀a r,es=a::r->starEach (a::r) X.env=(q4,eval a X.env)::starEach r X.env/\(backTo cp (starEach r X.env)).any (·.1)=q4)(hl:es.length=fs.length)(hfm:methodCallForm (es.length+([]:List Keyword).length) (backTo cp (starEach es X.env)) (backToKw cp (keywordEach [] X.env))=qz)(hln:(ap.endLine==cp.line)=qz):
  PE X (.Call (.Attribute (.Name x p) m ap) es [] cp) (uS X ad A i M fs):=by
 rintro y s C H Q I ⟨G,ρ,E,r,f,dx,d,l1,l2,hG,hS,z,Y,o,g⟩;obtain⟨fm,k,fd,ps,b,_⟩:=M0.ok;refine PySem.W.methodCall_KW (L2.thn (b9 hN hv hd hcd y s C H (λv c=>v= .ref f/\c=H) I ⟨.ref f,Y,rfl,rfl⟩) λu U q=>?_) (sG rfl hfm hln)
 obtain⟨v,c,e,P,L,S⟩:=q;subst L;subst S
 cases (show u=qj f from P)
 refine nJ e o.ins RC.cl b (E7 M0.no) ?_
 cases es with
 |nil=>
  cases fs with
  |cons _ _=>cases hl
  |nil=>
   obtain⟨J,O,E2,t,_,_,g⟩:=g;obtain⟨Z,G3,st,l,j,k⟩:=(show AK X.K ad J c (.ok []) _ E2 from g) [] J c (Step.refl t) aJ.nil
   exact PySem.W.callWith_K0 (first:=[.ref f]) e.kIn b.kp (uT M0 e st.gh (o.step st) .nil l (j.trans hn) z k b)
 |cons a eU=>
  refine jh (first:=[.ref f]) (h₀:=X.base) e.ok.mod.kin b.kp (L2.thn (ha cp y U C c _ e g) λus s2 h=>?_) (hst a eU rfl).1 (hst a eU rfl).2
  obtain⟨vs,H2,B,T,Z,G1,st,l,hl,k⟩:=h;refine⟨B.kIn,?_⟩;exact uT M0 B st.gh (o.step st) T l (hl.trans hn) z k b
def Lh(RC:RkC X.K A)(M0:MetOk X ad A m n M)(hN:X.N[i]? =qv x)(hv:Vis X.env.scope x)(hd:(x==("__debug__":Str))=q4)(hcd:(x==("__classdict__":Str))=q4)(ha:MA X ad es fs)(hn:fs.length=n)(hst: ∀a r,es=a::r->starEach (a::r) X.env=(q4,eval a X.env)::starEach r X.env/\(backTo cp (starEach r X.env)).any (·.1)=q4)(hl:es.length=fs.length)(hfm:methodCallForm (es.length+([]:List Keyword).length) (backTo cp (starEach es X.env)) (backToKw cp (keywordEach [] X.env))=qz)(hln:(ap.endLine==cp.line)=qz):
  ME X ad (.Call (.Attribute (.Name x p) m ap) es [] cp) (bJ A i M fs):=by
 refine λz s u H Q I y=>y.el λG g E h f j b=>?_
 obtain⟨r,l,b⟩:=jX b;obtain⟨J,o,d,L,C,t,O⟩:=f.rk l;refine E8 RC M0 hN hv hd hcd ha hn hst hl hfm hln z s u H Q I ⟨G,g,E,r,J,o,d,L,C,h,f,j,t,O,G,g,E,h,f,j,?_⟩;unfold mX at b
 cases e:args fs g with
 |ok v=>
  rw[e]at b;exact λP B S st q=>⟨v,B,st,q,fJ e,BC (RK.step b st)⟩
 |ex c=>rw[e]at b;exact b
 |bad=>rw[e]at b;exact b.elim
def Hv(T:Dk X tn (spM X.K ad A 0 M))(hg:L2.Gl X tn)(hdb:(tn==("__debug__":Str))=q4)(hN:X.N[i]? =qv x)(hv:Vis X.env.scope x)(hd:(x==("__debug__":Str))=q4)(hcd:(x==("__classdict__":Str))=q4):
  ME X ad (.Call (.Name tn p) [.Name x px] [] cp) (bJ A i M []):=by
 refine λq s Y H Q I o=>o.el λG ρ E hG j y g=>?_
 obtain⟨fa,k,fd,B,O,hk,m,b,S⟩:=T;obtain⟨r,e,g⟩:=jX g;obtain⟨a,n,d,u,t,P,U⟩:=j.rk e;refine wpAny_Call_Name_kw (gA I hg O ?_ hdb);refine jh (h₀:=X.base) I.ok.mod.kin hk (L2.thn (b8 (b9 hN hv hd hcd) cZ rfl cp _ s Y H (λvs Z=>vs=[.ref a]/\Z=H) I ⟨.ref a,P,rfl,rfl⟩) λus L v=>?_) rfl rfl
 obtain⟨vs,H2,f,J,h,z⟩:=v;subst h;subst z;exact⟨f.kIn,oX (vs:=[V.ref a]) (E:=xk ad E) m b S f J ⟨G,a,r,n,d,u,t,[],[],rfl,hG,U,aJ.nil,rfl,(BC (show RK X.K ad G H2 (M r []).told Q E from g)).impE λc H' e=>⟨c,rfl,e⟩⟩ λe C l=>y q H2 L e C f l⟩
end
def cF(h:one l=qv a):l=[a]:=by
 unfold one at h;split at h
 ·cases h;rfl
 ·cases h
def w6(h:two l=qv (a,b)):l=[a,b]:=by
 unfold two at h;split at h
 ·cases h;rfl
 ·cases h
def a8(h:cQ e=qv (x,p)):e= .Name x p:=by
 cases e<;>first|(cases h;rfl)|(cases h;done)
def BD(h:Mp e=qv (es,k,p)):e= .Tuple es k p:=by
 cases e<;>first|(cases h;rfl)|(cases h;done)
def BE{lo hi:Option Expr}(h:EE e=qv (lo,hi)): ∃p,e= .Slice lo hi qw p:=by
 cases e<;>try (cases h;done)
 rename_i a b c p
 cases c with
 |none=>cases h;exact⟨p,rfl⟩
 |some c=>cases h
def DF(h:F8 dE C a=qv f): ∃x p b q,a= .Call (.Name x p) [b] [] q/\glo C x=qv (.py .range)/\dE b=qv f:=by
 unfold F8 at h;split at h
 ·rename_i l i c q;split at h
  ·rename_i hk;obtain⟨⟨x,p⟩,g,h⟩:=zBd h;obtain⟨b,e,h⟩:=zBd h;split at h
   ·rename_i j d;exact⟨x,p,b,q,by rw[a8 g,cF e,ly.mp hk],d,h⟩
   ·cases h
  ·cases h
 ·cases h
def DG(h:F9 ks=qv i): ∃cj cp kp,ks=[⟨qv "default",.Constant (.int i) cj cp,kp⟩]:=by
 unfold F9 at h;split at h
 ·rename_i x v kp;split at h
  ·rename_i a;subst a;split at h
   ·rename_i c cj cp;split at h
    ·cases h;exact⟨cj,cp,kp,rfl⟩
    ·cases h
   ·cases h
  ·cases h
 ·cases h
def DH(h:Gb dL C f as ks=qv r): ∃x p a i g cj cp kp,f= .Name x p/\as=[a]/\ks=[⟨qv "default",.Constant (.int i) cj cp,kp⟩]/\glo C x=qv (.py .max)/\dL a=qv g/\r=aB (Ai i) [g]:=by
 unfold Gb at h;obtain⟨⟨x,p⟩,j,h⟩:=zBd h;obtain⟨a,d,h⟩:=zBd h;obtain⟨i,e,h⟩:=zBd h;obtain⟨cj,cp,kp,rfl⟩:=DG e;split at h
 ·rename_i l b;obtain⟨g,c,rfl⟩:=zMd h;exact⟨x,p,a,i,g,cj,cp,kp,a8 j,cF d,rfl,b,c,rfl⟩
 ·cases h
def cU{α:Type}{l:List α}(h:l.isEmpty=qz):l=[]:=ly.mp h
def m8:Expr->Prop
 |.Starred _ _=>False
 |_=>True
def aP(h:m8 e):starEach (e::es) env=(q4,eval e env)::starEach es env:=by
 cases e<;>first|rfl|exact h.elim
def sH:Expr->Prop
 |.Set _ _ _=>False
 |_=>True
def Li(h:dnN C e=qv i): ∃x p,e= .Name x p/\loc C x=qv i:=by
 unfold dnN at h;obtain⟨⟨x,p⟩,d,c⟩:=zBd h
 cases a8 d
 have a:(if C.bs.contains (qZ x)=qz then loc C x else qw)=qv i:=c
 by_cases b:C.bs.contains (qZ x)=qz
 ·rw[if_pos b]at a;exact⟨x,p,rfl,a⟩
 ·rw[if_neg b]at a;cases a
def Lj(h:inN C op e=qv i): ∃x p,e= .Name x p/\loc C x=qv i:=by
 unfold inN at h;split at h
 ·obtain⟨⟨x,p⟩,b,a⟩:=zBd h
  cases a8 b
  exact⟨x,p,rfl,a⟩
 ·cases h
def dS(h:sH e):behindInMarks op e=q4:=by
 cases e<;>first|rfl|exact h.elim
def sI(h:sH c):lastMarks [op,op'] [b,c]=q4:=by
 show behindInMarks op' c=q4;exact dS h
def w8(h: ∀a b c d,e≠ .Slice a b c d):Aa e:=by
 intro o i
 cases e<;>first|rfl|exact absurd rfl (h _ _ _ _)
def aQ(h:bU n C e=qv f):m8 e/\sH e/\∀a b c d,e≠ .Slice a b c d:=by
 cases n with
 |zero=>cases h
 |succ n=>cases e<;>first|(cases h;done)|(refine⟨trivial,trivial,?_⟩;intro a b c d z;cases z;done)
def bW(h:yG n C e=qv f):m8 e/\sH e:=by
 cases n with
 |zero=>cases h
 |succ n=>
  by_cases a: ∃x p,e= .Name x p
  ·obtain⟨x,p,rfl⟩:=a;exact⟨trivial,trivial⟩
  ·have:bU n C e=qv f:=by
    rw[<-h]
    cases e<;>first|rfl|exact absurd ⟨_,_,rfl⟩ a
   exact⟨(aQ this).1,(aQ this).2.1⟩
def l6(h:EF n C tt e=qv f):sH e:=by
 cases n with
 |zero=>cases h
 |succ n=>cases e<;>first|trivial|exact(bW h).2
section
variable{ad:Ad}{X:Cx}{C:SK.Ctx}{n:Nat}
def y0(ad:Ad)(n:Nat):Prop:= ∀(X:Cx) (C:SK.Ctx) (e:Expr) (f:F),CtxOk X ad C->bU n C e=qv f->ME X ad e f/\MT X ad e f/\∀op es p,e= .BoolOp op es p->MW X ad e f
def Hw(ad:Ad)(n:Nat):Prop:= ∀(X:Cx) (C:SK.Ctx) (e:Expr) (f:F),CtxOk X ad C->yG n C e=qv f->ML X ad e f
def Lk(ad:Ad)(n:Nat):Prop:= ∀(X:Cx) (C:SK.Ctx) (tg e:Expr) (tt:Bool) (f:F),CtxOk X ad C->(tt=qz->∃es k p,tg= .Tuple es k p)->EF n C tt e=qv f->MI X ad tg e f/\((∀x p,e≠ .Name x p)->MIG X ad tg e f)
theorem sJ(hE:y0 ad n)(O:CtxOk X ad C): ∀{es:List Expr} {fs:List F},fW (bU n C) es=qv fs->MA X ad es fs/\∀e∈es,m8 e
 |[],fs,h=>by
  cases h;exact⟨Kt,λ_ h=>by cases h⟩
 |e::es,fs,h=>by
  unfold fW at h
  cases b:bU n C e with
  |none=>rw[b]at h;cases h
  |some f=>
   rw[b]at h;obtain⟨r,i,g⟩:=zMd h;subst g;obtain⟨q1,q2⟩:=sJ hE O i;have d:=(aQ b).1
   exact⟨Gn (hE X C e f O b).1 q1 (aP d),λa c=>by
    rcases au.mp c with rfl|c
    ·exact d
    ·exact q2 a c⟩
theorem jA{α β:Type}{f:α->Option β}: ∀{l:List α} {r:List β},fW f l=qv r->r.length=l.length
 |[],r,h=>by cases h;rfl
 |x::l,r,h=>by
  unfold fW at h
  cases e:f x with
  |none=>rw[e]at h;cases h
  |some y=>
   rw[e]at h;obtain⟨c,b,a⟩:=zMd h;subst a;simp[jA b]
theorem w9{env:PySem.Env}{pos:Pos}: ∀{es:List Expr},(∀e∈es,m8 e)->(backTo pos (starEach es env)).any (·.1)=q4
 |[],_=>rfl
 |e::es,h=>by
  rw[aP (h e (.head _))]
  show(q4||(backTo pos (starEach es env)).any (·.1))=q4
  rw[w9 λa b=>h a (.tail _ b)]
  rfl
def NB(hE:y0 ad n)(hL:Hw ad n)(O:CtxOk X ad C)(hg:glo C x=qv (.py p))(h:Ge (bU n C) (yG n C) C p as=qv f):ME X ad (.Call (.Name x np) as [] pos) f:=by
 obtain⟨l,o,m,j⟩:=O.gl hg;unfold Ge at h;split at h
 ·have e:=zBd h;clear h;obtain⟨a,i,h⟩:=e
  cases cF i
  obtain⟨d,c,rfl⟩:=zMd h;subst m;exact iP Au l j (by decide+kernel) (hL X C _ d O c) (by decide) o (aP (bW c).1)
 ·have e:=zBd h;clear h;obtain⟨a,i,h⟩:=e
  cases cF i
  obtain⟨d,c,rfl⟩:=zMd h;subst m;exact vV Gq l j (by decide+kernel) (hL X C _ d O c) (by decide) o (aP (bW c).1)
 ·have e:=zBd h;clear h;obtain⟨a,i,h⟩:=e
  cases cF i
  obtain⟨d,c,rfl⟩:=zMd h;subst m;exact vV Gr l j (by decide+kernel) (hL X C _ d O c) (by decide) o (aP (bW c).1)
 ·have e:=zBd h;clear h;obtain⟨a,i,h⟩:=e
  cases cF i
  obtain⟨d,c,rfl⟩:=zMd h;subst m;exact vV Av l j (by decide+kernel) (hL X C _ d O c) (by decide) o (aP (bW c).1)
 ·have e:=zBd h;clear h;obtain⟨a,i,h⟩:=e
  cases cF i
  subst m
  cases c:yG n C a with
  |some d=>
   rw[c]at h;cases h;exact vV C6 l j (by decide+kernel) (hL X C _ d O c) (by decide) o (aP (bW c).1)
  |none=>
   rw[c]at h;obtain⟨d,q,rfl⟩:=zMd h;obtain⟨y,I,b,H,rfl,s,r⟩:=DF q;obtain⟨t,G,u,B⟩:=O.gl s;subst u;exact pA t B l j O.calm (hE X C _ d O r).1 (aP (aQ r).1)
 ·have e:=zBd h;clear h;obtain⟨a,i,h⟩:=e
  cases cF i
  obtain⟨d,c,rfl⟩:=zMd h;subst m;exact iP (Gu O.hd) l j (by decide+kernel) (hL X C _ d O c) (by decide) o (aP (bW c).1)
 ·have e:=zBd h;clear h;obtain⟨a,i,h⟩:=e
  cases cF i
  obtain⟨d,c,rfl⟩:=zMd h;subst m;exact iP (Gv O.hd) l j (by decide+kernel) (hL X C _ d O c) (by decide) o (aP (bW c).1)
 ·have e:=zBd h;clear h;obtain⟨a,i,h⟩:=e
  cases cF i
  obtain⟨d,c,rfl⟩:=zMd h;subst m;exact iP (Gw O.hd) l j (by decide+kernel) (hL X C _ d O c) (by decide) o (aP (bW c).1)
 ·have e:=zBd h;clear h;obtain⟨a,i,h⟩:=e
  cases cF i
  obtain⟨d,c,rfl⟩:=zMd h;subst m;exact iP (yU O.un) l j (by decide+kernel) (hL X C _ d O c) (by decide) o (aP (bW c).1)
 ·have e:=zBd h;clear h;obtain⟨a,i,h⟩:=e
  cases cF i
  obtain⟨d,c,rfl⟩:=zMd h;subst m;exact iP (Ds O.hd O.un) l j (by decide+kernel) (hL X C _ d O c) (by decide) o (aP (bW c).1)
 ·have e:=zBd h;clear h;obtain⟨⟨a,b⟩,i,h⟩:=e
  cases w6 i
  have e:=zBd h;clear h;obtain⟨⟨tn,K⟩,v,h⟩:=e
  cases a8 v
  obtain⟨d,c,h⟩:=zBd h;obtain⟨g,q,h⟩:=zBd h;obtain⟨P,E,rfl⟩:=zMd h;subst m;obtain⟨J,z,A⟩:=KN O q E;exact GP O.exc l j z A (hE X C _ d O c).1.ml (aP (aQ c).1)
 ·cases h
def Ll(hE:y0 ad n)(O:CtxOk X ad C)(h:txN (bU n C) C x p m a=qv f)(hl:(ap.endLine==cp.line)=qz):ME X ad (.Call (.Attribute (.Name x p) m ap) [a] [] cp) f:=by
 unfold txN at h;split at h
 ·split at h
  ·rename_i d;subst d;obtain⟨fo,e,h⟩:=zBd h;obtain⟨c,b,rfl⟩:=zMd h;exact Dl (hE X C _ fo O e).1 (hE X C _ c O b).1 rfl (aP (aQ b).1) hl
  ·split at h
   ·rename_i d;subst d;obtain⟨fo,e,h⟩:=zBd h;obtain⟨c,b,rfl⟩:=zMd h;exact GR (hE X C _ fo O e).1 (hE X C _ c O b).1 rfl (aP (aQ b).1) hl
   ·cases h
 ·split at h
  ·rename_i d;subst d;split at h
   ·rename_i q i;obtain⟨c,b,rfl⟩:=zMd h;obtain⟨o,j,A,l,g⟩:=O.gl i;exact KM g o l j (hE X C _ c O b).1 (aP (aQ b).1) hl
   ·cases h
  ·cases h
def Lm(hE:y0 ad n)(hL:Hw ad n)(O:CtxOk X ad C)(h:txA (bU n C) (yG n C) C o m as=qv f)(hl:(ap.endLine==cp.line)=qz):ME X ad (.Call (.Attribute o m ap) as [] cp) f:=by
 unfold txA at h;have g:=zBd h;clear h;obtain⟨a,e,h⟩:=g
 cases cF e
 split at h
 ·split at h
  ·split at h
   ·rename_i d;subst d;obtain⟨c,b,rfl⟩:=zMd h;exact GQ (hL X C _ c O b) (aP (bW b).1) hl
   ·cases h
  ·cases h
 ·exact Ll hE O h hl
 ·cases h
def tW(h:ME X ad e f)(ht: ∀whole,isTrue e X.env whole=(do let v<-whole;standAt e.pos;holding [v] (truthy v)))(hb: ∀op es p,e≠ .BoolOp op es p):ME X ad e f/\MT X ad e f/\∀op es p,e= .BoolOp op es p->MW X ad e f:=
 ⟨h,Km h ht,λop es p z=>absurd z (hb op es p)⟩
def DI(h:MW X ad e f):MT X ad e f:=λb s a H Q I t=>h _ b s a H Q I t
def BF(h:cG tg=qv (xs,k)):xs.length=(if k=0 then 1 else k)/\((k != 0)=qz->∃es j p,tg= .Tuple es j p):=by
 cases tg<;>try (cases h;done)
 ·cases h;exact⟨rfl,λz=>absurd z (by decide)⟩
 ·rename_i es j p;unfold cG at h;obtain⟨c,d,a⟩:=zBd h
  by_cases b:2<=c.length
  ·rw[if_pos b]at a;cases a;exact⟨by rw[if_neg (by lia)],λ_=>⟨es,j,p,rfl⟩⟩
  ·rw[if_neg b]at a;cases a
def oF(hE:y0 ad n)(hI:Lk ad n)(O:CtxOk X ad C)(h:bU (n+1) C (.ListComp elt [⟨tg,it,ifs,0⟩] sc pos)=qv f):
  ∃xs k cs fi fc fe,f=aO k cs fi fc fe/\(cG tg=qv (xs,k)/\bU n {C with sc:=sc,N:=xs++bK sc} elt=qv fe)/\CompSc X C sc xs cs/\MI X ad tg it fi/\(∀a b c,it≠ .Set a b c)/\xs.length=(if k=0 then 1 else k)/\(∀fp s3 H3 pins',PG (cX X (xs++bK sc) sc s3 H3 fp pins') tg (gTg X.K k))/\
   (∀fp s3 H3 pins',MTs (cX X (xs++bK sc) sc s3 H3 fp pins') ad ifs fc)/\∀fp s3 H3 pins',ME (cX X (xs++bK sc) sc s3 H3 fp pins') ad elt fe:=by
 have G:((cG tg).bind fun(xs,k)=>(EF n C (k != 0) it).bind fun fi=>if lN sc xs then
    (fW (λx=>fV C x) (bK sc)).bind λcs=>(match ifs with
    |[]=>qv qw
    |[c]=>(bU n {C with sc:=sc,N:=xs++bK sc} c).map qv
    |_=>qw).bind λc=>(bU n {C with sc:=sc,N:=xs++bK sc} elt).map λe=>aO k cs fi c e
   else qw)=qv f:=h
 clear h;obtain⟨⟨xs,k⟩,p,h⟩:=zBd G;obtain⟨fi,u,h⟩:=zBd h;obtain⟨E,B⟩:=BF p
 by_cases j:lN sc xs=qz
 ·rw[if_pos j]at h;obtain⟨cs,y,h⟩:=zBd h;obtain⟨fc,q,h⟩:=zBd h;obtain⟨fe,t,H⟩:=zMd h;obtain⟨M,A,v,J,s,P,L⟩:=jR j;have m: ∀fp s3 H3 pins',CtxOk (cX X (xs++bK sc) sc s3 H3 fp pins') ad {C with sc:=sc,N:=xs++bK sc}:=λfp s3 H3 pins'=>KO O j y
  refine⟨xs,k,cs,fi,fc,fe,H.symm,⟨p,t⟩,AV O j y,(hI X C tg it _ fi O B u).1,λa b c z=>?_,E,λfp s3 H3 pins'=>?_,λfp s3 H3 pins'=>?_,λfp s3 H3 pins'=>(hE _ _ elt fe (m fp s3 H3 pins') t).1⟩
  ·subst z;exact l6 u
  ·by_cases d:qX sc=[]
   case neg=>
    rcases A with z|⟨z,l⟩
    ·exact absurd z d
    ·obtain⟨x,rfl⟩:=gz.mp l;refine GT (X:=cX X ([x]++bK sc) sc s3 H3 fp pins') (x:=x) s p rfl rfl ?_ (decide_eq_true z)
     show(relabel sc X.env).names.lookup x=qv .cell
     have o:=cE (env:=X.env) (x:=x) (names:=sc.names);rw[v x (.head _),z]at o;exact o
   refine Nr (X:=cX X (xs++bK sc) sc s3 H3 fp pins') O.calm s p λi x r=>⟨?_,?_⟩
   ·show(xs++bK sc)[i]? =qv x
    rw[cc (ax.mp r).1];exact r
   ·show(relabel sc X.env).names.lookup x=qv .local
    have o:=cE (env:=X.env) (x:=x) (names:=sc.names);rw[v x (List.mem_of_getElem? r),d]at o;exact o
  ·split at q
   ·cases q;trivial
   ·obtain⟨g,I,rfl⟩:=zMd q;exact(hE _ _ _ g (m fp s3 H3 pins') I).2.1
   ·cases q
 ·rw[if_neg j]at h;cases h
def jB{C:SK.Ctx}(h:atF C f e=qv i): ∃x p q,e= .Attribute (.Name x p) f q/\loc C x=qv i:=by
 unfold atF at h;obtain⟨⟨o,g,q⟩,c,j⟩:=zBd h
 have a:(if g=f then(cQ o).bind λ(x,_)=>loc C x else qw)=qv i:=j
 by_cases b:g=f
 ·rw[if_pos b]at a;subst b;obtain⟨⟨x,p⟩,d,l⟩:=zBd a
  cases a8 d
  refine⟨x,p,q,?_,l⟩
  cases e<;>first|(cases c;rfl)|(cases c;done)
 ·rw[if_neg b]at a;cases a
def uU{C:SK.Ctx}(h:Kd C e=qv (i,b)): ∃x p q,e= .Attribute (.Name x p) (if b then "done" else "undone") q/\loc C x=qv i:=by
 unfold Kd at h;split at h
 ·rename_i j a;cases h;exact jB a
 ·obtain⟨j,d,c⟩:=zMd h;cases c;exact jB d
def uV(hs: ∀e∈es,m8 e)(hl:es.length<20):methodCallForm (es.length+([]:List Keyword).length) (backTo cp (starEach es env)) (backToKw cp (keywordEach [] env))=qz:=by
 have all: ∀es:List Expr,(∀e∈es,m8 e)->(backTo cp (starEach es env)).all (!·.1)=qz/\(backTo cp (starEach es env)).any (·.1)=q4:=by
  intro es
  induction es with
  |nil=>intro _;exact⟨rfl,rfl⟩
  |cons e es c=>
   intro hs;obtain⟨a,b⟩:=c λe d=>hs e (.tail _ d)
   rw[aP (hs e (.head _))];exact⟨a,b⟩
 unfold methodCallForm;rw[(all es hs).1]
 show(qz&&qz&&decide (es.length+0+0<30))=qz
 simp
 lia
def kX(hs: ∀e∈es,m8 e):(backTo cp (starEach es env)).any (·.1)=q4:=by
 induction es with
 |nil=>rfl
 |cons e es a=>
  rw[aP (hs e (.head _))];exact a λe b=>hs e (.tail _ b)
def NC{X:Cx}(h:m8 e)(hl:(ap.endLine==cp.line)=qz):M1 X (.Attribute (.Name x p) "held" pos) "get" ap e cp:=by
 refine⟨rfl,?_,hl,?_⟩
 ·rw[aP h];rfl
 ·rw[aP h];rfl
def BG(hE:y0 ad n)(O:CtxOk X ad C)(h:rkE (bU n C) C e=qv f):ME X ad e f/\MT X ad e f/\∀op es p,e= .BoolOp op es p->MW X ad e f:=by
 unfold rkE at h
 cases G:rkc C with
 |none=>rw[G]at h;cases h
 |some am=>
  obtain⟨A,ms⟩:=am;rw[G]at h
  have P:Nt X ad "Rack" (.cls A ms):=by
   unfold rkc at G;split at G
   ·rename_i a' ac e';cases G;exact(O.gt _ _ e').2
   ·cases G
  obtain⟨_,E,MO⟩:=P
  simp only at h
  split at h
  ·rename_i a op cs pos;have c:=zBd h;clear h;obtain⟨b,N,h⟩:=c
   cases cF N
   unfold Ke at h;split at h
   ·rename_i L B;have c:=zBd h;clear h;obtain⟨i,l,h⟩:=c;obtain⟨g,v,rfl⟩:=zMd h;obtain⟨x,p,q,rfl,u⟩:=jB l;obtain⟨t,j,d,s⟩:=O.vis x i u
    have T:op=if L then .NotIn else .In:=by
     cases op<;>first|(cases B;rfl)|(cases B;done)
    subst T;have go:=Lf (p:=p) (ap:=q) O.un E t j d s (hE X C _ g O v).1 L;exact⟨JA go (dS trivial),pH (dS trivial) λI hG hS c hr=>go _ _ _ _ _ I ⟨_,_,_,hG,hS,c,hr⟩,λ_ _ _ z=>nomatch z⟩
   ·have c:=zBd h;clear h;obtain⟨⟨i,U⟩,l,h⟩:=c;obtain⟨g,v,rfl⟩:=zMd h;obtain⟨x,p,q,rfl,u⟩:=uU l;obtain⟨t,j,d,s⟩:=O.vis x i u;have la:=(E5 (ad:=ad) (p:=p) (pos:=q) E t j d s U).lk;have lb:=(hE X C _ g O v).1.look;have m:=(aQ v).2.1;exact⟨Hf O.un la lb (dS m),Hg O.un la lb (dS m),λ_ _ _ z=>nomatch z⟩
  ·rename_i a b pos;have c:=zBd h;clear h;obtain⟨i,l,h⟩:=c;obtain⟨g,v,rfl⟩:=zMd h;obtain⟨x,p,q,rfl,u⟩:=jB l;obtain⟨t,j,d,s⟩:=O.vis x i u;exact tW (Hq O.un E t j d s (hE X C _ g O v).1 (w8 (aQ v).2.2)) (λ_=>rfl) (λ_ _ _ z=>nomatch z)
  ·rename_i fe as ab cp;split at h
   ·rename_i hk
    cases ly.mp hk
    split at h
    ·rename_i o m ap;split at h
     ·rename_i Z;unfold Kf at h;split at h
      ·rename_i x p hv
       cases a8 hv
       have c:=zBd h;clear h;obtain⟨i,l,h⟩:=c;have c:=zBd h;clear h;obtain⟨⟨n0,M⟩,v,h⟩:=c;obtain⟨t,j,d,s⟩:=O.vis x i l
       simp only at h
       split at h
       ·rename_i H;have c:=zBd h;clear h;obtain⟨fs,h3,h⟩:=c;split at h
        ·rename_i hn;cases h;obtain⟨ma,Y⟩:=sJ hE O h3
         exact tW (Lh E (MO m n0 M v) t j d s ma hn (λa r e=>by
          subst e;exact⟨aP (Y a (.head _)),kX λe he=>Y e (.tail _ he)⟩) (jA h3).symm (uV Y H) Z) (λ_=>rfl) (λ_ _ _ z=>nomatch z)
        ·cases h
       ·cases h
      ·split at h
       ·rename_i hm;subst hm;have c:=zBd h;clear h;obtain⟨i,l,h⟩:=c;have c:=zBd h;clear h;obtain⟨a,N,h⟩:=c
        cases cF N
        obtain⟨g,v,rfl⟩:=zMd h;obtain⟨x,p,q,rfl,u⟩:=jB l;obtain⟨t,j,d,s⟩:=O.vis x i u;exact tW (Hr O.un E t j d s (hE X C _ g O v).1 (NC (aQ v).1 Z)) (λ_=>rfl) (λ_ _ _ z=>nomatch z)
       ·cases h
     ·cases h
    ·rename_i x p;have c:=zBd h;clear h;obtain⟨a,N,h⟩:=c
     cases cF N
     unfold OA at h;split at h
     ·rename_i K;obtain⟨i,l,rfl⟩:=zMd h;obtain⟨y,py,q,rfl,u⟩:=jB l;obtain⟨t,j,d,s⟩:=O.vis y i u;obtain⟨Q,S,J,W⟩:=O.gl K
      cases (show x="sorted" from J)
      exact tW (Hu O.calm E Q W t j d s) (λ_=>rfl) (λ_ _ _ z=>nomatch z)
     ·rename_i K;have c:=zMd h;clear h;obtain⟨⟨i,U⟩,l,rfl⟩:=c;obtain⟨y,py,q,rfl,u⟩:=uU l;obtain⟨t,j,d,s⟩:=O.vis y i u;obtain⟨Q,S,J,W⟩:=O.gl K
      cases (show x="len" from J)
      exact tW (iP Au Q W (by decide+kernel) (E5 E t j d s U) (by decide) S rfl) (λ_=>rfl) (λ_ _ _ z=>nomatch z)
     ·rename_i K;split at h
      ·rename_i hB;subst hB;have c:=zBd h;clear h;obtain⟨⟨y,py⟩,l,h⟩:=c;obtain⟨i,u,rfl⟩:=zMd h
       cases a8 l
       obtain⟨t,j,d,s⟩:=O.vis y i u;obtain⟨Q,S,J⟩:=O.gl K;exact tW (Hv J Q S t j d s) (λ_=>rfl) (λ_ _ _ z=>nomatch z)
      ·cases h
     ·cases h
    ·cases h
   ·cases h
  ·cases h
def ND(hE:y0 ad n)(hL:Hw ad n)(hI:Lk ad n):y0 ad (n+1):=by
 intro X C e f O h;unfold bU at h;split at h
 ·-- a name
  rename_i x pos;refine tW ?_ (λ_=>rfl) (λ_ _ _ z=>nomatch z)
  cases B:loc C x with
  |some i=>
   rw[B]at h;cases h;obtain⟨v1,U,Q,v4⟩:=O.vis x i B;exact EJ v1 U Q v4
  |none=>
   rw[B]at h
   simp only at h
   split at h
   ·rename_i d A;cases h;obtain⟨N,M,u,v,g3,g4,g5⟩:=O.gl A;exact Al N g3 g4 g5 M
   ·rename_i k0 n0 f0 A;cases h;obtain⟨N,M,r,f,T,hr,hf⟩:=O.gl A;subst hf;exact Al (v:=.ref (ad.fnA k0)) N T.mg rfl (λG=>by unfold Rep;rfl) M
   ·cases h
 ·obtain⟨d,j,rfl⟩:=zMd h;exact tW (C2 j) (λ_=>rfl) (λ_ _ _ z=>nomatch z)
 ·obtain⟨l,j,h⟩:=zBd h;obtain⟨fb,q,rfl⟩:=zMd h;exact tW (Kh (hE X C _ l O j).1 (hE X C _ fb O q).1) (λ_=>rfl) (λ_ _ _ z=>nomatch z)
 ·obtain⟨l,j,h⟩:=zBd h;obtain⟨q1,q2,_⟩:=hE X C _ l O j;split at h
  ·cases h;exact⟨Ki q1,Ko q2,λ_ _ _ z=>nomatch z⟩
  ·cases h;exact tW (Kj q1) (λ_=>rfl) (λ_ _ _ z=>nomatch z)
  ·cases h
 ·rename_i op es pos;split at h
  ·rename_i a b;obtain⟨l,j,h⟩:=zBd h;obtain⟨fb,q,rfl⟩:=zMd h;obtain⟨q1,q2,_⟩:=hE X C _ l O j;obtain⟨H,Z,_⟩:=hE X C _ fb O q
   cases op with
   |And=>
    have W:MW X ad (.BoolOp .And [a,b] pos) (iK l fb):=EM q2 (EN Z);exact⟨EK q1 (EL H),DI W,λ_ _ _ _=>W⟩
   |Or=>
    have W:MW X ad (.BoolOp .Or [a,b] pos) (rOr l fb):=Kq q2 (EN Z);exact⟨Kl q1 (EL H),DI W,λ_ _ _ _=>W⟩
  ·rename_i a b c r;obtain⟨l,j,h⟩:=zBd h;obtain⟨fb,q,rfl⟩:=zMd h;obtain⟨q1,q2,_⟩:=hE X C _ l O j;obtain⟨H,Z,Y⟩:=hE X C _ fb O q
   cases op with
   |And=>
    have W:MW X ad (.BoolOp .And (a::b::c::r) pos) (iK l fb):=EM q2 (Y _ _ _ rfl);exact⟨EK q1 H,DI W,λ_ _ _ _=>W⟩
   |Or=>
    have W:MW X ad (.BoolOp .Or (a::b::c::r) pos) (rOr l fb):=Kq q2 (Y _ _ _ rfl);exact⟨Kl q1 H,DI W,λ_ _ _ _=>W⟩
  ·cases h
 ·split at h
  ·rename_i fr t;cases h;exact BG hE O t
  rename_i s;clear s;split at h
  ·have I:=zBd h;clear h;obtain⟨b,h0,h⟩:=I
   cases cF h0
   obtain⟨l,j,h⟩:=zBd h;split at h
   ·rename_i i P;cases h;obtain⟨x,p,rfl,B⟩:=Lj P;obtain⟨v1,U,Q,v4⟩:=O.vis x i B;have la:=(hE X C _ l O j).1.look;exact⟨K5 v1 U Q v4 O.un la (dS trivial),K6 v1 U Q v4 O.un la (dS trivial),λ_ _ _ z=>nomatch z⟩
   ·obtain⟨fb,q,rfl⟩:=zMd h;exact⟨Kr O.un (hE X C _ l O j).1 (hE X C _ fb O q).1 (dS (aQ q).2.1),Ks O.un (hE X C _ l O j).1 (hE X C _ fb O q).1 (dS (aQ q).2.1),λ_ _ _ z=>nomatch z⟩
  ·have I:=zBd h;clear h;obtain⟨⟨b,c⟩,h0,h⟩:=I
   cases w6 h0
   obtain⟨l,j,h⟩:=zBd h;obtain⟨fb,q,h⟩:=zBd h;obtain⟨L,y,rfl⟩:=zMd h;exact⟨C3 O.un (hE X C _ l O j).1 (hE X C _ fb O q).1 (hE X C _ L O y).1 (sI (aQ y).2.1),C4 O.un (hE X C _ l O j).1 (hE X C _ fb O q).1 (hE X C _ L O y).1 (sI (aQ y).2.1),λ_ _ _ z=>nomatch z⟩
  ·cases h
 ·obtain⟨L,j,h⟩:=zBd h;obtain⟨l,q,h⟩:=zBd h;obtain⟨fb,y,rfl⟩:=zMd h;obtain⟨_,c2,_⟩:=hE X C _ L O j;obtain⟨a1,a2,_⟩:=hE X C _ l O q;obtain⟨b1,b2,_⟩:=hE X C _ fb O y;exact⟨C5 c2 a1 b1,Dp c2 a2 b2,λ_ _ _ z=>nomatch z⟩
 ·split at h
  ·rename_i K;obtain⟨fs,j,rfl⟩:=zMd h;exact tW (Ku (sJ hE O j).1 (by rw[jA j];exact K)) (λ_=>rfl) (λ_ _ _ z=>nomatch z)
  ·cases h
 ·split at h
  ·rename_i K;obtain⟨fs,j,rfl⟩:=zMd h;exact tW (Kv (sJ hE O j).1 (by rw[jA j];exact K)) (λ_=>rfl) (λ_ _ _ z=>nomatch z)
  ·cases h
 ·-- o[..]
  rename_i a b pos;split at h
  ·rename_i fr t;cases h;exact BG hE O t
  rename_i s;clear s;have I:=zBd h;clear h;obtain⟨l,j,h⟩:=I;split at h
  ·rename_i lo P hv;obtain⟨p,rfl⟩:=BE hv;obtain⟨fl,q,h⟩:=zBd h;obtain⟨fh,y,rfl⟩:=zMd h;refine tW (Kx (hL X C _ l O j).lk ?_ ?_) (λ_=>rfl) (λ_ _ _ z=>nomatch z)
   ·split at q
    ·cases q;trivial
    ·obtain⟨k,h4,rfl⟩:=zMd q;exact(hE X C _ k O h4).1
   ·split at y
    ·cases y;trivial
    ·obtain⟨k,h4,rfl⟩:=zMd y;exact(hE X C _ k O h4).1
  ·obtain⟨fb,q,rfl⟩:=zMd h;exact tW (Np (hL X C _ l O j).lk (hE X C _ fb O q).1 (w8 (aQ q).2.2)) (λ_=>rfl) (λ_ _ _ z=>nomatch z)
 ·-- a comprehension
  rename_i a0 an sc pos;refine tW ?_ (λ_=>rfl) (λ_ _ _ z=>nomatch z)
  split at h
  ·rename_i tg it a3 as;split at h
   ·rename_i ha;subst ha;obtain⟨xs,k,cs,fi,L,fe,rfl,_,S,P,J,ac,hg,ab,he⟩:=oF (pos:=pos) hE hI O h;exact GA O.calm S P J ac hg ab he
   ·cases h
  ·cases h
 ·-- a call
  rename_i f' as ar pos;split at h
  ·rename_i fr t;cases h;exact BG hE O t
  rename_i s;clear s;refine tW ?_ (λ_=>rfl) (λ_ _ _ z=>nomatch z)
  split at h
  ·rename_i al
   cases cU al
   split at h
   ·rename_i x np;split at h
    ·cases h
    ·split at h
     ·rename_i k1 k2 fn A
      by_cases E:as.isEmpty=qz
      ·rw[if_pos E]at h;cases h
      rw[if_neg E]at h;obtain⟨fs,j,h⟩:=zBd h;split at h
      ·rename_i hk;cases h;obtain⟨N,M,r,l,T,hr,_⟩:=O.gl A;obtain⟨q1,q2⟩:=sJ hE O j
       cases as with
       |nil=>exact absurd rfl E
       |cons a es=>exact Gx T hr N M q1 hk (aP (q2 a (.head _))) (w9 λe he=>q2 e (.tail _ he))
      ·cases h
     ·rename_i p A;exact NB hE hL O A h
     ·cases h
   ·rename_i o m ap;split at h
    ·rename_i ft am;split at h
     ·rename_i K;cases h;exact Lm hE hL O am K
     ·cases h
    cases h
   ·cases h
  ·obtain⟨x,p,a,i,g,cj,cp,kp,rfl,rfl,rfl,B,A,rfl⟩:=DH h;obtain⟨H,Z,Y,r4⟩:=O.gl B;subst Y;exact Ha H r4 O.hd (hL X C _ g O A) (aP (bW A).1)
 ·cases h
def NE(hE:y0 ad n):Hw ad (n+1):=by
 intro X C e f O h;unfold yG at h;split at h
 ·rename_i x p
  cases a:loc C x with
  |some i=>
   rw[a]at h;cases h;obtain⟨g,c,b,d⟩:=O.vis x i a;exact As g c b d
  |none=>
   rw[a]at h;exact(hE X C _ f O h).1.ml
 ·exact(hE X C _ f O h).1.ml
def Hx(hE: ∀m,m<n->y0 ad m){X:Cx}{C:SK.Ctx}(O:CtxOk X ad C)(hn: ∀x p,e≠ .Name x p)(h:yG n C e=qv f):ME X ad e f:=by
 cases n with
 |zero=>cases h
 |succ n=>
  have:bU n C e=qv f:=by
   rw[<-h]
   cases e<;>first|rfl|exact absurd rfl (hn _ _)
  exact(hE n (kn _) X C e f O this).1
def NF(hE: ∀m,m<n+1->y0 ad m)(hL:Hw ad n):Lk ad (n+1):=by
 intro X C I e L f O r h;have c:=hE n (kn _);unfold EF at h
 have o: ∀{x:Str} {v:List Expr} {z q:Pos},Aj (bU n C) C L x v=qv f->MI X ad I (.Call (.Name x z) v [] q) f/\MIG X ad I (.Call (.Name x z) v [] q) f:=by
  intro x v z q h;unfold Aj at h;split at h
  ·rename_i a u;obtain⟨y,d,rfl⟩:=zMd h;obtain⟨l,H,t,j⟩:=O.gl u;subst t;have g:=(c X C _ y O d).1;exact⟨Dd l j g (aP (aQ d).1),AI l j g (aP (aQ d).1)⟩
  ·rename_i a b u;split at h
   ·rename_i A;obtain⟨y,d,h⟩:=zBd h;obtain⟨fb,E,rfl⟩:=zMd h;obtain⟨l,H,t,j⟩:=O.gl u;subst t;obtain⟨es,k,p,rfl⟩:=r A;have s:=(c X C _ y O d).1;have G:=(c X C _ fb O E).1;exact⟨KP l j s G (aP (aQ d).1) (aP (aQ E).1),GV l j s G (aP (aQ d).1) (aP (aQ E).1)⟩
   ·cases h
  ·rename_i a u;split at h
   ·rename_i A;obtain⟨y,d,rfl⟩:=zMd h;obtain⟨l,H,t,j⟩:=O.gl u;subst t;obtain⟨es,k,p,rfl⟩:=r A;have s:=(c X C _ y O d).1;exact⟨GW l j s (aP (aQ d).1),Do l j s (aP (aQ d).1)⟩
   ·cases h
  ·cases h
 split at h
 ·rename_i T v P q;split at h
  ·rename_i x p;split at h
   ·exact⟨(o h).1,λ_=>(o h).2⟩
   ·exact⟨(o h).1,λ_=>(o h).2⟩
   ·exact⟨(o h).1,λ_=>(o h).2⟩
   ·have g:=(c X C _ f O h).1;exact⟨vY g.ml,λ_=>o6 g⟩
  ·have g:=(c X C _ f O h).1;exact⟨vY g.ml,λ_=>o6 g⟩
 ·split at h
  ·rename_i i K;cases h;obtain⟨x,p,rfl,J⟩:=Li K;obtain⟨S,N,M,Q⟩:=O.vis x i J;exact⟨Hk S N M Q,λB=>absurd rfl (B x p)⟩
  ·refine⟨vY (hL X C _ f O h),λB=>o6 (Hx (λm U=>hE m (by lia)) O B h)⟩
def dI: ∀n,y0 ad n/\Hw ad n/\Lk ad n:=by
 have d: ∀n, ∀m,m<=n->y0 ad m/\Hw ad m/\Lk ad m:=by
  intro n
  induction n with
  |zero=>
   intro m j
   have:m=0:=by lia
   subst this;refine⟨?_,?_,?_⟩
   ·intro X C e f O h;unfold bU at h;cases h
   ·intro X C e f O h;unfold yG at h;cases h
   ·intro X C o e l f O _ h;unfold EF at h;cases h
  |succ n g=>
   intro m j
   by_cases i:m<=n
   ·exact g m i
   ·have:m=n+1:=by lia
    subst this;obtain⟨a,b,c⟩:=g n (aj _);exact⟨ND a b c,NE a,NF (λm j=>(g m (by lia)).1) b⟩
 exact λn=>d n n (aj _)
end
abbrev Mw:List Value:=[.type "ValueError",.type "Exception",.type "BaseException",.type "object"]
structure StOk(X:Cx)(ad:Ad)(C:SK.Ctx):Prop where
 cx:CtxOk X ad C
 fn: ∀x,X.fn x=qz
 sc:X.env.scope=C.sc
 lc: ∀x i,loc C x=qv i->Loc X.env.scope x
 exm: ∀c,exmOne X.K (.ref (ad.cls c)) (.ref (ad.cls 0))=qv qz
 exi: ∀c,excIn X.K (ad.cls c) Mw "ValueError.__new__"=qz
def Zt(ad:Ad)(E₀:XK)(t:Bool):(St->Nat->Hp->Prop)->Prop:=λE=>t=q4->∀σ c H,E σ c H->E₀ (.ref (ad.cls c)) qw H
section
variable{X:Cx}{ad:Ad}{C:SK.Ctx}{E₀:XK}{t:Bool}{e:Expr}{g h:FS}{x:Str}{st:Stmt}
def StOk.nm(O:StOk X ad C)(h:loc C x=qv i):Mu X x i:=⟨(O.cx.vis x i h).1,O.lc x i h,.inl (O.fn x)⟩
theorem StOk.nms(O:StOk X ad C): ∀{xs:List Str} {is:List Nat},fW (λx=>loc C x) xs=qv is->NmsOk X xs is
 |[],_,h=>by cases h;exact .nil
 |x::xs,is,h=>by
  unfold fW at h
  cases e:loc C x with
  |none=>rw[e]at h;cases h
  |some j=>
   rw[e]at h;obtain⟨r,b,a⟩:=zMd h;subst a;exact .cons (O.nm e) (O.nms b)
def y6: ∃b,swapsWith (.ListComp elt gens sc cpos) (qv (.Name x pos')) line env=pure b:=⟨_,rfl⟩
def BH(O:StOk X ad C)(h:bU 50 C e=qv f)(hi:loc C x=qv i):PS X (.Assign [.Name x pos'] e pos) (FO (tE X ad f) (kN i)):=by
 obtain⟨r,H,v⟩:=dI (ad:=ad) 49;obtain⟨k1,_,_⟩:=dI (ad:=ad) 50;have nm:=O.nm hi;have p:=(k1 X C e f O.cx h).1
 by_cases o: ∃elt gens sc cpos,e= .ListComp elt gens sc cpos
 ·obtain⟨elt,gens,sc,cpos,rfl⟩:=o;obtain⟨b,q⟩:=y6 (x:=x) (pos':=pos') (elt:=elt) (gens:=gens) (sc:=sc) (cpos:=cpos) (line:=pos.line) (env:=X.env)
  cases b with
  |false=>exact nF O.cx.nd nm.1 nm.2.1 p q nm.2.2
  |true=>
   have c: ∃n l a,gens=[⟨n,l,a,0⟩]:=by
    unfold bU at h
    simp only at h
    split at h
    ·rename_i n l a E;split at h
     ·rename_i s;subst s;exact⟨_,_,_,rfl⟩
     ·cases h
    ·cases h
   obtain⟨n,l,a,rfl⟩:=c;obtain⟨B,k,A,G,z,y,rfl,_,S,g,d,j,t,m,u⟩:=oF r v O.cx h;exact GN O.cx.nd nm O.cx.calm S g d j t m u q
 ·refine nF O.cx.nd nm.1 nm.2.1 p ?_ nm.2.2;have I:=aQ h
  cases e<;>first|rfl|exact absurd ⟨_,_,_,_,rfl⟩ o|(unfold bU at h;cases h;done)
def Hy{e:Expr}(h:OC e=qz): ∃p,e= .Dict [] [] p:=by
 cases e<;>try (cases h;done)
 rename_i c b p
 have a:(c.isEmpty&&b.isEmpty)=qz:=h
 rw[av,ly,ly]at a;exact⟨p,by rw[a.1,a.2]⟩
def Hz(P:PS X st (FO (tE X ad f) (kN i))):MS X ad Z st (f9 i f):=by
 refine PS.imp P ?_;rintro h l H ⟨a,G,j,E,S,b,g⟩;exact eW S b g λv d e c st r k=>k _ e c ((S.step st).set r)
def HA(P:PS X st (FO (tE X ad f) (kN i))):MS X ad Z st (mT i f):=by
 refine PS.imp P ?_;rintro d g H ⟨a,G,e,E,S,b,c⟩;exact KC S b c
def Ln(K:og)(n:Nat)(t:TGs):TG:=λv σ H Q=>∃a xs,v= .ref a/\SqL K H a xs/\xs.length=n/\t xs σ H Q
def HB{t:TGs}(hc:X.calm=qz)(h:PGs X es t)(hn:(assignEach es X.env).length=n)(hst:(assignEach es X.env).findIdx? (·.1)=qw):PG X (.Tuple es k pos) (Ln X.K n t):=by
 intro j s i H v u Q I r d;obtain⟨a,p,l,y,m,d⟩:=d;subst l;cases r;obtain⟨f,g,x,B⟩:=I.list y
 have c:f.toArray.size=n:=by simp[<-m,g.length]
 rw[assign_Tuple];refine aa (wpAny_standAt ?_);unfold unpack;rw[hn,hst, <-c];refine aa (wpAny_holding (kun_itemsOf (I.ok.hd hc) x.isList λz A=>?_))
 have q:Inv X j i H {s with heap:=z}:=I.kept (t':=s.toks) λb o e=>A b o (bj (ah e)) e
 exact h j _ i H p _ Q q (by simpa using g) d
def NG(h1:PG X tg g1)(h2:PG X tg g2):PG X tg (λv σ H Q=>g1 v σ H Q\/g2 v σ H Q):=by
 intro a s σ H v u Q I r h;rcases h with h|h
 ·exact h1 a s σ H v u Q I r h
 ·exact h2 a s σ H v u Q I r h
def HC(O:StOk X ad C)(he:ME X ad e f)(hs:swapsWithSole [.Tuple es j tp] e pos.line X.env=pure q4)(hw:swappedStores [.Tuple es j tp] e X.env=pure qw)(ht:cG (.Tuple es j tp)=qv (xs,k))(hn:NmsOk X xs is):MS X ad Z (.Assign [.Tuple es j tp] e pos) (qW is f):=by
 obtain⟨P,hk⟩:=GK O.cx.calm O.cx.nd ht hn
 have k0:k≠0:=by
  unfold cG at ht;obtain⟨n,m,g⟩:=zBd ht
  by_cases b:2<=n.length
  ·rw[if_pos b]at g;cases g
   lia
  ·rw[if_neg b]at g;cases g
 have L:(k==0)=q4:=by simpa using k0
 have B:PG X (.Tuple es j tp) (Ln X.K is.length (gIs is)):=by
  unfold cG at ht;obtain⟨n,m,g⟩:=zBd ht
  by_cases b:2<=n.length
  ·rw[if_pos b]at g;cases g;obtain⟨q1,q2⟩:=jQ (X:=X) m;exact HB O.cx.calm (AJ O.cx.nd m hn) (by rw[q1,hn.len]) q2
  ·rw[if_neg b]at g;cases g
 refine PS.imp (zS he (NG P B) hs hw rfl) ?_;rintro s M H ⟨i,G,l,E,S,J,t⟩;unfold qW at t;refine eW S J t λv d x u st r q=>?_
 cases d<;>try exact az q
 case lst c=>
  have h:OKo X ad i (if c.length=is.length then .nx (setN is c l)else .rt .bad) s E:=q
  by_cases b:c.length=is.length
  ·rw[if_pos b]at h;unfold Rep at r;obtain⟨a,z,rfl,I,o⟩:=r;exact .inr ⟨a,z,rfl,st.gh.seq I,by rw[o.length,b],v5 (by rw[o.length,b]) (h _ x u ((S.step st).setN o))⟩
  ·rw[if_neg b]at h;exact h.elim
 rename_i c;refine .inl ?_
 have h:OKo X ad i (if c.length=is.length then .nx (setN is c l)else .rt .bad) s E:=q
 by_cases b:c.length=is.length
 ·rw[if_pos b]at h;refine ES (ρ1:=setN is c l) hk ?_ (S.step st) r λp A=>h p x u A
  rw[L]
  have y:yE is q4 (.tup c) l=if c.length=is.length then qv (setN is c l)else qw:=by
   cases is with
   |nil=>rfl
   |cons _ _=>rfl
  rw[y,if_pos b]
 ·rw[if_neg b]at h;exact h.elim
def kB{x y:Str}{kt k2:Nat}(h:((env.scope.names.lookup x=qv .cell\/env.scope.names.lookup y=qv .cell)/\p)/\q):swappedStores [.Tuple [.Name x px,.Name y py] kt pt] (.Tuple [a,b] k2 pt2) env=pure qw:=by
 unfold swappedStores
 have d:env.kindOf x=env.scope.names.lookup x:=rfl
 have f:env.kindOf y=env.scope.names.lookup y:=rfl
 rcases h.1.1 with e|e
 ·simp[d,f,e,nl,Expr.pos];intro _ _ _ c
  exfalso;revert c
  (repeat' split)<;>simp
 ·simp[d,f,e,nl,Expr.pos];intro _ _ _ c
  exfalso;revert c
  (repeat' split)<;>simp
def HD{e k:Expr}{x:Str}(h:OE e=qv (x,k)): ∃p tp,e= .Subscript (.Name x p) k tp:=by
 cases e<;>try (cases h;done)
 rename_i o a tp;obtain⟨⟨y,p⟩,c,b⟩:=zMd (show(cQ o).map (λ(x,_)=>(x,a))=qv (x,k) from h)
 cases b;rw[a8 c];exact⟨p,tp,rfl⟩
def HE(h:OB op=qz):op= .Add:=by
 cases op<;>first|rfl|(cases h;done)
def BI{e a b:Expr}{x y:Str}(h:Mr es e=qv ⟨x,px,y,py,a,b⟩): ∃k p,es=[.Name x px,.Name y py]/\e= .Tuple [a,b] k p:=by
 unfold Mr at h;obtain⟨⟨u,v⟩,m,h⟩:=zBd h;obtain⟨⟨n,c⟩,i,h⟩:=zBd h;obtain⟨⟨o,f⟩,j,h⟩:=zBd h;obtain⟨⟨q,k,p⟩,d,h⟩:=zBd h;obtain⟨⟨r,s⟩,l,g⟩:=zMd h;cases g;rw[w6 m,a8 i,a8 j,BD d,w6 l];exact⟨k,p,rfl,rfl⟩
def xA{e:Expr}(h:F7 e=qz): ∃s k p,e= .Constant (.str s) k p:=by
 cases e<;>try (cases h;done)
 rename_i c k p
 cases c<;>try (cases h;done)
 exact⟨_,k,p,rfl⟩
def NH(ad:Ad)(E₀:XK)(n:Nat):Prop:= ∀(X:Cx) (C:SK.Ctx) (t:Bool) (s:Stmt) (g:FS),StOk X ad C->(t=q4->DefX X E₀/\PassesOwn (model X.prog X.w) X.A X.env X.xe)->CD n t C s=qv g->MS X ad (Zt ad E₀ t) s g
def DJ(ad:Ad)(E₀:XK)(n:Nat):Prop:= ∀(X:Cx) (C:SK.Ctx) (t:Bool) (s:List Stmt) (g:FS),StOk X ad C->(t=q4->DefX X E₀/\PassesOwn (model X.prog X.w) X.A X.env X.xe)->mY n t C s=qv g->MSs X ad (Zt ad E₀ t) s g
theorem Zt.imp(h:MS X ad Z st g)(k: ∀E,Z' E->Z E):MS X ad Z' st g:=PS.imp h λf i H b=>by obtain⟨a,G,e,E,S,c,d⟩:=b;exact⟨a,G,e,E,S,⟨c.1,k E c.2⟩,d⟩
def NI(hS:DJ ad E₀ n):NH ad E₀ (n+1):=by
 intro X C t s g O P h;obtain⟨u,kL,kI⟩:=dI (ad:=ad) 50;unfold CD at h;split at h
 ·cases h;exact GE
 ·-- return
  split at h
  ·cases h
  ·split at h
   ·rename_i x p B
    cases a8 B
    split at h
    ·rename_i i e1;obtain⟨J,H,G,I⟩:=O.cx.vis x i e1;split at h
     ·cases h;exact GF J H G I
     ·cases h;exact AH (EJ J H G I)
    ·obtain⟨f,d,rfl⟩:=zMd h;exact AH (u X C _ f O.cx d).1
   ·obtain⟨f,d,rfl⟩:=zMd h;exact iE (AH (u X C _ f O.cx d).1)
 ·-- an assignment
  rename_i ts e pos;have q:=zBd h;clear h;obtain⟨U,h0,h⟩:=q
  cases cF h0
  split at h
  ·-- x=e
   obtain⟨i,d,h⟩:=zBd h;split at h
   ·rename_i A;cases h;rw[av]at A;obtain⟨dp,rfl⟩:=Hy A.1;have nm:=O.nm d;exact Hc O.cx.nd nm.1 nm.2.1 rfl nm.2.2
   ·obtain⟨f,l,rfl⟩:=zMd h;refine iE ?_;split
    ·exact HA (BH O l d)
    ·exact Hz (BH O l d)
  ·have q:=zBd h;clear h;obtain⟨⟨x,px,y,py,a,b⟩,hp,h⟩:=q;obtain⟨k2,Q,rfl,rfl⟩:=BI hp
   have h:(if lO C x y then(loc C x).bind λi=>(loc C y).bind λj=>(bU 50 C (.Tuple [a,b] k2 Q)).map λf=>eA (jM C (.Tuple [a,b] k2 Q)) (qW [i,j] f)else qw)=qv g:=h
   split at h
   ·rename_i A;obtain⟨i,d,h⟩:=zBd h;obtain⟨j,l,h⟩:=zBd h;obtain⟨f,r,rfl⟩:=zMd h
    have M:fW (λx=>loc C x) [x,y]=qv [i,j]:=by simp[fW,d,l]
    exact iE (HC (xs:=[x,y]) (k:=2) O (u X C _ f O.cx r).1 rfl (kB (by rw[O.sc];simpa[lO]using A)) rfl (O.nms M))
   ·cases h
  ·-- x[k]=e
   rename_i o k tp;have q:=zBd h;clear h;obtain⟨⟨x,p⟩,B,h⟩:=q
   cases a8 B
   obtain⟨i,d,h⟩:=zBd h;obtain⟨J,H,G,I⟩:=O.cx.vis x i d;split at h
   ·obtain⟨f,l,h⟩:=zBd h;obtain⟨g,r,rfl⟩:=zMd h;refine iE (K4 O.cx.un J H G I (u X C _ f O.cx l).1 (u X C _ g O.cx r).1 (λv=>?_) ?_ ?_)
    ·have L:=(aQ r).2.2
     cases k<;>first|rfl|exact absurd rfl (L _ _ _ _)
    ·cases e<;>rfl
    ·cases e<;>rfl
   ·cases h
  ·cases h
 ·-- o[k] += e
  have q:=zBd h;clear h;obtain⟨⟨x,k⟩,B,h⟩:=q;obtain⟨p,tp,rfl⟩:=HD B;obtain⟨i,d,h⟩:=zBd h;obtain⟨J,H,G,I⟩:=O.cx.vis x i d;split at h
  ·rename_i A;obtain⟨f,l,h⟩:=zBd h;obtain⟨g,r,rfl⟩:=zMd h
   cases HE (io.mp A).2
   refine iE (GM J H G I (u X C _ f O.cx l).1 (u X C _ g O.cx r).1 (λ_ _ _=>?_))
   have L:=(aQ r).2.2
   cases k<;>first|rfl|exact absurd rfl (L _ _ _ _)
  ·cases h
 ·-- an expression
  split at h
  ·rename_i f' as W cp;split at h
   ·rename_i K
    cases cU K
    split at h
    ·-- x.append(e)
     rename_i o m ap;have q:=zBd h;clear h;obtain⟨⟨x,p⟩,B,h⟩:=q
     cases a8 B
     have q:=zBd h;clear h;obtain⟨e,Z,h⟩:=q
     cases cF Z
     obtain⟨i,d,h⟩:=zBd h;obtain⟨J,H,G,I⟩:=O.cx.vis x i d;split at h
     ·rename_i A;rw[av]at A;obtain⟨f,l,h⟩:=zBd h;have me:=(u X C _ f O.cx l).1;have L:=aP (es:=[]) (env:=X.env) (aQ l).1;split at h
      ·rename_i M;cases h;subst M;exact iE (KG J H G I me L A.2)
      ·split at h
       ·rename_i M;cases h;subst M;exact iE (KI J H G I me L A.2)
       ·cases h
     ·cases h
    ·obtain⟨f,d,rfl⟩:=zMd h;exact iE (GG (u X C _ f O.cx d).1 rfl)
    ·cases h
   ·cases h
  ·cases h
 ·obtain⟨f,d,h⟩:=zBd h;obtain⟨ga,l,h⟩:=zBd h;obtain⟨Y,r,rfl⟩:=zMd h;exact iE (KD (u X C _ f O.cx d).2.1 (hS X C t _ ga O P l) (hS X C t _ Y O P r))
 ·-- for
  rename_i U it b T pos
  cases t with
  |true=>cases h
  |false=>
   cases T with
   |cons _ _=>cases h
   |nil=>
    simp only[Bool.false_or,List.isEmpty_nil,n9,ay,if_false]at h;obtain⟨⟨xs,k⟩,d,h⟩:=zBd h;obtain⟨f,l,h⟩:=zBd h;obtain⟨is,r,h⟩:=zBd h;split at h
    ·obtain⟨Y,h4,rfl⟩:=zMd h
     have N:MIG X ad U it f/\∀a b c,it≠ .Set a b c:=by
      unfold OD at l;split at l
      ·exact⟨o6 (u X C _ f O.cx l).1,λ_ _ _ z=>nomatch z⟩
      ·rename_i hn;exact⟨(kI X C U _ _ f O.cx (BF d).2 l).2 (λx p z=>hn x p z),λa b c z=>by subst z;exact l6 l⟩
     exact iE (ET (P rfl).2 O.cx.calm O.cx.nd N.1 d (O.nms r) (hS X C q4 _ Y O P h4) (Db N.2))
    ·cases h
 ·-- raise
  rename_i x c pos
  cases t with
  |true=>cases h
  |false=>
   cases c with
   |some _=>cases h
   |none=>
    simp only[Bool.false_or,Option.isSome_none,ay,if_false]at h;have q:=zBd h;clear h;obtain⟨e,rfl,h⟩:=q;split at h
    ·rename_i f' as W cp;split at h
     ·rename_i K
      cases cU K
      have q:=zBd h;clear h;obtain⟨⟨x,p⟩,B,h⟩:=q
      cases a8 B
      have q:=zBd h;clear h;obtain⟨a,Z,h⟩:=q
      cases cF Z
      split at h
      ·rename_i S;obtain⟨sx,k1,k2,rfl⟩:=xA S;split at h
       ·rename_i c e1 e2;cases h;obtain⟨g1,g2,g3,g4⟩:=O.cx.gl e2;exact Zt.imp (Di (P rfl).1 O.cx.calm g1 g3 g2 (O.exi c)) λE z=>z rfl
       ·cases h
      ·cases h
     ·cases h
    ·cases h
 ·cases h
def Lo(hS:NH ad E₀ n)(hSs:DJ ad E₀ n):DJ ad E₀ (n+1):=by
 intro X C t s g O c h
 have b: ∀a:Stmt,MS X ad (Zt ad E₀ t) a ((CD n t C a).getD Mo):=λa=>by
  cases e:CD n t C a with
  |none=>exact KJ
  |some f=>exact hS X C t a f O c e
 unfold mY at h;split at h
 ·cases h;exact AF
 ·cases h;exact AG (b _)
 ·obtain⟨r,d,rfl⟩:=zMd h;exact vZ (b _) (hSs X C t _ r O c d)
def sK: ∀n,NH ad E₀ n/\DJ ad E₀ n:=by
 intro n
 induction n with
 |zero=>
  refine⟨?_,?_⟩
  ·intro X C t s g O b h;unfold CD at h;cases h
  ·intro X C t s g O b h;unfold mY at h;cases h
 |succ n a=>exact⟨NI a.2,Lo a.1 a.2⟩
end
def OJ(P:Program)(w:World)(K:Frag)(mg:Str->Option Value)(base:Heap)(k:Nat)(x:Str)(sp:Sp):Prop:= ∃f r fd ps,r<=k/\mg x=qv (.ref f)/\keepIn K (.ref f)=qz/\FnOk P w K mg base (CXe P w) r f fd ps sp/\fB K fd ps []
def GlT(P:Program)(w:World)(K:Frag)(mg:Str->Option Value)(base:Heap)(ad:Ad)(k:Nat)(x:Str):SK.Gl->Prop
 |.fn j n F=>∃r f,r<=k/\mg x=qv (.ref f)/\keepIn K (.ref f)=qz/\(∃fd ps,FnOk P w K mg base (CXe P w) r f fd ps (CF K ad n F)/\fB K fd ps [])/\f=ad.fnA j
 |.exc c=>mg x=qv (.ref (ad.cls c))/\c<ad.nb
 |.verr=>x="ValueError"/\mg x=qw
 |.val d=>∃u v,mg x=qv u/\bG v u/\∀G,Rep K ad G d v
 |.py p=>x=rM p/\mg x=qw
 |.tbl kvs=>∃A,mg x=qv (.ref A)/\AU P w K ad A kvs
 |.cls A ms=>mg x=qv (.ref A)/\RkC K A/\∀m n M,ms.lookup m=qv (n,M)->(m≠"held"/\m≠"done"/\m≠"undone")/\∃f r fd ps,r<=k/\Meth K A m f/\FnOk P w K mg base (CXe P w) r f fd ps (spM K ad A n M)/\fB K fd ps []
 |.rfn A M=>OJ P w K mg base k x (spM K ad A 0 M)
 |.rmk A n M=>OJ P w K mg base k x (spR K ad A n M)
def dJ(P:Program)(w:World)(K:Frag)(mg:Str->Option Value)(base:Heap)(ad:Ad)(k:Nat)(tab:List (Str×SK.Gl)):Prop:= ∀x g,tab.lookup x=qv g->(x==("__debug__":Str))=q4/\GlT P w K mg base ad k x g
def gG(P:Program)(w:World)(K:Frag)(mg:Str->Option Value)(base:Heap)(ad:Ad)(k:Nat)(fns:List (Nat×Fn)):Prop:= ∀j n F,fns[j]? =qv (n,F)->∃r,r<=k/\keepIn K (.ref (ad.fnA j))=qz/\∃fd ps,FnOk P w K mg base (CXe P w) r (ad.fnA j) fd ps (CF K ad n F)/\fB K fd ps []
structure ExcK(K:Frag)(ad:Ad):Prop where
 exc: ∀c,ExcCls K (ad.cls c)
 kin: ∀c e,c<ad.nb->kitOne K (.ref (ad.cls e)) (.ref (ad.cls c))=qv (hit c e)
 kve: ∀e,kitOne K (.ref (ad.cls e)) (.type "ValueError")=qv qz
 exm: ∀c,exmOne K (.ref (ad.cls c)) (.ref (ad.cls 0))=qv qz
 exi: ∀c,excIn K (ad.cls c) Mw "ValueError.__new__"=qz
section
variable{P:Program}{w:World}{K:Frag}{mg:Str->Option Value}{base:Heap}{ad:Ad}{k:Nat}{tab:List (Str×SK.Gl)}
def GlT.mono(h:GlT P w K mg base ad k x g)(hk:k<=j):GlT P w K mg base ad j x g:=by
 cases g with
 |fn i n F=>
  obtain⟨r,f,a,b⟩:=h;exact⟨r,f,ol a hk,b⟩
 |exc c=>exact h
 |verr=>exact h
 |val d=>exact h
 |tbl t=>exact h
 |py p=>exact h
 |cls A u=>exact⟨h.1,h.2.1,λm n M s=>let ⟨no,f,r,e,o,l,q⟩:=h.2.2 m n M s;⟨no,f,r,e,o,ol l hk,q⟩⟩
 |rfn A M=>obtain⟨f,r,e,o,l,q⟩:=h;exact⟨f,r,e,o,ol l hk,q⟩
 |rmk A n M=>obtain⟨f,r,e,o,l,q⟩:=h;exact⟨f,r,e,o,ol l hk,q⟩
theorem dJ.mono(h:dJ P w K mg base ad k tab)(hk:k<=j):dJ P w K mg base ad j tab:=λx g e=>⟨(h x g e).1,(h x g e).2.mono hk⟩
def BJ(h:K.lookup a=qv o)(hc:o.cls= .type "tuple")(hd:o.dict=qw)(hs:o.data= .seq its n)(hz:its.size<=sizeLine)(hv:bQ vs its.toList)(hr:aJ K ad G ds vs):Rep K ad G (.tup ds) (.ref a):=by
 unfold Rep;exact⟨a,vs,rfl,.inr ⟨o,its,n,h,hc,hd,hs,hz,hv⟩,hr⟩
def dJ.nil:dJ P w K mg base ad k []:=λx g e=>by cases e
def dJ.cons{x:Str}{g:SK.Gl}(h:dJ P w K mg base ad k tab)(hd:(x==("__debug__":Str))=q4)(hg:GlT P w K mg base ad k x g):dJ P w K mg base ad k ((x,g)::tab):=by
 intro y a e;rw[ky]at e
 cases q:y==x with
 |true=>
  rw[q]at e;cases e
  have:y=x:=by simpa using q
  subst this;exact⟨hd,hg⟩
 |false=>
  rw[q]at e;exact h y a e
def gG.nil:gG P w K mg base ad k []:=λj n F e=>by simp at e
def gG.snoc{F:Fn}(h:gG P w K mg base ad k fns)(hk:k<=k')(hl:fns.length=j)(hf:f=ad.fnA j)(hr:r<=k')(kp:keepIn K (.ref f)=qz)(ok:FnOk P w K mg base (CXe P w) r f fd ps (CF K ad n F))(hb:fB K fd ps []):
  gG P w K mg base ad k' (fns++[(n,F)]):=by
 intro i m G e;subst hf
 by_cases b:i<fns.length
 ·rw[cc b]at e;obtain⟨g,c,d⟩:=h i m G e;exact⟨g,ol c hk,d⟩
 ·rw[bo (by lia)]at e
  cases a:i-fns.length with
  |zero=>
   rw[a]at e;cases e
   have:i=j:=by lia
   subst this;exact⟨r,hr,kp,fd,ps,ok,hb⟩
  |succ q=>rw[a]at e;simp at e
def dM(h:bV N Ps sc=qz):FnScope N Ps sc/\∀x∈N,(x==("__debug__":Str))=q4/\(x==("__classdict__":Str))=q4:=by
 unfold bV at h;simp only[av]at h;obtain⟨⟨⟨⟨⟨⟨⟨j,e⟩,g⟩,c⟩,i⟩,d⟩,f⟩,l⟩:=h;refine⟨⟨by simpa using j,by simpa using e,by simpa using g,of_decide_eq_true c,of_decide_eq_true i,λx a=>?_,λy b z=>?_⟩,λx a=>?_⟩
 ·have:=zAd d x a
  rcases(Bool.or_eq_true _ _).mp this with z|z
  ·exact .inl (gR z)
  ·exact .inr (gR z)
 ·have:=zAd f y b
  rw[z]at this
  simp at this
 ·have:=zAd l x a
  simpa using this
def kY(hG:Same G X.H₀)(r:aJ X.K ad G ds vs):SS X ad G G X.H₀ (ds.map Slot.sh++ak n .no) (vs.map qv++ak n qw):=by
 have u:=r.length
 have c: ∀(i:Nat) (g:Slot),(ds.map Slot.sh++ak n .no)[i]? =qv g->(∃d v,g= .sh d/\(vs.map qv++ak n qw)[i]? =qv (qv v)/\Rep X.K ad G d v)\/(g= .no/\∃m,(vs.map qv++ak n qw)[i]? =qv m):=λi g e=>by
  by_cases s:i<ds.length
  ·rw[cc (by simpa using s),ju]at e
   cases b:ds[i]? with
   |none=>rw[b]at e;cases e
   |some d=>
    rw[b]at e;cases e;obtain⟨v,t,q⟩:=r.get b;refine .inl ⟨d,v,rfl,?_,q⟩;rw[cc (by rw[ao];lia),ju,t]
    rfl
  ·rw[bo (by simpa using s),fy]at e
   split at e
   ·cases e;refine .inr ⟨rfl,qw,?_⟩;rename_i o;rw[bo (by rw[ao];lia),fy,if_pos]
    rw[ao]at o ⊢
    lia
   ·cases e
 refine⟨Step.refl hG,⟨by simp[u],λi g e=>?_⟩,λi y a e w h=>?_,λi j y J a b t x H M N=>?_,?_⟩
 ·rcases c i g e with ⟨d,v,rfl,b,q⟩|⟨rfl,m,b⟩
  ·exact⟨qv v,b,v,rfl,q⟩
  ·exact⟨m,b,trivial⟩
 ·rcases c i _ e with ⟨d,v,z,_⟩|⟨z,_⟩<;>(subst z;exact(bg w).elim)
 ·rcases c i _ b with ⟨d,v,z,_⟩|⟨z,_⟩<;>(subst z;exact(bg x).elim)
 ·have no: ∀{i:Nat} {l:List Addr}, ¬gQ X.H₀ (ds.map Slot.sh++ak n .no) (vs.map qv++ak n qw) i l:=λ{i l} f=>by
   obtain⟨C,r,p,E,d,L,I,A,_⟩:=f;rcases c i _ A with ⟨d,v,z,_⟩|⟨z,_⟩<;>cases z
  exact⟨λi l f=>(no f).elim,λi l f=>(no f).elim,λi j l B a f=>(no f).elim⟩
def uW(B:ExcK K ad)(TB:dJ P w K mg base ad k tab)(FB:gG P w K mg base ad k fns)(hs:bV (aE sc) ps sc=qz)(hr:Room k (A.deeper (envOfC qual sc s.heap.objs.size f cdv))):
  StOk (p6 (CXe P w) P w K mg base (aE sc) qual sc f cdv A outer s H E) ad ⟨tab,fns,sc,aE sc,bs⟩:=by
 obtain⟨S,nm⟩:=dM hs;let C:SK.Ctx:=⟨tab,fns,sc,aE sc,bs⟩
 have y: ∀x i,loc C x=qv i->(aE sc)[i]? =qv x/\Loc sc x/\x∈aE sc:=λx i e=>by
  obtain⟨G,h⟩:=uJ e;refine⟨jO G,?_,uI G⟩;rcases h with h|h|h
  ·exact .inl h
  ·exact .inr h
  ·exact absurd rfl (S.nofree _ (gS h))
 refine⟨⟨rfl,S.nd,λx i e=>?_,λx e=>e,λx g e=>?_,λx i e=>?_,rfl,?_,hr.hd,B.exc,B.kin,B.kve,λj m J e=>?_⟩,λ_=>rfl,rfl,λx i e=>(y x i e).2.1,B.exm,B.exi⟩
 ·obtain⟨a,b,c⟩:=y x i e;exact⟨a,b.elim .inl λz=>.inr (.inl z),(nm x c).1,(nm x c).2⟩
 ·obtain⟨a,b⟩:=TB x g e;refine⟨a,?_⟩
  cases g with
  |fn j m J=>
   obtain⟨I,L,l,o,q,t,v⟩:=b;exact⟨I,L,⟨o,q,t⟩,hr.mono l,v⟩
  |exc c=>exact b
  |verr=>exact b
  |val d=>exact b
  |tbl N=>exact b
  |py p=>exact b
  |cls A Q=>exact⟨b.1,b.2.1,λm n M O=>let ⟨no,f,r,u,ps,l,o,q,t⟩:=b.2.2 m n M O;⟨no,f,r,u,ps,o,q,hr.mono l,t⟩⟩
  |rfn A M=>obtain⟨f,r,u,ps,l,o,q,t,v⟩:=b;exact⟨f,r,u,ps,o,q,t,hr.mono l,v⟩
  |rmk A n M=>obtain⟨f,r,u,ps,l,o,q,t,v⟩:=b;exact⟨f,r,u,ps,o,q,t,hr.mono l,v⟩
 ·obtain⟨G,h⟩:=jS e;rcases h with h|h
  ·exact .inl h
  ·exact absurd rfl (S.nofree _ (gS h))
 ·exact Nat.lt_of_le_of_lt (Nat.add_le_add_left (by decide:62<=64) _) hr.units
 ·obtain⟨I,l,o,q⟩:=FB j m J e;exact⟨I,⟨o,q⟩,hr.mono l⟩
def E9{st:Stmt}{F:Fn}(B:ExcK K ad)(TB:dJ P w K mg base ad k tab)(FB:gG P w K mg base ad k fns)(Fu:Fun K x qual st f fd)(hps:cH (defArgs st)=qv ps)(hd:Ak tab fns st=qv (n,F)):FnOk P w K mg base (CXe P w) (k+1) f fd ps (CF K ad n F):=by
 obtain⟨oc,od,kV,ab,pm,an,o,Z,ac,rfl,lk,M⟩:=Fu.ex
 cases st with
 |FunctionDef nm W b dl re tp i ts bi pos=>
  have t:((cH W).bind λY=>if bV (aE i) Y i then(mY 100 q4 ⟨tab,fns,i,aE i,C1 50 b⟩ b).map λg=>(Y.length,SK.fnOf (aE i).length g)else qw)=qv (n,F):=hd
  have q:cH W=qv ps:=hps
  rw[q]at t
  have l:(if bV (aE i) ps i then(mY 100 q4 ⟨tab,fns,i,aE i,C1 50 b⟩ b).map λg=>(ps.length,SK.fnOf (aE i).length g)else qw)=qv (n,F):=t
  by_cases u:bV (aE i) ps i=qz
  ·rw[if_pos u]at l;obtain⟨g,hg,e⟩:=zMd l;cases e;obtain⟨S,nm⟩:=dM u;refine zY lk M S (λvs H Q E ⟨G,m,_,r,N,_⟩=>by rw[r.length,N]) λA j s H vs Q E hr L=>?_
   obtain⟨G,m,hG,r,N,hq⟩:=L;let C:SK.Ctx:=⟨tab,fns,i,aE i,C1 50 b⟩;have O:StOk (p6 (CXe P w) P w K mg base (aE i) qual i f o A j s H E) ad C:=uW B TB FB u hr;have T:DefX (p6 (CXe P w) P w K mg base (aE i) qual i f o A j s H E) E:=⟨rfl,rfl,rfl,λe s' h=>h⟩
   refine⟨_,(sK (ad:=ad) (E₀:=E) 100).2 _ C q4 b g O (λ_=>⟨T,kh (Q₁:=λe I=>CXe P w j H s E e I)⟩) hg,?_⟩
   refine⟨G,G,m.map Slot.sh++ak ((aE i).length-m.length) .no,λv c p=>E (.ref (ad.cls c)) qw p,?_,⟨λv=>v9 T,λ_ v c H h=>h⟩,?_⟩
   ·have:=kY (X:=p6 (CXe P w) P w K mg base (aE i) qual i f o A j s H E) (ad:=ad) (n:=(aE i).length-m.length) hG r
    unfold L2.start;rw[r.length];exact this
   ·have a:RK K ad G H (match g (m.map Slot.sh++ak ((aE i).length-m.length) .no)with
     |.rt (.ok d)=>.ok d
     |.rt (.ow U)=>.ow U
     |.rt _=>.bad
     |.nx _=>.ok .non
     |.ex c _=>.ex c
     |_=>.bad) Q (λc p=>E (.ref (ad.cls c)) qw p):=hq
    cases e:g (m.map Slot.sh++ak ((aE i).length-m.length) .no)with
    |nx z=>rw[e]at a;exact λv J p y=>a .non J p y.st (by unfold Rep;rfl)
    |bk z=>rw[e]at a;exact a.elim
    |ct z=>rw[e]at a;exact a.elim
    |ex c z=>rw[e]at a;exact λv J p y=>a J p y.st
    |rt r'=>
     rw[e]at a
     cases r' with
     |ok d=>exact a
     |ow U=>exact a
     |ex c=>exact a.elim
     |bad=>exact a.elim
  ·rw[if_neg u]at l;cases l
 |_=>cases hd
noncomputable def xB(K:Frag)(cs:List Addr)(C0:Addr):Bool:=
 decide (cs.length<=100)&&cs.head?==qv C0&&cs.all λC=>(clsIn K C).isSome&&mroIn K C (.type "object")==qv qz&&mroIn K C (.type "BaseException")==qv qz&&findIn K (.ref C) "__class__"==qv (qv (.builtin "object.__class__"))&&
  findIn K (.ref C) "__getattribute__"==qv (qv (.builtin "BaseException.__getattribute__"))&&findIn K (.ref C) "__getattr__"==qv qw&&kitOne K (.ref C) (.type "ValueError")==qv qz&&exmOne K (.ref C) (.ref C0)==qv qz&&
  excIn K C Mw "ValueError.__new__"
def xC(K:Frag)(cs:List Addr):Bool:=cs.zipIdx.all λp=>cs.zipIdx.all λq=>kitOne K (.ref p.1) (.ref q.1)==qv (hit q.2 p.2)
noncomputable def HF(cs:List Addr)(C0:Addr)(fs:List Addr):Ad:=⟨λc=>cs.getD c C0,λk=>if k<1000 then fs.getD k 0 else k-1000,cs.length⟩
def HG(h:xB K cs C0=qz)(h2:xC K cs=qz):ExcK K (HF cs C0 fs):=by
 unfold xB at h;rw[av,av]at h;obtain⟨⟨n,j⟩,u⟩:=h
 have n:cs.length<=100:=of_decide_eq_true n
 have j:cs.head?=qv C0:=by simpa using j
 have g:C0∈cs:=List.mem_of_mem_head? (by rw[j];rfl)
 have get: ∀c,(HF cs C0 fs).cls c∈cs:=λc=>by
  show cs.getD c C0∈cs;rw[ce]
  cases e:cs[c]? with
  |none=>exact g
  |some a=>exact List.mem_of_getElem? e
 have o:cs[0]? =qv C0:=by rw[<-List.head?_eq_getElem?];exact j
 have q:(HF cs C0 fs).cls 0=C0:=by
  show cs.getD 0 C0=C0;rw[ce,o];rfl
 have all: ∀C∈cs,ExcCls K C/\kitOne K (.ref C) (.type "ValueError")=qv qz/\exmOne K (.ref C) (.ref C0)=qv qz/\excIn K C Mw "ValueError.__new__"=qz:=λC v=>by
  have:=zAd u C v
  simp only[av,beq_iff_eq]at this;obtain⟨⟨⟨⟨⟨⟨⟨⟨G,h2⟩,I⟩,A⟩,E⟩,y⟩,z⟩,t⟩,x⟩:=this;exact⟨⟨G,h2,I,A,E,y⟩,z,t,x⟩
 have d: ∀(c e:Nat) (a b:Addr),cs[e]? =qv a->cs[c]? =qv b->kitOne K (.ref a) (.ref b)=qv (hit c e):=λc e a b f i=>by
  unfold xC at h2;have J:(a,e)∈cs.zipIdx:=List.mem_zipIdx_iff_getElem?.mpr f;have H:(b,c)∈cs.zipIdx:=List.mem_zipIdx_iff_getElem?.mpr i
  have:=zAd (zAd h2 _ J) _ H
  simpa using this
 refine⟨λc=>(all _ (get c)).1,λc e r=>?_,λe=>(all _ (get e)).2.1,λc=>?_,λc=>(all _ (get c)).2.2.2⟩
 ·have l:c<cs.length:=r;obtain⟨b,i⟩: ∃b,cs[c]? =qv b:=⟨_,bf l⟩
  have p:(HF cs C0 fs).cls c=b:=by
   show cs.getD c C0=b;rw[ce,i];rfl
  rw[p]
  cases f:cs[e]? with
  |some a=>
   have m:(HF cs C0 fs).cls e=a:=by
    show cs.getD e C0=a;rw[ce,f];rfl
   rw[m];exact d c e a b f i
  |none=>
   have m:(HF cs C0 fs).cls e=C0:=by
    show cs.getD e C0=C0;rw[ce,f];rfl
   have s:cs.length<=e:=List.getElem?_eq_none_iff.mp f
   rw[m,d c 0 C0 b o i]
   congr 1
   unfold hit
   have B:(c==e)=q4:=by simp;lia
   rw[B]
   cases c<;>simp
 ·rw[q];exact(all _ (get c)).2.2.1
end
inductive OutM where
 |nx (ρ:Rho) (b:Bool)|rt (x:R) (ρ:Rho) (b:Bool)|ex (c:Nat) (b:Bool)|bad
abbrev FSM:=Rho->Bool->OutM
noncomputable def zJ(b:Bool)(r:R)(k:D->OutM):OutM:=match r with
 |.ok d=>k d
 |.ow xs=>k (.lst xs)
 |.ex c=>.ex c b
 |.bad=>.bad
noncomputable def gH:FSM:=λρ b=>.nx ρ b
noncomputable def eY(g h:FSM):FSM:=λρ b=>match g ρ b with
 |.nx ρ' b'=>h ρ' b'
 |o=>o
noncomputable def mIf(f:F)(g h:FSM):FSM:=λρ b=>match f ρ with
 |.ok (.bl k)=>if k then g ρ b else h ρ b
 |.ex c=>.ex c b
 |_=>.bad
def HH(i:Nat)(f:F):FSM:=λρ b=>zJ b (f ρ) λd=>.nx (ρ.set (i+1) (.sh d)) b
def sL(f:F):FSM:=λρ b=>zJ b (f ρ) λ_=>.nx ρ b
noncomputable def xD(f:F):FSM:=λρ b=>match f ρ with
 |.ex c=>.ex c b
 |x=>.rt x ρ b
noncomputable def BK(c:Nat):FSM:=λ_ b=>.ex c b
def StB(b:Bool)(foot:List Addr)(G₀ H₀ G H:Hp):Prop:=if b=qz then StepR foot G₀ H₀ G H else Step G₀ H₀ G H
def StepR.step(a:StepR foot G₀ H₀ G H)(t:Step G H G1 H1)(fr: ∀b,H₀ b≠qw->H b≠qw):StepR foot G₀ H₀ G1 H1:=
 ⟨a.sg.trans t.sg,t.gh,λb o c e=>t.sh _ _ (a.sh b o c e),λb f d=>by
  cases q:G b with
  |none=>
   have:=t.nw b q d
   cases z:H₀ b with
   |none=>rfl
   |some o=>exact absurd this (fr b (by rw[z];exact λy=>nomatch y))
  |some o=>exact a.nw b f (by rw[q];exact λz=>nomatch z),λb c=>by
  cases q:H b with
  |none=>exact absurd q (fr b c)
  |some o=>rw[t.sh b o q];exact λz=>nomatch z⟩
def Step.toR(a:Step G₀ H₀ G H):StepR foot G₀ H₀ G H:=⟨a.sg,a.gh,λb o _ e=>a.sh b o e,a.nw,λb c=>by
 cases q:H₀ b with
 |none=>exact absurd q c
 |some o=>rw[a.sh b o q];exact λz=>nomatch z⟩
noncomputable def shN:Slot->Bool
 |.no=>qz
 |.sh _=>qz
 |_=>q4
structure SM(X:Cx)(ad:Ad)(A:Nat)(G₀:Hp)(p dx d l1 l20:Addr)(b:Bool)(G H:Hp)(ρ:Rho)(σ:St):Prop where
 sl:SL X.K ad G H ρ σ
 gh:Same G H
 me:σ[0]? =qv (qv (.ref p))
 rk: ∃r l2,ρ[0]? =qv (.rk A r)/\RackIn X.K ad A G H p r dx d l1 l2/\(l2=l20\/X.H₀ l2=qw)
 st:StB b [p,dx,d,l1,l20] G₀ X.H₀ G H
 fr: ∀c,X.H₀ c≠qw->H c≠qw
 on: ∀j sl,ρ[j+1]? =qv sl->shN sl=qz
def OKm(X:Cx)(ad:Ad)(A:Nat)(G₀:Hp)(p dx d l1 l20:Addr)(o:OutM)(D':Ends)(E:Nat->Hp->Prop):Prop:=match o with
 |.nx ρ b=>∀σ G H,SM X ad A G₀ p dx d l1 l20 b G H ρ σ->D'.nx σ H
 |.rt (.ok x) ρ b=>∀σ G H v,SM X ad A G₀ p dx d l1 l20 b G H ρ σ->Rep X.K ad G x v->D'.rt v H
 |.rt (.ow xs) _ b=>b=q4/\∀q vs G H,Step G₀ X.H₀ G H->X.H₀ q=qw->G q=qw->H q=qv (.lst vs)->aJ X.K ad G xs vs->D'.rt (.ref q) H
 |.ex c b=>b=q4/\∀G H,Step G₀ X.H₀ G H->E c H
 |_=>False
def tM(X:Cx)(ad:Ad)(A:Nat)(E:Nat->Hp->Prop)(g:FSM):TS:=λD' σ H=>∃G₀ p dx d l1 l20 G ρ b,SM X ad A G₀ p dx d l1 l20 b G H ρ σ/\OKm X ad A G₀ p dx d l1 l20 (g ρ b) D' E
abbrev MM(X:Cx)(ad:Ad)(A:Nat)(E:Nat->Hp->Prop)(st:Stmt)(g:FSM):Prop:=PS X st (tM X ad A E g)
abbrev MMs(X:Cx)(ad:Ad)(A:Nat)(E:Nat->Hp->Prop)(sts:List Stmt)(g:FSM):Prop:=PSs X sts (tM X ad A E g)
section
variable{X:Cx}{ad:Ad}{A:Nat}{G₀ G H G1 H1:Hp}{p dx d l1 l20:Addr}{b:Bool}{ρ:Rho}{σ:St}{E:Nat->Hp->Prop}{D':Ends}{f:F}{g h:FSM}{e c:Expr}{st:Stmt}{pos:Pos}
theorem SM.step(S:SM X ad A G₀ p dx d l1 l20 b G H ρ σ)(t:Step G H G1 H1):SM X ad A G₀ p dx d l1 l20 b G1 H1 ρ σ:=by
 obtain⟨r,f,i,g,h⟩:=S.rk;refine⟨S.sl.step t,t.gh,S.me,⟨r,f,i,g.step t,h⟩,?_,λc e=>?_,S.on⟩
 ·have z:=S.st;unfold StB at z ⊢
  by_cases a:b=qz
  ·rw[if_pos a]at z ⊢;exact z.step t S.fr
  ·rw[if_neg a]at z ⊢;exact z.trans t
 ·cases q:H c with
  |none=>exact absurd q (S.fr c e)
  |some o=>rw[t.sh c o q];exact λz=>nomatch z
def sM{k:D->OutM}{Q':VK}(S:SM X ad A G₀ p dx d l1 l20 b G H ρ σ)(hx:XP X ad σ E)(hr:OKm X ad A G₀ p dx d l1 l20 (zJ b (f ρ) k) D' E)
  (q: ∀v x G1 H1,SM X ad A G₀ p dx d l1 l20 b G1 H1 ρ σ->Rep X.K ad G1 x v->OKm X ad A G₀ p dx d l1 l20 (k x) D' E->Step G H G1 H1->Q' v H1):tE X ad f σ H Q':=by
 refine⟨G,ρ,E,S.gh,S.sl,hx,?_⟩
 cases e:f ρ with
 |ok x=>
  rw[e]at hr;exact λv G1 H1 t r=>q v x G1 H1 (S.step t) r hr t
 |ow o=>
  rw[e]at hr;intro a l G1 H1 t n m j r;obtain⟨i,t2,g⟩:=cS (X:=X) (ad:=ad) t n m j r;exact q _ _ i H1 (S.step t2) g hr t2
 |ex c=>
  rw[e]at hr;obtain⟨h,hr⟩:=hr;have z:=S.st;unfold StB at z;rw[h,if_neg bg]at z;exact λG1 H1 t=>hr G1 H1 (z.trans t)
 |bad=>
  rw[e]at hr;exact hr
def HI:MM X ad A E (.Pass pos) gH:=PS.imp zQ λi g H a=>by obtain⟨c,p,h,d,j,e,G,l,b,S,f⟩:=a;exact f g G H S
def HJ:MMs X ad A E [] gH:=PSs.imp zP λi g H a=>by obtain⟨c,p,h,d,j,e,G,l,b,S,f⟩:=a;exact f g G H S
def DK(h1:MM X ad A E st g)(h2:MMs X ad A E sts h):MMs X ad A E (st::sts) (eY g h):=by
 refine PSs.imp (iW h1 h2) ?_;rintro t v H ⟨f,p,m,d,n,j,G,o,b,S,a⟩;refine⟨f,p,m,d,n,j,G,o,b,S,?_⟩;unfold eY at a
 cases e:g o b with
 |nx i l=>
  rw[e]at a;exact λs q y r=>⟨f,p,m,d,n,j,q,i,l,r,a⟩
 |rt x i l=>
  rw[e]at a
  cases x with
  |ok x=>exact a
  |ow u=>exact a
  |ex c=>exact a
  |bad=>exact a
 |ex c l=>rw[e]at a;exact a
 |bad=>rw[e]at a;exact a
def NJ{a b:List Stmt}(hx: ∀σ,XP X ad σ E)(hc:MT X ad c f)(ha:MMs X ad A E a g)(hb:MMs X ad A E b h):MM X ad A E (.If c a b pos) (mIf f g h):=by
 refine PS.imp (FL hc ha hb) ?_;rintro y σ H ⟨j,p,q,d,s,m,G,n,b,S,i⟩;unfold mIf at i
 cases e:f n with
 |ok x=>
  rw[e]at i
  cases x<;>try exact i.elim
  rename_i k;refine⟨G,n,E,S.gh,S.sl,hx σ,.inl ⟨k,e⟩,?_⟩;rw[e];intro v o u t r;unfold Rep at r;subst r;refine⟨k,rfl,?_⟩
  have l:OKm X ad A j p q d s m (if k=qz then g n b else h n b) y E:=i
  cases k
  ·rw[if_neg bg]at l;show if q4=qz then _ else _
   rw[if_neg bg];exact⟨j,p,q,d,s,m,o,n,b,S.step t,l⟩
  ·rw[if_pos rfl]at l;show if qz=qz then _ else _
   rw[if_pos rfl];exact⟨j,p,q,d,s,m,o,n,b,S.step t,l⟩
 |ow B=>rw[e]at i;exact i.elim
 |ex c=>
  rw[e]at i;obtain⟨hb,i⟩:=i;have z:=S.st;unfold StB at z;rw[hb,if_neg bg]at z;refine⟨G,n,E,S.gh,S.sl,hx σ,.inr ⟨c,e⟩,?_⟩;rw[e];exact λo u t=>i o u (z.trans t)
 |bad=>rw[e]at i;exact i.elim
theorem SM.set(S:SM X ad A G₀ p dx d l1 l20 b G H ρ σ)(r:Rep X.K ad G x v):SM X ad A G₀ p dx d l1 l20 b G H (ρ.set (i+1) (.sh x)) (σ.set (i+1) (qv v)):=by
 obtain⟨g,h,f,l,m⟩:=S.rk;refine⟨⟨by rw[mn,mn];exact S.sl.len,λj sl e=>?_⟩,S.gh,by rw[ba (by lia)];exact S.me,⟨g,h,by rw[ba (by lia)];exact f,l,m⟩,S.st,S.fr,λj sl e=>?_⟩
 ·by_cases z:j=i+1
  ·subst z;have a:i+1<ρ.length:=by have:=(ax.mp e).1;rwa [mn]at this
   rw[bn a]at e;cases e;exact⟨qv v,bn (by rw[<-S.sl.len];exact a),v,rfl,r⟩
  ·rw[ba (qu z)]at e;obtain⟨c,k1,k2⟩:=S.sl.at_ j sl e;exact⟨c,by rw[ba (qu z)];exact k1,k2⟩
 ·by_cases z:j=i
  ·subst z;have a:j+1<ρ.length:=by have:=(ax.mp e).1;rwa [mn]at this
   rw[bn a]at e;cases e;rfl
  ·rw[ba (by lia)]at e
   exact S.on j sl e
def HK(hx: ∀σ,XP X ad σ E)(he:ME X ad e f)(hs:swapsWith e qw pos.line X.env=pure q4):MM X ad A E (.Expr e pos) (sL f):=by
 refine PS.imp (jL he hs) ?_;rintro m σ H ⟨a,p,l,d,n,j,G,o,b,S,g⟩;exact sM S (hx σ) g λv x i h c r k _=>k _ i h c
def Lp(hx: ∀σ,XP X ad σ E)(he:ME X ad e f):MM X ad A E (.Return (qv e) pos) (xD f):=by
 refine PS.imp (vG he) ?_;rintro B σ H ⟨l,p,y,d,I,u,G,j,b,S,a⟩;refine⟨G,j,E,S.gh,S.sl,hx σ,?_⟩;unfold xD at a
 cases e:f j with
 |ok x=>
  rw[e]at a;exact λv h g t r=>a σ h g v (S.step t) r
 |ow C=>
  rw[e]at a;obtain⟨i,a⟩:=a;have z:=S.st;unfold StB at z;rw[i,if_neg bg]at z;exact λq o h g t n m s r=>a q o h g (z.trans t) (z.sh.free n) m s r
 |ex c=>
  rw[e]at a;obtain⟨i,a⟩:=a;have z:=S.st;unfold StB at z;rw[i,if_neg bg]at z;exact λh g t=>a h g (z.trans t)
 |bad=>
  rw[e]at a;exact a
def DM{E₀:XK}{x:Str}{k:Nat}{np cpos kp:Pos}{msg:Str}{j:Nat}(T:DefX X E₀)(hc:X.calm=qz)(hg:L2.Gl X x)(hm:X.mg x=qv (.ref (ad.cls k)))(hd:(x==("__debug__":Str))=q4)(hi:excIn X.K (ad.cls k) [.type "ValueError",.type "Exception",.type "BaseException",.type "object"] "ValueError.__new__"=qz)(hE: ∀c H,E c H->E₀ (.ref (ad.cls c)) qw H):
  MM X ad A E (.Raise (qv (.Call (.Name x np) [.Constant (.str msg) j kp] [] cpos)) qw pos) (BK k):=by
 rintro m s l H i I ⟨e,p,h,d,n,g,G,o,b,S,a⟩;obtain⟨f,a⟩:=a;have z:=S.st;unfold StB at z;rw[f,if_neg bg]at z;exact wB T hc hg hm hd hi I (hE k H (a G H z))
end
noncomputable def m9(kvs:List (Str×D))(x:Str)(d:D):List (Str×D):=if(kvs.any λp=>decide (p.1=x))=qz then kvs.map (λp=>if p.1=x then(p.1,d)else p)else kvs++[(x,d)]
noncomputable def mUp(A:Nat)(ρ:Rho)(k:Rk->OutM):OutM:=match(ρ[0]? :Option Slot)with
 |some (.rk C r)=>if C=A then k r else .bad
 |_=>.bad
noncomputable def setR(A:Nat)(ρ:Rho)(r:Rk):OutM:=.nx (ρ.set 0 (.rk A r)) qz
noncomputable def OL(bb:Bool)(r:Rk)(d:D):Rk:=if bb then {r with done:=r.done++[d]} else {r with undone:=r.undone++[d]}
def NK(A:Nat)(bb:Bool)(f:F):FSM:=λρ b=>mUp A ρ λr=>zJ b (f ρ) λd=>if(Kc bb r).length<LIM then setR A ρ (OL bb r d)else .bad
def xE(A:Nat):FSM:=λρ _=>mUp A ρ λr=>setR A ρ {r with undone:=[]}
def HL(A:Nat)(f g:F):FSM:=λρ b=>zJ b (g ρ) λv=>mUp A ρ λr=>zJ b (f ρ) λk=>match k with
 |.str x=>if r.held.length<LIM then setR A ρ {r with held:=m9 r.held x v} else .bad
 |_=>.bad
noncomputable def NL(b:Bool)(r:RA)(k:List D->OutM):OutM:=match r with
 |.ok ds=>k ds
 |.ex c=>.ex c b
 |.bad=>.bad
section
variable{X:Cx}{ad:Ad}{A:Nat}{G₀:Hp}{p dx d l1 l20:Addr}{ρ:Rho}{σ:St}{E:Nat->Hp->Prop}{D':Ends}{f:F}{e:Expr}{pos ap cp np qp:Pos}{x:Str}
def xF{k:Rk->OutM}(hr:OKm X ad A G₀ p dx d l1 l20 (mUp A ρ k) D' E): ∃r,ρ[0]? =qv (.rk A r)/\OKm X ad A G₀ p dx d l1 l20 (k r) D' E:=by
 unfold mUp at hr;split at hr
 ·rename_i C r e
  by_cases a:C=A
  ·rw[if_pos a]at hr;subst a;exact⟨r,e,hr⟩
  ·rw[if_neg a]at hr;exact hr.elim
 ·exact hr.elim
theorem SM.toR(S:SM X ad A G₀ p dx d l1 l20 b G H ρ σ):StepR [p,dx,d,l1,l20] G₀ X.H₀ G H:=by
 have z:=S.st;unfold StB at z
 by_cases a:b=qz
 ·rw[if_pos a]at z;exact z
 ·rw[if_neg a]at z;exact z.toR
def SM.chg(S:SM X ad A G₀ p dx d l1 l20 b G H ρ σ)(hf:a∈[p,dx,d,l1,l20]\/X.H₀ a=qw)(ga:G a=qw)(hR:RackIn X.K ad A G (upd H a o) p r' dx d l1 l2)(h2:l2=l20\/X.H₀ l2=qw):
  SM X ad A G₀ p dx d l1 l20 qz G (upd H a o) (ρ.set 0 (.rk A r')) σ:=by
 have h:0<ρ.length:=by
  obtain⟨r,_,l,_⟩:=S.rk;exact(ax.mp l).1
 have gh:Same G (upd H a o):=λc u e=>by
  have g:c≠a:=λz=>by rw[z,ga]at e;cases e
  rw[aD g];exact S.gh c u e
 refine⟨⟨by rw[mn];exact S.sl.len,λj sl e=>?_⟩,gh,S.me,⟨r',l2,bn h,hR,h2⟩,?_,λc f=>?_,λj sl e=>?_⟩
 ·cases j with
  |zero=>
   rw[bn h]at e;cases e;exact⟨_,S.me,p,dx,d,l1,l2,rfl,hR⟩
  |succ j=>
   rw[ba (by lia)]at e
   obtain⟨i,k1,k2⟩:=S.sl.at_ _ sl e;have m:=S.on j sl e;refine⟨i,k1,?_⟩
   cases sl with
   |no=>trivial
   |sh d=>exact k2
   |_=>cases m
 ·show StB qz _ _ _ _ _;unfold StB;rw[if_pos rfl];have z:=S.toR
  refine⟨z.sg,gh,λc u f e=>?_,z.nw,λc f=>by
   by_cases q:c=a
   ·subst q;rw[aG];exact λz=>nomatch z
   ·rw[aD q];exact S.fr c f⟩
  have g:c≠a:=λq=>by
   subst q;rcases hf with hf|hf
   ·exact f hf
   ·rw[hf]at e;cases e
  rw[aD g];exact z.sh c u f e
 ·by_cases q:c=a
  ·subst q;rw[aG];exact λz=>nomatch z
  ·rw[aD q];exact S.fr c f
 ·rw[ba (by lia)]at e
  exact S.on j sl e
def Lq(h2:l2=l20\/X.H₀ l2=qw):l2∈[p,dx,d,l1,l20]\/X.H₀ l2=qw:=h2.elim (λz=>.inl (by rw[z];simp)) .inr
def RackIn.list(bb:Bool)(h:RackIn X.K ad A G H p r dx d l1 l2)(rv:aJ X.K ad G ds vs):RackIn X.K ad A G (upd H (if bb then l1 else l2) (.lst vs)) p (if bb then {r with done:=ds} else {r with undone:=ds}) dx d l1 l2:=by
 obtain⟨a,b,f⟩:=h.held;obtain⟨n,c,j⟩:=h.done;obtain⟨m,g,i⟩:=h.undone
 have e: ∀{l:Addr} {ws:List V},H l=qv (.lst ws)->p≠l/\dx≠l/\d≠l:=λ{l ws} hl=>
  ⟨(λz=>by rw[<-z,h.ins]at hl;cases hl),(λz=>by rw[<-z,h.own]at hl;cases hl),(λz=>by rw[<-z,b]at hl;cases hl)⟩
 cases bb
 ·obtain⟨q1,q2,q3⟩:=e g;exact⟨by show upd H l2 _ _=_;rw[aD q1];exact h.ins,by show upd H l2 _ _=_;rw[aD q2];exact h.own,⟨a,by show upd H l2 _ _=_;rw[aD q3];exact b,f⟩,⟨n,by show upd H l2 _ _=_;rw[aD h.ne];exact c,j⟩,⟨vs,aG,rv⟩,h.ne,h.gp,h.gx,h.gd,h.g1,h.g2⟩
 ·obtain⟨q1,q2,q3⟩:=e c;exact⟨by show upd H l1 _ _=_;rw[aD q1];exact h.ins,by show upd H l1 _ _=_;rw[aD q2];exact h.own,⟨a,by show upd H l1 _ _=_;rw[aD q3];exact b,f⟩,⟨vs,aG,rv⟩,⟨m,by show upd H l1 _ _=_;rw[aD h.ne.symm];exact g,i⟩,h.ne,h.gp,h.gx,h.gd,h.g1,h.g2⟩
def Lr(bb:Bool)(RC:RkC X.K A)(h:RackIn X.K ad A G H p r dx d l1 l2)(hi:σ[0]? =qv (qv (.ref p)))(q:Q (.ref (if bb then l1 else l2)) H):Mj X.K (Jx 0) (if bb then "done" else "undone") σ H Q:=by
 cases bb
 ·exact iF RC h hi (fd:="undone") rfl RC.n3 q
 ·exact iF RC h hi (fd:="done") rfl RC.n2 q
def Fa(bb:Bool)(h:RackIn X.K ad A G H p r dx d l1 l2): ∃vs,H (if bb then l1 else l2)=qv (.lst vs)/\aJ X.K ad G (Kc bb r) vs/\G (if bb then l1 else l2)=qw:=by
 cases bb
 ·obtain⟨c,f,a⟩:=h.undone;exact⟨c,f,a,h.g2⟩
 ·obtain⟨g,e,b⟩:=h.done;exact⟨g,e,b,h.g1⟩
def Ls(bb:Bool)(hx: ∀σ,XP X ad σ E)(RC:RkC X.K A)(hN:X.N[0]? =qv x)(hv:Vis X.env.scope x)(hd:(x==("__debug__":Str))=q4)(hcd:(x==("__classdict__":Str))=q4)(he:ME X ad e f)(hs:starEach [e] X.env=(q4,eval e X.env)::starEach [] X.env)(hl:(ap.endLine==cp.line)=qz):
  MM X ad A E (.Expr (.Call (.Attribute (.Attribute (.Name x np) (if bb then "done" else "undone") qp) "append" ap) [e] [] cp) pos) (NK A bb f):=by
 refine PS.imp (jL (F1 (T:="list") f7 PySem.F.slot_list_append PySem.F.type_list_append lI (iX (b9 hN hv hd hcd) rfl) (b8 he cZ hs) rfl (fM hs) hl hs rfl) rfl) ?_;rintro P σ H ⟨q,p,t,d,g,j,G,Q,b,S,h⟩;obtain⟨r,s,h⟩:=xF h;obtain⟨U,l,m,i,o⟩:=S.rk;rw[s]at m;cases m;obtain⟨u,k1,k2,k3⟩:=Fa bb i;unfold JI tBM;refine Lr bb RC i S.me ?_;refine⟨.inl ⟨rfl,u,SqL.of k1⟩,?_⟩;refine sM S (hx σ) h λv y M W B J k st=>?_
 have a:=i.step st;obtain⟨C,O,n,I⟩:=Fa bb a
 by_cases c:(Kc bb r).length<LIM
 ·rw[if_pos c]at k;refine⟨_,C,v,rfl,rfl,O,by rw[n.length];exact bh c (by decide),?_⟩
  have L:(if bb then g else l)∈[p,t,d,g,j]\/X.H₀ (if bb then g else l)=qw:=by
   cases bb
   ·exact Lq o
   ·exact .inl (by simp)
  refine k σ M _ (B.chg (r':=OL bb r y) L I ?_ o);have z:=a.list bb (n.append (aJ.cons J aJ.nil))
  cases bb<;>exact z
 ·rw[if_neg c]at k;exact k.elim
end
def sN(A:Nat)(M:FM)(fs:List F):FSM:=λρ b=>mUp A ρ λr=>NL b (args fs ρ) λds=>match M r ds with
 |.pure x=>zJ b x λ_=>.nx ρ b
 |.chg _ r'=>.nx (ρ.set 0 (.rk A r')) qz
section
variable{X:Cx}{ad:Ad}{A n:Nat}{G₀ G H G1 H1:Hp}{p dx d l1 l2 l20:Addr}{b:Bool}{ρ:Rho}{σ:St}{E:Nat->Hp->Prop}{D':Ends}{f g:F}{fs:List F}{e k v:Expr}{es:List Expr}{pos ap cp np qp kp lp:Pos}{x m:Str}{r':Rk}{M:FM}
def DN(RC:RkC X.K A)(hN:X.N[0]? =qv x)(hv:Vis X.env.scope x)(hd:(x==("__debug__":Str))=q4)(hcd:(x==("__classdict__":Str))=q4):
  MM X ad A E (.Assign [.Attribute (.Name x np) "undone" qp] (.List [] lp) pos) (xE A):=by
 refine PS.imp (vI (b9 hN hv hd hcd) (vJ cZ) rfl) ?_;rintro P L H ⟨t,p,h,d,B,M,G,Q,b,S,g⟩;obtain⟨r,u,g⟩:=xF g;obtain⟨T,l2,m,s,U⟩:=S.rk;rw[u]at m;cases m;refine⟨cb _,λl n=>?_⟩
 have st:Step G H G (upd H l (.lst [])):=Step.own S.gh n;have v:=S.step st;have a:=s.step st
 have C:X.H₀ l=qw:=by
  cases q:X.H₀ l with
  |none=>rfl
  |some o=>exact absurd n (S.fr l (by rw[q];exact λz=>nomatch z))
 obtain⟨f,i,y⟩:=a.held;obtain⟨O,j,I⟩:=a.done
 have el:upd H l (.lst []) l=qv (.lst []):=aG
 have e: ∀{c:Addr} {o:HO},upd H l (.lst []) c=qv o->(∀fs,o≠ .ins A h fs)->c≠p:=λ{c o} hc ho z=>by
  rw[z,a.ins]at hc;cases hc;exact ho _ rfl
 have J:B≠l:=λz=>by
  obtain⟨w,q1,_⟩:=s.done;rw[z,n]at q1;cases q1
 refine⟨.ref p,S.me,p,A,h,_,rfl,a.ins,RC.cl,RC.n3,by show 3<1000;decide,?_⟩
 refine g L G _ (v.chg (r':={r with undone:=[]}) (l2:=l) (.inl (by simp)) a.gp ?_ (.inr C))
 exact⟨aG,by rw[aD (e a.own λ_ z=>nomatch z)];exact a.own,⟨f,by rw[aD (e i λ_ z=>nomatch z)];exact i,y⟩,⟨O,by rw[aD (e j λ_ z=>nomatch z)];exact j,I⟩,
  ⟨[],by rw[aD (e el λ_ z=>nomatch z)];exact el,aJ.nil⟩,J,a.gp,a.gx,a.gd,a.g1,S.gh.free n⟩
def Lu{K:Frag}{held:List (Str×D)}{kvs:List (L2.Key×V)}(h:HR K ad G held kvs)(x:Str):(kvs.any λq=>decide (q.1=(qt x:L2.Key)))=held.any λp=>decide (p.1=x):=by
 induction h with
 |nil=>rfl
 |@cons p q c d b t a=>
  rw[n4,n4,a]
  have e:decide (q.1=(qt x:L2.Key))=decide (p.1=x):=by
   rw[b.1]
   by_cases z:p.1=x
   ·rw[z];simp
   ·simp[z]
  rw[e]
def Fb{K:Frag}{v:V}(h:HR K ad G held kvs)(rv:Rep K ad G y v)(x:Str):HR K ad G (m9 held x y) (L2.putK kvs (qt x) v):=by
 unfold m9 L2.putK;rw[Lu h x]
 by_cases a:(held.any λp=>decide (p.1=x))=qz
 ·rw[if_pos a,if_pos a];clear a
  induction h with
  |nil=>exact .nil
  |@cons p q e f b t c=>
   rw[ny,ny];refine .cons ?_ c
   by_cases z:p.1=x
   ·have d:q.1=(qt x:L2.Key):=by rw[b.1,z]
    rw[if_pos z,if_pos d];exact⟨b.1,rv⟩
   ·have d: ¬q.1=(qt x:L2.Key):=λy=>z (by rw[b.1]at y;exact qt.inj y)
    rw[if_neg z,if_neg d];exact b
 ·rw[if_neg a,if_neg a];clear a
  induction h with
  |nil=>exact .cons ⟨rfl,rv⟩ .nil
  |cons b t c=>exact .cons b c
def RackIn.dict{held:List (Str×D)}(h:RackIn X.K ad A G H p r dx d l1 l2)(rv:HR X.K ad G held kvs):RackIn X.K ad A G (upd H d (.dK kvs)) p {r with held:=held} dx d l1 l2:=by
 obtain⟨b,g,m⟩:=h.held;obtain⟨l,a,i⟩:=h.done;obtain⟨j,e,f⟩:=h.undone
 have ne: ∀{c:Addr} {o:HO},H c=qv o->(∀fs,o≠ .dK fs)->c≠d:=λ{c o} hc ho z=>by
  rw[z,g]at hc;cases hc;exact ho _ rfl
 exact⟨by rw[aD (ne h.ins λ_ z=>nomatch z)];exact h.ins,by rw[aD (ne h.own λ_ z=>nomatch z)];exact h.own,⟨kvs,aG,rv⟩,⟨l,by rw[aD (ne a λ_ z=>nomatch z)];exact a,i⟩,
  ⟨j,by rw[aD (ne e λ_ z=>nomatch z)];exact e,f⟩,h.ne,h.gp,h.gx,h.gd,h.g1,h.g2⟩
def HM(hu:X.A.units+62<cLine)(hx: ∀σ,XP X ad σ E)(RC:RkC X.K A)(hN:X.N[0]? =qv x)(hv:Vis X.env.scope x)(hd:(x==("__debug__":Str))=q4)(hcd:(x==("__classdict__":Str))=q4)(hk:ME X ad k f)(hw:ME X ad v g)(hs:swapsWith v (qv (.Subscript (.Attribute (.Name x np) "held" qp) k kp)) pos.line X.env=pure q4):
  MM X ad A E (.Assign [.Subscript (.Attribute (.Name x np) "held" qp) k kp] v pos) (HL A f g):=by
 refine PS.imp (Bz (by lia) (iX (b9 hN hv hd hcd) rfl) hk hw hs) ?_
 rintro L σ H ⟨h,p,J,d,O,n,G,P,b,S,T⟩;refine sM S (hx σ) T λw y G1 H1 j l c st=>?_
 obtain⟨r,I,c⟩:=xF c;obtain⟨Z,Y,t,B,W⟩:=j.rk;rw[I]at t;cases t;refine iF RC B j.me (fd:="held") rfl RC.n1 ?_;refine sM j (hx σ) c λu z U H2 Q o k2 e=>?_
 cases z with
 |str q=>
  unfold Rep at o;subst o;have a:=B.step e;obtain⟨m,M,s⟩:=a.held
  have C:m.length=r.held.length:=(nu s).symm
  have k3:OKm X ad A h p J d O n (if r.held.length<LIM then setR A P {r with held:=m9 r.held q y} else .bad) L E:=k2
  by_cases i:r.held.length<LIM
  ·rw[if_pos i]at k3;refine⟨d,_,rfl,Ji.k (k:=qt q) M (by rw[C];exact bh i (by decide)),?_⟩
   exact k3 σ U _ (Q.chg (.inl (by simp)) a.gd (a.dict (Fb s (l.mono e.sg) q)) W)
  ·rw[if_neg i]at k3;exact k3.elim
 |_=>exact k2.elim
def HN{k:List D->OutM}{Q':List V->Hp->Prop}(S:SM X ad A G₀ p dx d l1 l20 b G H ρ σ)(hx:XP X ad σ E)(hr:OKm X ad A G₀ p dx d l1 l20 (NL b (args fs ρ) k) D' E)
  (q: ∀vs ds G1 H1,SM X ad A G₀ p dx d l1 l20 b G1 H1 ρ σ->aJ X.K ad G1 ds vs->ds.length=fs.length->OKm X ad A G₀ p dx d l1 l20 (k ds) D' E->Step G H G1 H1->Q' vs H1):tA X ad fs σ H Q':=by
 refine⟨G,ρ,E,S.gh,S.sl,hx,?_⟩
 cases e:args fs ρ with
 |ok ds=>
  rw[e]at hr;exact λvs G1 H1 t r=>q vs ds G1 H1 (S.step t) r (fJ e) hr t
 |ex c=>
  rw[e]at hr;obtain⟨a,hr⟩:=hr;have z:=S.st;unfold StB at z;rw[a,if_neg bg]at z;exact λG1 H1 t=>hr G1 H1 (z.trans t)
 |bad=>
  rw[e]at hr;exact hr
def SM.call(S:SM X ad A G₀ p dx d l1 l20 b G H ρ σ)(h2:l2=l20\/X.H₀ l2=qw)(t:StepR [p,dx,d,l1,l2] G H G1 H1)(hR:RackIn X.K ad A G1 H1 p r' dx d l1 l2')(h3:l2'=l2\/H l2'=qw):SM X ad A G₀ p dx d l1 l20 qz G1 H1 (ρ.set 0 (.rk A r')) σ:=by
 have g:0<ρ.length:=by
  obtain⟨r,_,l,_⟩:=S.rk;exact(ax.mp l).1
 have f: ∀c,H c=qw->X.H₀ c=qw:=λc a=>by
  cases q:X.H₀ c with
  |none=>rfl
  |some o=>exact absurd a (S.fr c (by rw[q];exact λz=>nomatch z))
 refine⟨⟨by rw[mn];exact S.sl.len,λj sl e=>?_⟩,t.gh,S.me,⟨r',l2',bn g,hR,?_⟩,?_,λc a=>t.th c (S.fr c a),λj sl e=>?_⟩
 ·cases j with
  |zero=>
   rw[bn g]at e;cases e;exact⟨_,S.me,p,dx,d,l1,l2',rfl,hR⟩
  |succ j=>
   rw[ba (by lia)]at e
   obtain⟨h,k1,k2⟩:=S.sl.at_ _ sl e;have n:=S.on j sl e;refine⟨h,k1,?_⟩
   cases sl with
   |no=>trivial
   |sh d=>
    obtain⟨v,q1,q2⟩:=k2;exact⟨v,q1,q2.mono t.sg⟩
   |_=>cases n
 ·rcases h3 with rfl|h3
  ·exact h2
  ·exact .inr (f _ h3)
 ·show StB qz _ _ _ _ _;unfold StB;rw[if_pos rfl];have z:=S.toR;refine⟨z.sg.trans t.sg,t.gh,λc u a e=>t.sh c u (λm=>?_) (z.sh c u a e),λc s i=>?_,λc a=>t.th c (S.fr c a)⟩
  ·simp only[au,k7,or_false,not_or]at m a;rcases m with m|m|m|m|m
   ·exact a.1 m
   ·exact a.2.1 m
   ·exact a.2.2.1 m
   ·exact a.2.2.2.1 m
   ·rcases h2 with h2|h2
    ·exact a.2.2.2.2 (m.trans h2)
    ·rw[m,h2]at e;cases e
  ·cases q:G c with
   |none=>exact f c (t.nw c q i)
   |some o=>exact z.nw c s (by rw[q];exact λy=>nomatch y)
 ·rw[ba (by lia)]at e
  exact S.on j sl e
def DO(S:SM X ad A G₀ p dx d l1 l20 b G H ρ σ)(h2:l2=l20\/X.H₀ l2=qw){R':RM}(hr:OKm X ad A G₀ p dx d l1 l20 (match R' with|.pure x=>zJ b x λ_=>.nx ρ b|.chg _ r'=>.nx (ρ.set 0 (.rk A r')) qz) D' E):
  RMK X.K ad A G H p dx d l1 l2 R' (λ_ H1=>D'.nx σ H1) E:=by
 cases R' with
 |pure x=>
  have a:OKm X ad A G₀ p dx d l1 l20 (zJ b x λ_=>.nx ρ b) D' E:=hr
  cases x with
  |ok y=>exact λv e H1 t _=>a σ e H1 (S.step t)
  |ow o=>exact λq n e H1 t _ _ _ _=>a σ e H1 (S.step t)
  |ex c=>
   obtain⟨h,f⟩:=a;have z:=S.st;unfold StB at z;rw[h,if_neg bg]at z;exact λe H1 t=>f e H1 (z.trans t)
  |bad=>exact a.elim
 |chg x r'=>exact λv g j m t i l _=>hr σ g j (S.call h2 t i l)
def HP(hx: ∀σ,XP X ad σ E)(RC:RkC X.K A)(M0:MetOk X ad A m n M)(hN:X.N[0]? =qv x)(hv:Vis X.env.scope x)(hd:(x==("__debug__":Str))=q4)(hcd:(x==("__classdict__":Str))=q4)(ha:MA X ad (e::es) fs)(hn:fs.length=n)(hst:starEach (e::es) X.env=(q4,eval e X.env)::starEach es X.env)(hpl:(backTo cp (starEach es X.env)).any (·.1)=q4)(hfm:methodCallForm ((e::es).length+([]:List Keyword).length) (backTo cp (starEach (e::es) X.env)) (backToKw cp (keywordEach [] X.env))=qz)(hln:(ap.endLine==cp.line)=qz):
  MM X ad A E (.Expr (.Call (.Attribute (.Name x np) m ap) (e::es) [] cp) pos) (sN A M fs):=by
 rintro o s σ H J I ⟨T,p,Z,d,l1,ab,G,ρ,b,S,t⟩;obtain⟨r,Y,t⟩:=xF t;obtain⟨q,l2,L,Q,h2⟩:=S.rk;rw[Y]at L;cases L
 have g:wpAny (model X.prog X.w) X.A (eval (.Call (.Attribute (.Name x np) m ap) (e::es) [] cp) X.env) (EP X o σ λ_ a=>J.nx σ a) X.xe s:=by
  obtain⟨fm,k,fd,ps,z,_⟩:=M0.ok;refine PySem.W.methodCall_KW (L2.thn (b9 hN hv hd hcd o s σ H (λv a=>v= .ref p/\a=H) I ⟨.ref p,S.me,rfl,rfl⟩) λu P C=>?_) (sG rfl hfm hln)
  obtain⟨v,a,h,q,U,e2⟩:=C;subst U;subst e2
  cases (show u=qj p from q)
  refine nJ h Q.ins RC.cl z (E7 M0.no) ?_
  refine jh (first:=[.ref p]) (h₀:=X.base) h.ok.mod.kin z.kp (L2.thn (ha cp o P σ a (λj H2=>∃c f,Step G a f H2/\aJ X.K ad f c j/\c.length=fs.length/\RMK X.K ad A f H2 p Z d l1 l2 (M r c) (λ_ H3=>J.nx σ H3) E) h
   (HN S (hx σ) t λj c f H2 S1 B i k st=>⟨c,f,st,B,i,DO S1 h2 k⟩)) λus s2 ⟨j,H2,O,r2,c,f,st,B,i,k⟩=>⟨O.kIn,?_⟩) hst hpl
  exact uT M0 O st.gh (Q.step st) r2 B (i.trans hn) (hx σ) k z
 exact wpAny_Expr_any (L2.thn g λv P l=>by obtain⟨y,a,h,q,q1⟩:=l;exact⟨σ,a,h,q1⟩) I.quiet rfl
end
structure CA where
 o:Expr
 m:Str
 ap:Pos
 as:List Expr
 cp:Pos
def BL:Expr->Option CA
 |.Call f as kws cp=>if kws.isEmpty then(CZ f).bind λ(o,m,ap)=>if(ap.endLine==cp.line)=qz then qv ⟨o,m,ap,as,cp⟩ else qw else qw
 |_=>qw
def DP(h:CZ e=qv (o,f,q)):e= .Attribute o f q:=by
 cases e<;>first|(cases h;rfl)|(cases h;done)
def sO(h:BL e=qv c):e= .Call (.Attribute c.o c.m c.ap) c.as [] c.cp/\(c.ap.endLine==c.cp.line)=qz:=by
 cases e<;>try (cases h;done)
 rename_i f as a cp
 have b:(if a.isEmpty then(CZ f).bind λ(o,m,ap)=>if(ap.endLine==cp.line)=qz then qv (⟨o,m,ap,as,cp⟩:CA)else qw else qw)=qv c:=h
 by_cases hk:a.isEmpty=qz
 ·rw[if_pos hk]at b;obtain⟨⟨o,m,ap⟩,j,i⟩:=zBd b
  have d:(if(ap.endLine==cp.line)=qz then qv (⟨o,m,ap,as,cp⟩:CA)else qw)=qv c:=i
  by_cases g:(ap.endLine==cp.line)=qz
  ·rw[if_pos g]at d;cases d
   cases DP j
   cases ly.mp hk
   exact⟨rfl,g⟩
  ·rw[if_neg g]at d;cases d
 ·rw[if_neg hk]at b;cases b
noncomputable def Lv:Option Nat->Option Nat
 |some (i+1)=>qv i
 |_=>qw
def DQ(h:Lv o=qv i):o=qv (i+1):=by
 cases o with
 |none=>cases h
 |some j=>cases j with
  |zero=>cases h
  |succ j=>cases h;rfl
noncomputable def Fc:Expr->Bool
 |.List es _=>es.isEmpty
 |_=>q4
def BM(h:Fc e=qz): ∃p,e= .List [] p:=by
 cases e<;>try (cases h;done)
 rename_i es p
 cases ly.mp (show es.isEmpty=qz from h)
 exact⟨p,rfl⟩
def NN(A:Nat)(C:SK.Ctx)(t e:Expr):Option FSM:=match t with
 |.Name x _=>(Lv (loc C x)).bind λi=>(bU 50 C e).map λf=>HH i f
 |.Attribute o f q=>if atF C "undone" (.Attribute o f q)=qv 0/\Fc e=qz then qv (xE A)else qw
 |.Subscript o k _=>if atF C "held" o=qv 0 then(bU 50 C k).bind λf=>(cQ e).bind λ(y,py)=>(bU 50 C (.Name y py)).map λg=>HL A f g else qw
 |_=>qw
noncomputable def NO:FSM:=λ_ _=>.bad
def Lw{ad:Ad}{st:Stmt}:MM X ad A E st NO:=λ_ _ _ _ _ _ a=>by obtain⟨_,_,_,_,_,_,_,_,_,_,b⟩:=a;exact b.elim
def NP(A:Nat)(ms:List (Str×Nat×FM))(C:SK.Ctx)(e:Expr):Option FSM:=match BL e with
 |some c=>(match cQ c.o with
  |some (x,_)=>if loc C x=qv 0 then(ms.lookup c.m).bind λ(n,M)=>if c.as.length<20/\c.as.isEmpty=q4 then(fW (bU 50 C) c.as).bind λfs=>if fs.length=n then qv (sN A M fs)else qw else qw else qw
  |none=>(match Kd C c.o with
   |some (i,bb)=>if i=0/\c.m="append" then(one c.as).bind λa=>(bU 50 C a).map λf=>NK A bb f else qw
   |none=>if atF C "held" c.o=qv 0 then qv NO else qw))
 |none=>(match e with
  |.Call f as kws cp=>if kws.isEmpty then(bU 50 C (.Call f as [] cp)).map sL else qw
  |_=>qw)
def HQ(C:SK.Ctx)(x:Option Expr):Option FSM:=x.bind λe=>(match e with
 |.Call f as kws _=>if kws.isEmpty then(cQ f).bind λ(x,_)=>(one as).bind λa=>if F7 a then(match loc C x,glo C x with
  |none,qv (.exc c)=>qv (BK c)
  |_,_=>qw)else qw else qw
 |_=>qw)
noncomputable def isN{α:Type}:Option α->Bool
 |none=>qz
 |some _=>q4
mutual
def mS:Nat->Nat->List (Str×Nat×FM)->SK.Ctx->Stmt->Option FSM
 |0,_,_,_,_=>qw
 |n+1,A,ms,C,st=>match st with
  |.Pass _=>qv gH
  |.If c a b _=>(bU 50 C c).bind λf=>(mSs n A ms C a).bind λg=>(mSs n A ms C b).map λh=>mIf f g h
  |.Return e _=>e.bind λe=>(bU 50 C e).map xD
  |.Raise x c _=>if isN c then HQ C x else qw
  |.Assign ts e _=>(one ts).bind λt=>NN A C t e
  |.Expr e _=>NP A ms C e
  |_=>qw
def mSs:Nat->Nat->List (Str×Nat×FM)->SK.Ctx->List Stmt->Option FSM
 |0,_,_,_,_=>qw
 |n+1,A,ms,C,l=>match l with
  |[]=>qv gH
  |st::r=>(mS n A ms C st).bind λg=>(mSs n A ms C r).map λh=>eY g h
end
section
variable{X:Cx}{ad:Ad}{A:Nat}{C:SK.Ctx}{E:Nat->Hp->Prop}{E₀:XK}{ms:List (Str×Nat×FM)}{e t:Expr}{g:FSM}{pos:Pos}
structure MeOk(X:Cx)(ad:Ad)(A:Nat)(ms:List (Str×Nat×FM))(C:SK.Ctx)(E:Nat->Hp->Prop)(E₀:XK):Prop where
 O:StOk X ad C
 T:DefX X E₀
 hx: ∀σ,XP X ad σ E
 hE: ∀c H,E c H->E₀ (.ref (ad.cls c)) qw H
 RC:RkC X.K A
 MO: ∀m n M,ms.lookup m=qv (n,M)->MetOk X ad A m n M
def HS(L:MeOk X ad A ms C E E₀)(h:NN A C t e=qv g):MM X ad A E (.Assign [t] e pos) g:=by
 obtain⟨B,kL,kI⟩:=dI (ad:=ad) 50;unfold NN at h;split at h
 ·rename_i y py;have hx:=zBd h;clear h;obtain⟨i,n,h⟩:=hx;have a:=DQ n;have nm:=L.O.nm a;obtain⟨f,u,rfl⟩:=zMd h;refine PS.imp (BH L.O u a) ?_;rintro D' T H ⟨I,p,dx,d,l1,Y,G,ρ,b,S,P⟩;exact sM S (L.hx T) P λv x W U M r k _=>k _ W U (M.set r)
 ·rename_i o f q;split at h
  ·rename_i c;cases h;obtain⟨x,K,N,J,m⟩:=jB c.1;cases J;obtain⟨lp,rfl⟩:=BM c.2;obtain⟨z,l,j,s⟩:=L.O.cx.vis x 0 m;exact DN L.RC z l j s
  ·cases h
 ·rename_i o k kp;split at h
  ·rename_i c;obtain⟨x,K,N,rfl,m⟩:=jB c;obtain⟨z,l,j,s⟩:=L.O.cx.vis x 0 m;have hx:=zBd h;clear h;obtain⟨f,n,h⟩:=hx;have hx:=zBd h;clear h;obtain⟨⟨y,py⟩,u,h⟩:=hx
   cases a8 u
   obtain⟨Q,Z,rfl⟩:=zMd h;exact HM L.O.cx.un L.hx L.RC z l j s (B X C _ f L.O.cx n).1 (B X C _ Q L.O.cx Z).1 rfl
  ·cases h
 ·cases h
def HU(L:MeOk X ad A ms C E E₀)(h:NP A ms C e=qv g):MM X ad A E (.Expr e pos) g:=by
 obtain⟨n,Y,Z⟩:=dI (ad:=ad) 50;unfold NP at h;split at h
 ·rename_i c B;obtain⟨rfl,l⟩:=sO B;obtain⟨o,m,ap,z,T⟩:=c
  simp only at h l ⊢
  split at h
  ·rename_i x H I
   cases a8 I
   split at h
   ·rename_i j;obtain⟨y,q,p,u⟩:=L.O.cx.vis x 0 j;have hx:=zBd h;clear h;obtain⟨⟨P,M⟩,d,h⟩:=hx
    simp only at h
    split at h
    ·rename_i b;have hx:=zBd h;clear h;obtain⟨fs,W,h⟩:=hx;split at h
     ·rename_i U;cases h;obtain⟨J,s⟩:=sJ n L.O.cx W
      cases z with
      |nil=>exact absurd b.2 (by simp)
      |cons a r=>exact HP L.hx L.RC (L.MO m P M d) y q p u J U (aP (s a (.head _))) (kX λe K=>s e (.tail _ K)) (uV s b.1) l
     ·cases h
    ·cases h
   ·cases h
  ·split at h
   ·rename_i i N S;split at h
    ·rename_i v;obtain⟨rfl,rfl⟩:=v;have hx:=zBd h;clear h;obtain⟨a,t,h⟩:=hx
     cases cF t
     obtain⟨f,d,rfl⟩:=zMd h;obtain⟨x,H,qp,rfl,j⟩:=uU S;obtain⟨y,q,p,u⟩:=L.O.cx.vis x 0 j;exact Ls N L.hx L.RC y q p u (n X C _ f L.O.cx d).1 (aP (aQ d).1) l
    ·cases h
   ·split at h
    ·cases h;exact Lw
    ·cases h
 ·split at h
  ·rename_i f z Q T;split at h
   ·rename_i hk
    cases ly.mp hk
    obtain⟨G,t,rfl⟩:=zMd h;exact HK L.hx (n X C _ G L.O.cx t).1 rfl
   ·cases h
  ·cases h
def DS(L:MeOk X ad A ms C E E₀)(h:HQ C x=qv g):MM X ad A E (.Raise x qw pos) g:=by
 unfold HQ at h;have d:=zBd h;clear h;obtain⟨e,rfl,h⟩:=d;split at h
 ·rename_i s v i y;split at h
  ·rename_i f
   cases cU f
   have d:=zBd h;clear h;obtain⟨⟨x,p⟩,l,h⟩:=d
   cases a8 l
   have d:=zBd h;clear h;obtain⟨a,n,h⟩:=d
   cases cF n
   split at h
   ·rename_i b;obtain⟨u,k1,k2,rfl⟩:=xA b;split at h
    ·rename_i c r j;cases h;obtain⟨q,m,o,t⟩:=L.O.cx.gl j;exact DM L.T L.O.cx.calm q o m (L.O.exi c) L.hE
    ·cases h
   ·cases h
  ·cases h
 ·cases h
theorem Fd(L:MeOk X ad A ms C E E₀): ∀n:Nat,(∀st g,mS n A ms C st=qv g->MM X ad A E st g)/\∀l g,mSs n A ms C l=qv g->MMs X ad A E l g
 |0=>⟨(λ_ _ h=>by cases h),(λ_ _ h=>by cases h)⟩
 |n+1=>by
  obtain⟨o,b⟩:=Fd L n;obtain⟨m,r,s⟩:=dI (ad:=ad) 50;refine⟨λst g h=>?_,λl g h=>?_⟩
  ·unfold mS at h;split at h
   ·cases h;exact HI
   ·obtain⟨f,a,h⟩:=zBd h;obtain⟨d,j,h⟩:=zBd h;obtain⟨i,q,rfl⟩:=zMd h;exact NJ L.hx (m X C _ f L.O.cx a).2.1 (b _ d j) (b _ i q)
   ·have hx:=zBd h;clear h;obtain⟨e,rfl,h⟩:=hx;obtain⟨f,a,rfl⟩:=zMd h;exact Lp L.hx (m X C _ f L.O.cx a).1
   ·rename_i x c pos;split at h
    ·rename_i p
     cases c with
     |some _=>cases p
     |none=>exact DS L h
    ·cases h
   ·have hx:=zBd h;clear h;obtain⟨t,a,h⟩:=hx
    cases cF a
    exact HS L h
   ·exact HU L h
   ·cases h
  ·unfold mSs at h;split at h
   ·cases h;exact HJ
   ·obtain⟨d,a,h⟩:=zBd h;obtain⟨i,j,rfl⟩:=zMd h;exact DK (o _ d a) (b _ i j)
end
noncomputable def DT(A:Nat)(ρ:Rho)(x:D):RM:=match(ρ[0]? :Option Slot)with
 |some (.rk C r)=>if C=A then .chg x r else .pure .bad
 |_=>.pure .bad
def l7(A:Nat):OutM->RM
 |.rt (.ok x) ρ b=>if b then DT A ρ x else .pure (.ok x)
 |.rt (.ow xs) _ b=>if b then .pure .bad else .pure (.ow xs)
 |.rt _ _ _=>.pure .bad
 |.nx ρ b=>if b then DT A ρ .non else .pure (.ok .non)
 |.ex c b=>if b then .pure .bad else .pure (.ex c)
 |.bad=>.pure .bad
def nE(A N:Nat)(g:FSM):FM:=λr ds=>l7 A (g (.rk A r::(ds.map Slot.sh++ak (N-(ds.length+1)) .no)) q4)
def HV(tab:List (Str×SK.Gl))(A:Nat)(ms:List (Str×Nat×FM))(st:Stmt):Option (Nat×FM):=match st with
 |.FunctionDef _ as b _ _ _ sc _ _ _=>(cH as).bind λps=>if bV (aE sc) ps sc then(mSs 100 A ms ⟨tab,[],sc,aE sc,[]⟩ b).map λg=>(ps.length-1,nE A (aE sc).length g)else qw
 |_=>qw
def SL.cons{K:Frag}{ad:Ad}{G H:Hp}{ρ:Rho}{σ:St}{s:Slot}{ov:Option V}(h:SL K ad G H ρ σ)(h0:SLi K ad G H s ov):SL K ad G H (s::ρ) (ov::σ):=
 ⟨by simp[h.len],λi a e=>by
  cases i with
  |zero=>cases e;exact⟨ov,rfl,h0⟩
  |succ i=>exact h.at_ i a e⟩
section
variable{K:Frag}{ad:Ad}{tab:List (Str×SK.Gl)}
def Fe{st:Stmt}{A n:Nat}{ms:List (Str×Nat×FM)}(B:ExcK K ad)(TB:dJ P w K mg base ad k tab)(RC:RkC K A)(MO: ∀m n M,ms.lookup m=qv (n,M)->(m≠"held"/\m≠"done"/\m≠"undone")/\∃f r fd ps,r<=k/\Meth K A m f/\FnOk P w K mg base (CXe P w) r f fd ps (spM K ad A n M)/\fB K fd ps [])(Fu:Fun K x qual st f fd)(hps:cH (defArgs st)=qv (self::ps))(hd:HV tab A ms st=qv (n,M)):FnOk P w K mg base (CXe P w) (k+1) f fd (self::ps) (spM K ad A n M):=by
 obtain⟨oc,od,kV,a6,pm,an,a4,ct,a7,rfl,lk,a1⟩:=Fu.ex
 cases st with
 |FunctionDef nm as b dl re tp o ts bi pos=>
  have a0:((cH as).bind λps=>if bV (aE o) ps o then(mSs 100 A ms ⟨tab,[],o,aE o,[]⟩ b).map λg=>(ps.length-1,nE A (aE o).length g)else qw)=qv (n,M):=hd
  have ar:cH as=qv (self::ps):=hps
  rw[ar]at a0
  have U:(if bV (aE o) (self::ps) o then(mSs 100 A ms ⟨tab,[],o,aE o,[]⟩ b).map λg=>((self::ps).length-1,nE A (aE o).length g)else qw)=qv (n,M):=a0
  by_cases hs:bV (aE o) (self::ps) o=qz
  ·rw[if_pos hs]at U;obtain⟨g,hg,e⟩:=zMd U;cases e;obtain⟨S,nm⟩:=dM hs;refine zY lk a1 S (λvs H Q E ac=>?_) λA' ab s H vs Q E hr ac=>?_
   ·obtain⟨G,p,r,dx,d,l1,Z,u,ws,rfl,_,_,rq,hl,_⟩:=ac
    have:=rq.length
    simp at hl ⊢
    lia
   obtain⟨G,p,r,dx,d,l1,Z,u,ws,rfl,hG,hR,rq,hl,hq⟩:=ac;let C:SK.Ctx:=⟨tab,[],o,aE o,[]⟩
   have am: ∀x i,loc C x=qv i->(aE o)[i]? =qv x/\Loc o x/\x∈aE o:=λx i e=>by
    obtain⟨e1,t⟩:=uJ e;refine⟨jO e1,?_,uI e1⟩;rcases t with t|t|t
    ·exact .inl t
    ·exact .inr t
    ·exact absurd rfl (S.nofree _ (gS t))
   let X:=p6 (CXe P w) P w K mg base (aE o) qual o f a4 A' ab s H E
   have O:StOk X ad C:=by
    refine⟨⟨rfl,S.nd,λx i e=>?_,λx e=>e,λx g e=>?_,λx i e=>?_,rfl,?_,hr.hd,B.exc,B.kin,B.kve,λj m F' e=>by cases e⟩,λ_=>rfl,rfl,λx i e=>(am x i e).2.1,B.exm,B.exi⟩
    ·obtain⟨a,b,c⟩:=am x i e;exact⟨a,b.elim .inl λz=>.inr (.inl z),(nm x c).1,(nm x c).2⟩
    ·obtain⟨a,b⟩:=TB x g e;refine⟨a,?_⟩
     cases g with
     |fn j m F'=>
      obtain⟨r',f',N,Y,W,I,h5⟩:=b;exact⟨r',f',⟨Y,W,I⟩,hr.mono N,h5⟩
     |exc c=>exact b
     |verr=>exact b
     |val d=>exact b
     |tbl a5=>exact b
     |py p=>exact b
     |cls A ms=>exact⟨b.1,b.2.1,λm n M hm=>let ⟨no,f,r,fd,ps,N,Y,W,I⟩:=b.2.2 m n M hm;⟨no,f,r,fd,ps,Y,W,hr.mono N,I⟩⟩
     |rfn A M=>obtain⟨f,r,fd,ps,N,Y,W,I,h5⟩:=b;exact⟨f,r,fd,ps,Y,W,I,hr.mono N,h5⟩
     |rmk A n M=>obtain⟨f,r,fd,ps,N,Y,W,I,h5⟩:=b;exact⟨f,r,fd,ps,Y,W,I,hr.mono N,h5⟩
    ·obtain⟨e1,t⟩:=jS e;rcases t with t|t
     ·exact .inl t
     ·exact absurd rfl (S.nofree _ (gS t))
    ·exact Nat.lt_of_le_of_lt (Nat.add_le_add_left (by decide:62<=64) _) hr.units
   have T:DefX X E:=⟨rfl,rfl,rfl,λe s' h=>h⟩
   have L:MeOk X ad A ms C (λc q=>E (.ref (ad.cls c)) qw q) E:=⟨O,T,λσ=>v9 T,λc H h=>h,RC,λm n M hm=>let ⟨no,f,r,fd,ps,N,Y,W,I⟩:=MO m n M hm;⟨no,f,r,fd,ps,Y,W,hr.mono N,I⟩⟩
   refine⟨_,(Fd L 100).2 b g hg,?_⟩;have S0:=kY (X:=X) (ad:=ad) (n:=(aE o).length-(u.length+1)) hG rq
   have a2:L2.start (aE o) (V.ref p::ws)=qv (V.ref p)::(ws.map qv++ak ((aE o).length-(u.length+1)) qw):=by
    unfold L2.start;rw[bu,rq.length];rfl
   refine⟨G,p,dx,d,l1,Z,G,.rk A r::(u.map Slot.sh++ak ((aE o).length-(u.length+1)) .no),q4,?_,?_⟩
   ·rw[a2];refine⟨S0.sl.cons ⟨p,dx,d,l1,Z,rfl,hR⟩,hG,rfl,⟨r,Z,rfl,hR,.inl rfl⟩,?_,λc hc=>hc,λj sl e=>?_⟩
    ·unfold StB;rw[if_neg bg];exact Step.refl hG
    ·have e':(u.map Slot.sh++ak ((aE o).length-(u.length+1)) Slot.no)[j]? =qv sl:=e
     have m:=List.mem_of_getElem? e';rcases md.mp m with m|m
     ·obtain⟨d',_,rfl⟩:=aq.mp m;rfl
     ·rw[(List.mem_replicate.mp m).2];rfl
   ·have l:RMK K ad A G H p dx d l1 Z (l7 A (g (.rk A r::(u.map Slot.sh++ak ((aE o).length-(u.length+1)) .no)) q4)) Q (λc q=>E (.ref (ad.cls c)) qw q):=hq
    have ap: ∀(ρ:Rho) (b:Bool) (y:D),RMK K ad A G H p dx d l1 Z (if b then DT A ρ y else .pure (.ok y)) Q (λc q=>E (.ref (ad.cls c)) qw q)->∀σ J q v,SM X ad A G p dx d l1 Z b J q ρ σ->Rep K ad J y v->Q v q:=λρ b y hq σ J q v S' rv=>by
     cases b
     ·rw[if_neg bg]at hq;have z:=S'.st;unfold StB at z;rw[if_neg bg]at z;exact hq v J q z rv
     ·rw[if_pos rfl]at hq;obtain⟨r1,a3,f1,f2,f3⟩:=S'.rk;unfold DT at hq;rw[f1]at hq
      have al:RMK K ad A G H p dx d l1 Z (if A=A then .chg y r1 else .pure .bad) Q (λc q=>E (.ref (ad.cls c)) qw q):=hq
      rw[if_pos rfl]at al;exact al v J q a3 S'.toR f2 f3 rv
    cases e:g (.rk A r::(u.map Slot.sh++ak ((aE o).length-(u.length+1)) .no)) q4 with
    |nx ρ b=>rw[e]at l;exact λσ J q S'=>ap ρ b .non l σ J q .non S' (by unfold Rep;rfl)
    |rt y ρ b=>
     rw[e]at l
     cases y with
     |ok y=>exact λσ J q v S' rv=>ap ρ b y l σ J q v S' rv
     |ow xs=>
      cases b
      ·exact⟨rfl,l⟩
      ·exact l.elim
     |ex c=>exact l.elim
     |bad=>exact l.elim
    |ex c b=>
     rw[e]at l;cases b
     ·exact⟨rfl,l⟩
     ·exact l.elim
    |bad=>rw[e]at l;exact l.elim
  ·rw[if_neg hs]at U;cases U
 |_=>cases hd
end
def jC(ρ:Rho)(A i:Nat)(M:FM)(fs:List F)(k:D->Rho->Out):Out:=match(ρ[i]? :Option Slot)with
 |some (.rk C r)=>if C=A then(match args fs ρ with
  |.ok ds=>(match M r ds with
   |.pure x=>f8 ρ x λd=>k d ρ
   |.chg x r'=>k x (ρ.set i (.rk A r')))
  |.ex c=>.ex c ρ
  |.bad=>.rt .bad)else .rt .bad
 |_=>.rt .bad
def Ff(A i:Nat)(M:FM)(fs:List F):FS:=λρ=>jC ρ A i M fs λ_ ρ'=>.nx ρ'
section
variable{X:Cx}{ad:Ad}{σ:St}{G₀ G H G1 H1:Hp}{ρ:Rho}{A i:Nat}{r r':Rk}{p0 dx d l1 l2 l2':Addr}
def RackIn.stepR{K:Frag}{r:Rk}{qx qd q1 q2:Addr}(h:RackIn K ad C G H q r qx qd q1 q2)(t:StepR foot G H G1 H1)(dis: ∀a∈[q,qx,qd,q1,q2],a∉foot):RackIn K ad C G1 H1 q r qx qd q1 q2:=by
 obtain⟨d,f,l⟩:=h.held;obtain⟨p,e,m⟩:=h.done;obtain⟨n,i,j⟩:=h.undone
 have c: ∀{b:Addr} {o:HO},G b=qw->H b=qv o->G1 b=qw:=λ{b o} g hb=>by
  cases z:G1 b with
  |none=>rfl
  |some u=>
   have:=t.nw b g (by rw[z];exact λy=>nomatch y)
   rw[hb]at this;cases this
 exact⟨t.sh _ _ (dis _ (by simp)) h.ins,t.sh _ _ (dis _ (by simp)) h.own,⟨d,t.sh _ _ (dis _ (by simp)) f,l.mono t.sg⟩,⟨p,t.sh _ _ (dis _ (by simp)) e,m.mono t.sg⟩,⟨n,t.sh _ _ (dis _ (by simp)) i,j.mono t.sg⟩,h.ne,
  c h.gp h.ins,c h.gx h.own,c h.gd f,c h.g1 e,c h.g2 i⟩
def SS.updR(S:SS X ad G₀ G H ρ σ)(e:ρ[i]? =qv (.rk A r))(h1:σ[i]? =qv (qv (.ref p0)))(hR:RackIn X.K ad A G H p0 r dx d l1 l2)(t:StepR [p0,dx,d,l1,l2] G H G1 H1)(hR':RackIn X.K ad A G1 H1 p0 r' dx d l1 l2')(h3:l2'=l2\/H l2'=qw):
  SS X ad G₀ G1 H1 (ρ.set i (.rk A r')) σ:=by
 have hl:i<ρ.length:=(ax.mp e).1;have Q:gQ H ρ σ i [p0,dx,d,l1,l2]:=⟨A,r,p0,dx,d,l1,l2,e,h1,hR.ins,rfl⟩;have f0:=S.rs.h0 i _ Q;have M:=S.rs.ow i _ Q;have a0:=Q.at S.sl
 have I: ∀c,H c=qw->X.H₀ c=qw:=λc hc=>S.st.sh.free hc
 have B: ∀(j:Nat) (sl:Slot),(ρ.set i (.rk A r'))[j]? =qv sl->(j=i/\sl= .rk A r')\/(j≠i/\ρ[j]? =qv sl):=λj sl e=>by
  by_cases z:j=i
  ·subst z;rw[bn hl]at e;cases e;exact .inl ⟨rfl,rfl⟩
  ·rw[ba (qu z)]at e;exact .inr ⟨z,e⟩
 have gn: ∀{b:Addr} {o:HO},G b=qw->H b=qv o->G1 b=qw:=λ{b o} g Y=>by
  cases z:G1 b with
  |none=>rfl
  |some u=>
   have:=t.nw b g (by rw[z];exact λy=>nomatch y)
   rw[Y]at this;cases this
 -- another rack's pieces are qw of these
 have al: ∀{j:Nat} {h:List Addr},j≠i->gQ H ρ σ j h->∀a∈h,a∉[p0,dx,d,l1,l2]:=λ{j h} l f a n hm=>l (S.rs.rr j i h _ a f Q n hm)
 -- the pieces of a rack, h they were
 have bk: ∀{j:Nat} {h:List Addr},j≠i->gQ H1 (ρ.set i (.rk A r')) σ j h->gQ H ρ σ j h:=λ{j h} l f=>by
  obtain⟨C,r2,q,qx,qd,q1,q2,N,T,f3,f4⟩:=f;rw[ba (qu l)]at N;obtain⟨q',ab,an,ap,Z,U,L⟩:=S.sl.rk N;rw[T]at U;cases U;have fo:gQ H ρ σ j [q,ab,an,ap,Z]:=⟨C,r2,q,ab,an,ap,Z,N,T,L.ins,rfl⟩
  have:=t.sh _ _ (al l fo q (by simp)) L.ins
  rw[f3]at this;cases this;exact⟨C,r2,q,qx,qd,q1,q2,N,T,L.ins,f4⟩
 have bi: ∀{h:List Addr},gQ H1 (ρ.set i (.rk A r')) σ i h->h=[p0,dx,d,l1,l2']:=λ{h} f=>by
  obtain⟨C,r2,q,qx,qd,q1,q2,N,T,f3,f4⟩:=f;rw[h1]at T;cases T;rw[bn hl]at N;cases N;rw[hR'.ins]at f3;cases f3;exact f4
 have p: ∀a∈[p0,dx,d,l1,l2'],a∈[p0,dx,d,l1,l2]\/H a=qw:=λa n=>by
  simp only[au,k7,or_false]at n ⊢;rcases n with z|z|z|z|z
  ·exact .inl (.inl z)
  ·exact .inl (.inr (.inl z))
  ·exact .inl (.inr (.inr (.inl z)))
  ·exact .inl (.inr (.inr (.inr (.inl z))))
  ·rcases h3 with y|y
   ·exact .inl (.inr (.inr (.inr (.inr (z.trans y)))))
   ·exact .inr (by rw[z];exact y)
 refine⟨⟨S.st.sg.trans t.sg,t.gh,λb o Y=>t.sh b o (λm=>by rw[f0 b m]at Y;cases Y) (S.st.sh b o Y),λb U L=>?_⟩,⟨by rw[mn];exact S.sl.len,λj sl s=>?_⟩,λj sl a s w hj=>?_,λj J sl ac a s O w w' hj a1=>?_,⟨λj h f a n=>?_,λj h f a n k sl ek w hk=>?_,λj J h am a f f' n E=>?_⟩⟩
 ·cases q:G b with
  |none=>exact I b (t.nw b q L)
  |some o=>exact S.st.nw b U (by rw[q];exact λy=>nomatch y)
 ·rcases B j sl s with ⟨rfl,rfl⟩|⟨l,s⟩
  ·exact⟨_,h1,p0,dx,d,l1,l2',rfl,hR'⟩
  ·obtain⟨ov,k1,k2⟩:=S.sl.at_ j sl s;refine⟨ov,k1,?_⟩
   cases sl with
   |no=>trivial
   |sh y=>
    obtain⟨v,q1,q2⟩:=k2;exact⟨v,q1,q2.mono t.sg⟩
   |ow xs=>
    obtain⟨a,vs,q1,q2,q3,W⟩:=k2;subst q1;exact⟨a,vs,rfl,gn q2 q3,t.sh _ _ (λm=>M a m j _ s rfl k1) q3,W.mono t.sg⟩
   |dc ar=>
    obtain⟨a,vs,q1,q2,q3,W,q5⟩:=k2;subst q1;exact⟨a,vs,rfl,gn q2 q3,t.sh _ _ (λm=>M a m j _ s rfl k1) q3,W.mono t.sg,q5⟩
   |sd ar=>
    obtain⟨a,vs,q1,q2,q3,W,q5⟩:=k2;exact⟨a,vs,q1,t.sg _ _ q2,t.sh _ _ (λm=>by rw[(a0 a m).1]at q2;cases q2) q3,W.mono t.sg,q5⟩
   |rk C r2=>
    obtain⟨q,qx,qd,q1,q2,U,L⟩:=k2;subst U;exact⟨q,qx,qd,q1,q2,rfl,L.stepR t (al l ⟨C,r2,q,qx,qd,q1,q2,s,k1,L.ins,rfl⟩)⟩
 ·rcases B j sl s with ⟨rfl,rfl⟩|⟨l,s⟩
  ·cases w
  ·exact S.ow j sl a s w hj
 ·rcases B j sl s with ⟨rfl,rfl⟩|⟨l,s⟩
  ·cases w
  ·rcases B J ac O with ⟨rfl,rfl⟩|⟨x,O⟩
   ·cases w'
   ·exact S.dj j J sl ac a s O w w' hj a1
 ·by_cases l:j=i
  ·subst l;rw[bi f]at n;rcases p a n with z|z
   ·exact f0 a z
   ·exact I a z
  ·exact S.rs.h0 j h (bk l f) a n
 ·rcases B k sl ek with ⟨rfl,rfl⟩|⟨nk,P⟩
  ·cases w
  ·by_cases l:j=i
   ·subst l;rw[bi f]at n;rcases p a n with z|z
    ·exact M a z k sl P w hk
    ·exact(S.sl.own_at P w hk).2 z
   ·exact S.rs.ow j h (bk l f) a n k sl P w hk
 ·by_cases l:j=i
  ·by_cases x:J=i
   ·rw[l,x]
   ·subst l;rw[bi f]at n;have fb:=bk x f';rcases p a n with z|z
    ·exact S.rs.rr j J _ am a Q fb z E
    ·exact absurd z (fb.at S.sl a E).2
  ·by_cases x:J=i
   ·subst x;rw[bi f']at E;have fb:=bk l f;rcases p a E with z|z
    ·exact S.rs.rr j J h _ a fb Q n z
    ·exact absurd z (fb.at S.sl a n).2
   ·exact S.rs.rr j J h am a (bk l f) (bk x f') n E
end
section
variable{X:Cx}{ad:Ad}{Z:(St->Nat->Hp->Prop)->Prop}{σ:St}{G₀ G H G1 H1:Hp}{ρ:Rho}{D':Ends}{E:St->Nat->Hp->Prop}{A i:Nat}{M:FM}{fs:List F}
def BN(S:SS X ad G₀ G H ρ σ)(hx:XA X ad Z E){k:D->Rho->Out}{Q':VK}(hr:OKo X ad G₀ (jC ρ A i M fs k) D' E)
  (q: ∀v y G1 H1 ρ1,SS X ad G₀ G1 H1 ρ1 σ->Rep X.K ad G1 y v->OKo X ad G₀ (k y ρ1) D' E->Q' v H1):uS X ad A i M fs σ H Q':=by
 unfold jC at hr
 cases e:(ρ[i]? :Option Slot)with
 |none=>rw[e]at hr;exact hr.elim
 |some sl=>
  rw[e]at hr
  cases sl with
  |rk C r=>
   have b:OKo X ad G₀ (if C=A then(match args fs ρ with
    |.ok j=>(match M r j with
     |.pure x=>f8 ρ x λd=>k d ρ
     |.chg x n=>k x (ρ.set i (.rk A n)))
    |.ex c=>.ex c ρ
    |.bad=>.rt .bad)else .rt .bad) D' E:=hr
   by_cases o:C=A
   ·rw[if_pos o]at b;subst o;obtain⟨p0,O,d,T,Q,I,J⟩:=S.sl.rk e;refine⟨G,ρ,E σ,r,p0,O,d,T,Q,S.st.gh,S.sl,hx.1 σ,I,J,G,ρ,E σ,S.st.gh,S.sl,hx.1 σ,?_⟩
    cases l:args fs ρ with
    |ok j=>
     rw[l]at b;intro vs G1 H1 st rq;refine⟨j,G1,st,rq,fJ l,?_⟩;have m:=S.step st;have p:=J.step st
     have f:OKo X ad G₀ (match M r j with
      |.pure x=>f8 ρ x λd=>k d ρ
      |.chg x n=>k x (ρ.set i (.rk C n))) D' E:=b
     cases L:M r j with
     |pure y=>
      rw[L]at f
      cases y with
      |ok y=>exact λv h H2 g B=>q v y h H2 ρ (m.step g) B f
      |ow xs=>
       intro a ws h H2 g N m2 W s;obtain⟨Y,u,P⟩:=cS (X:=X) (ad:=ad) g N m2 W s;exact q _ _ Y H2 ρ (m.step u) P f
      |ex c=>exact λh H2 g=>f σ h H2 (m.step g)
      |bad=>exact f.elim
     |chg y n=>
      rw[L]at f;exact λv h H2 U t z h3 B=>q v y h H2 _ (m.updR e I p t z h3) B f
    |ex c=>
     rw[l]at b;exact λG1 H1 st=>b σ G1 H1 (S.step st)
    |bad=>
     rw[l]at b;exact b.elim
   ·rw[if_neg o]at b;exact b.elim
  |no=>exact hr.elim
  |sh _=>exact hr.elim
  |ow _=>exact hr.elim
  |dc _=>exact hr.elim
  |sd _=>exact hr.elim
def Lx(he:PE X e (uS X ad A i M fs))(hs:swapsWith e qw pos.line X.env=pure q4):MS X ad Z (.Expr e pos) (Ff A i M fs):=by
 refine PS.imp (jL he hs) ?_;rintro l j H ⟨a,G,n,E,S,b,h⟩;exact BN S b h λv y f c d g m k=>k j f c g
end
noncomputable def rk0:Rk:=⟨[],[],[]⟩
def spI(K:Frag)(ad:Ad)(A:Nat):Sp:=λvs H Q _=>∃p dx G,vs=[V.ref p]/\Same G H/\G p=qw/\G dx=qw/\dx≠p/\H p=qv (.ins A dx [])/\H dx=qv (.own p)/\
 ∀d l1 l2 H',H d=qw->H l1=qw->H l2=qw->RackIn K ad A G H' p rk0 dx d l1 l2->(∀b o,b≠p->H b=qv o->H' b=qv o)->Q .non H'
structure Ini(X:Cx)(A:Nat)(x:Str):Prop where
 RC:RkC X.K A
 hN:X.N[0]? =qv x
 hv:Vis X.env.scope x
 hd:(x==("__debug__":Str))=q4
 hcd:(x==("__classdict__":Str))=q4
noncomputable def OM(x:Str)(n1 q1 a1 n2 q2 a2 n3 q3 a3 e1 e2 e3:Pos):List Stmt:=
 [.Assign [.Attribute (.Name x n1) "held" q1] (.Dict [] [] e1) a1,.Assign [.Attribute (.Name x n2) "done" q2] (.List [] e2) a2,.Assign [.Attribute (.Name x n3) "undone" q3] (.List [] e3) a3]
section
variable{ad:Ad}{q1 q2 q3:Pos}
def BO(L:Ini X A x){σ:St}(me:σ[0]? =qv (qv (.ref p)))(hG:Same G H)(gp:G p=qw)(gx:G dx=qw)(ne:dx≠p)(hp:H p=qv (.ins A dx []))(hx:H dx=qv (.own p))(q: ∀d l1 l2 H',H d=qw->H l1=qw->H l2=qw->RackIn X.K ad A G H' p rk0 dx d l1 l2->(∀b o,b≠p->H b=qv o->H' b=qv o)->Q .non H'):
  ∃t,PSs X (OM x n1 q1 a1 n2 q2 a2 n3 q3 a3 e1 e2 e3) t/\t {nx:=λ_ H'=>Q .non H',rt:=Q} σ H:=by
 have nm: ∀l:Pos,PE X (.Name x l) (Jx 0):=λl=>b9 L.hN L.hv L.hd L.hcd
 refine⟨_,iW (vI (nm n1) DC rfl) (iW (vI (nm n2) (vJ cZ) rfl) (tZ (vI (nm n3) (vJ cZ) rfl))),?_⟩;intro d f;have h:d≠p:=λz=>by rw[z,hp]at f;cases f
 have dd:dx≠d:=λz=>by rw[<-z,hx]at f;cases f
 have i:upd H d (.dK []) p=qv (.ins A dx []):=by rw[aD (qu h)];exact hp
 refine⟨.ref p,me,p,A,dx,_,rfl,i,L.RC.cl,L.RC.n1,by show 0<1000;decide,?_⟩
 refine⟨cb _,λl1 n1=>?_⟩
 have lp:l1≠p:=λz=>by rw[z,aG]at n1;cases n1
 have m:l1≠d:=λz=>by rw[aD lp,z,aG]at n1;cases n1
 have a:H l1=qw:=by rw[aD lp,aD m]at n1;exact n1
 have r:dx≠l1:=λz=>by rw[<-z,hx]at a;cases a
 refine⟨.ref p,me,p,A,dx,[(("held":Str),V.ref d)],rfl,by rw[aD (qu lp),aG];rfl,L.RC.cl,L.RC.n2,by show 1<1000;decide,?_⟩
 refine⟨cb _,λl2 n2=>?_⟩
 have g:l2≠p:=λz=>by rw[z,aG]at n2;cases n2
 have ml:l2≠l1:=λz=>by rw[aD g,z,aG]at n2;cases n2
 have n:l2≠d:=λz=>by rw[aD g,aD ml,aD g,z,aG]at n2;cases n2
 have c:H l2=qw:=by rw[aD g,aD ml,aD g,aD n]at n2;exact n2
 have s:dx≠l2:=λz=>by rw[<-z,hx]at c;cases c
 refine⟨.ref p,me,p,A,dx,[(("held":Str),V.ref d),("done",V.ref l1)],rfl,by rw[aD (qu g),aG];rfl,L.RC.cl,L.RC.n3,by show 2<1000;decide,?_⟩
 refine q d l1 l2 _ f a c ⟨by rw[aG];rfl,?_,⟨[],?_,.nil⟩,⟨[],?_,aJ.nil⟩,⟨[],?_,aJ.nil⟩,qu ml,gp,gx,hG.free f,hG.free a,hG.free c⟩ λb o j e=>?_
 ·rw[aD ne,aD s,aD ne,aD r,aD ne,aD dd];exact hx
 ·rw[aD h,aD (qu n),aD h,aD (qu m),aD h,aG]
 ·rw[aD lp,aD (qu ml),aD lp,aG]
 ·rw[aD g,aG]
 ·rw[aD j,aD (aY e c),aD j,aD (aY e a),aD j,aD (aY e f)];exact e
end
def HW(i A:Nat):FS:=λρ=>.nx (ρ.set i (.rk A rk0))
section
variable{X:Cx}{ad:Ad}{A:Nat}
def SS.setR2(S:SS X ad G₀ G H ρ σ)(st:Step G H G1 H1)(hR:RackIn X.K ad A G1 H1 p r dx d l1 l2)(nw: ∀a∈[p,dx,d,l1,l2],H a=qw):SS X ad G₀ G1 H1 (ρ.set i (.rk A r)) (σ.set i (qv (.ref p))):=by
 have s1:=st.sh;have P:=S.step st
 have b: ∀(j:Nat) (sl:Slot),(ρ.set i (.rk A r))[j]? =qv sl->(j=i/\sl= .rk A r/\i<ρ.length)\/(j≠i/\ρ[j]? =qv sl):=λj sl e=>by
  by_cases z:j=i
  ·subst z;have u:j<ρ.length:=by have:=(ax.mp e).1;rwa [mn]at this
   rw[bn u]at e;cases e;exact .inl ⟨rfl,rfl,u⟩
  ·rw[ba (qu z)]at e;exact .inr ⟨z,e⟩
 have o: ∀{j:Nat},j≠i->(σ.set i (qv (V.ref p)))[j]? =σ[j]? :=λ{j} z=>ba (qu z)
 have bk: ∀{j:Nat} {g:List Addr},j≠i->gQ H1 (ρ.set i (.rk A r)) (σ.set i (qv (.ref p))) j g->gQ H ρ σ j g:=λ{j g} l f=>by
  obtain⟨C,U,q,Q,Y,q1,q2,J,B,L,M⟩:=f;rw[ba (qu l)]at J B;exact gQ.back S.sl s1 ⟨C,U,q,Q,Y,q1,q2,J,B,L,M⟩
 have E: ∀{g:List Addr},gQ H1 (ρ.set i (.rk A r)) (σ.set i (qv (.ref p))) i g->g=[p,dx,d,l1,l2]:=λ{g} f=>by
  obtain⟨C,U,q,Q,Y,q1,q2,J,B,L,M⟩:=f;rcases b i _ J with ⟨_,z,u⟩|⟨z,_⟩
  ·cases z;rw[bn (by rw[<-S.sl.len];exact u)]at B
   cases B;rw[hR.ins]at L;cases L;exact M
  ·exact absurd rfl z
 have t: ∀c,H c=qw->X.H₀ c=qw:=λc Z=>S.st.sh.free Z
 refine⟨P.st,⟨by rw[mn,mn];exact S.sl.len,λj sl e=>?_⟩,λj sl a e w h=>?_,λj v sl x a e N w W h T=>?_,⟨λj g f a m=>?_,λj g f a m k sl ek w hk=>?_,λj v g O a f I m s=>?_⟩⟩
 ·rcases b j sl e with ⟨rfl,rfl,u⟩|⟨z,e⟩
  ·exact⟨qv (.ref p),bn (by rw[<-S.sl.len];exact u),p,dx,d,l1,l2,rfl,hR⟩
  ·obtain⟨ov,h1,h2⟩:=P.sl.at_ j sl e;exact⟨ov,by rw[o z];exact h1,h2⟩
 ·rcases b j sl e with ⟨_,rfl,_⟩|⟨z,e⟩
  ·cases w
  ·rw[o z]at h;exact S.ow j sl a e w h
 ·rcases b j sl e with ⟨_,rfl,_⟩|⟨z,e⟩
  ·cases w
  ·rcases b v x N with ⟨_,rfl,_⟩|⟨z',N⟩
   ·cases W
   ·rw[o z]at h;rw[o z']at T;exact S.dj j v sl x a e N w W h T
 ·by_cases l:j=i
  ·subst l;rw[E f]at m;exact t a (nw a m)
  ·exact S.rs.h0 j g (bk l f) a m
 ·rcases b k sl ek with ⟨_,rfl,_⟩|⟨z,y⟩
  ·cases w
  ·rw[o z]at hk
   by_cases l:j=i
   ·rw[l]at f;rw[E f]at m;exact(S.sl.own_at y w hk).2 (nw a m)
   ·exact S.rs.ow j g (bk l f) a m k sl y w hk
 ·by_cases l:j=i
  ·by_cases n:v=i
   ·rw[l,n]
   ·rw[l]at f;rw[E f]at m;exact absurd (nw a m) ((bk n I).at S.sl a s).2
  ·by_cases n:v=i
   ·rw[n]at I;rw[E I]at s;exact absurd (nw a s) ((bk l f).at S.sl a m).2
   ·exact S.rs.rr j v g O a (bk l f) (bk n I) m s
def SS.setR(S:SS X ad G₀ G H ρ σ)(s1:Same H H1)(hR:RackIn X.K ad A G H1 p r dx d l1 l2)(nw: ∀a∈[p,dx,d,l1,l2],H a=qw)(gh:Same G H1):SS X ad G₀ G H1 (ρ.set i (.rk A r)) (σ.set i (qv (.ref p))):=S.setR2 ⟨Same.refl _,gh,s1,λb e c=>absurd e c⟩ hR nw
structure MkOk(X:Cx)(ad:Ad)(A:Addr):Prop where
 ok: ∃f k fd ps,Mk X.K A f/\FnOk X.prog X.w X.K X.mg X.base (CXe X.prog X.w) k f fd ps (spI X.K ad A)/\Room (k+1) X.A/\fB X.K fd ps []
def HY(MK:MkOk X ad A)(hg:L2.Gl X x)(hm:X.mg x=qv (.ref A))(hdb:(x==("__debug__":Str))=q4)(hN:X.N.Nodup)(hi:X.N[i]? =qv y)(hl:Loc X.env.scope y)(hf:X.fn y=qz\/X.env.scope.names.lookup y=qv .local):
  MS X ad Z (.Assign [.Name y yp] (.Call (.Name x np) [] [] cp) pos) (HW i A):=by
 obtain⟨f,k,fd,W,M,F,m,O⟩:=MK.ok;refine PS.imp (nF hN hi hl (λt s n H Q I K=>vK (E:=λ_ _ _=>False) M F m hg hm O .nil (λt n H s e s' I h=>by obtain⟨_,_,_,_,_,_,_,_,_,_,_,_,_,_,z⟩:=h;exact z.elim) hdb t s n H Q I K) rfl hf) ?_
 rintro T n H ⟨B,G,ρ,E,S,hx,m⟩;intro p j np g l;refine⟨p,j,G,rfl,?_,S.st.gh.free np,S.st.gh.free g,l,aG,by rw[aD l,aG],λd Y U v J L C P hk=>⟨rfl,?_⟩⟩
 ·exact S.st.gh.trans ((Same.upd_new g).trans (Same.upd_new (by rw[aD (qu l)];exact np)))
 ·have back: ∀{c:Addr},upd (upd H j (.own p)) p (.ins A j []) c=qw->H c=qw:=λ{c} h=>by
   by_cases z:c=p
   ·rw[z];exact np
   ·by_cases q:c=j
    ·rw[q];exact g
    ·rw[aD z,aD q]at h;exact h
  have u:Same H v:=λb o e=>hk b o (aY e np) (by rw[aD (aY e np),aD (aY e g)];exact e)
  refine m _ G v (S.setR u P (λa r=>?_) (S.st.gh.trans u))
  simp only[au,k7,or_false]at r;rcases r with z|z|z|z|z
  ·rw[z];exact np
  ·rw[z];exact g
  ·rw[z];exact back J
  ·rw[z];exact back L
  ·rw[z];exact back C
end
abbrev FC:=Rho->(Bool->Rho->Out)->Out
noncomputable def Jj(d:D)(k:Bool->Out):Out:=match d with
 |.bl b=>k b
 |_=>.rt .bad
def BP(f:F):FC:=λρ k=>f8 ρ (f ρ) λd=>Jj d λb=>k b ρ
def y8(A i:Nat)(M:FM)(fs:List F)(op:CmpOp)(g:F):FC:=λρ k=>jC ρ A i M fs λd ρ1=>f8 ρ1 (g ρ1) λd2=>f8 ρ1 (fC op d d2) λz=>Jj z λb=>k b ρ1
noncomputable def cOr(c1 c2:FC):FC:=λρ k=>c1 ρ λb ρ1=>if b then k qz ρ1 else c2 ρ1 k
noncomputable def DU(c:FC)(g h:FS):FS:=λρ=>c ρ λb ρ1=>if b then g ρ1 else h ρ1
def tTx(X:Cx)(ad:Ad)(Z:(St->Nat->Hp->Prop)->Prop)(c:FC):TT:=λσ H Q=>∃G₀ G ρ D' E k,SS X ad G₀ G H ρ σ/\XA X ad Z E/\OKo X ad G₀ (c ρ k) D' E/\∀b ρ1 G1 H1,SS X ad G₀ G1 H1 ρ1 σ->OKo X ad G₀ (k b ρ1) D' E->Q b H1
abbrev MTX(X:Cx)(ad:Ad)(Z:(St->Nat->Hp->Prop)->Prop)(e:Expr)(c:FC):Prop:=PT X e (tTx X ad Z c)
abbrev MWX(X:Cx)(ad:Ad)(Z:(St->Nat->Hp->Prop)->Prop)(e:Expr)(c:FC):Prop:=PW X e (tTx X ad Z c)
def Ly(X:Cx)(ad:Ad)(op:CmpOp):R2:=λx y H Q=>∃G d1 d2 E,Same G H/\Rep X.K ad G d1 x/\Rep X.K ad G d2 y/\RK X.K ad G H (fC op d1 d2) Q E
section
variable{X:Cx}{ad:Ad}{Z:(St->Nat->Hp->Prop)->Prop}{A i:Nat}{M:FM}{g:F}{fs:List F}{op:CmpOp}
def HZ(hu:X.A.units+62<cLine):OpR X (compareOp op) (Ly X ad op):=by
 intro j s e H x y v u Q I g i h;obtain⟨G,f,c,E,l,a,b,d⟩:=h;exact gF op hu j s e H G f c x y v u Q E I l a b g i d
def Fg{G₀ G H:Hp}{ρ:Rho}{σ:St}{D':Ends}{E:St->Nat->Hp->Prop}{k:Bool->Rho->Out}{Q:Bool->Hp->Prop}{r:R}(S:SS X ad G₀ G H ρ σ)(hr:OKo X ad G₀ (f8 ρ r λz=>Jj z λb=>k b ρ) D' E)(q: ∀b ρ1 G1 H1,SS X ad G₀ G1 H1 ρ1 σ->OKo X ad G₀ (k b ρ1) D' E->Q b H1):
  RK X.K ad G H r (λv H'=>∃b,v= .bl b/\Q b H') (E σ)/\j9 r:=by
 cases r with
 |ok d=>
  cases d with
  |bl b=>
   refine⟨λv G1 H1 st a=>?_,.inl ⟨b,rfl⟩⟩
   unfold Rep at a;exact⟨b,a,q b ρ G1 H1 (S.step st) hr⟩
  |_=>exact hr.elim
 |ow e=>exact hr.elim
 |ex c=>exact⟨λG1 H1 st=>hr σ G1 H1 (S.step st),.inr ⟨c,rfl⟩⟩
 |bad=>exact hr.elim
def DV(h:MT X ad e f):MTX X ad Z e (BP f):=by
 rintro g s a H Q I ⟨b,G,j,m,E,k,S,l,c,q⟩;obtain⟨d,i⟩:=Fg S c q;exact h g s a H Q I ⟨G,j,E a,S.st.gh,S.sl,l.1 a,i,d⟩
def Lz{σ:St}{H:Hp}{Q:Bool->Hp->Prop}(h:tTx X ad Z (y8 A i M fs op g) σ H Q):tOp (Ly X ad op) (uS X ad A i M fs) (tE X ad g) σ H λv H'=>∃b,v= .bl b/\Q b H':=by
 obtain⟨a,G,t,o,E,k,S,d,j,q⟩:=h;refine BN S d j λv y r p n c f hk=>?_
 refine eW c d hk λs l m H2 st e k2=>?_
 exact⟨m,y,l,E σ,st.gh,f.mono st.sg,e,(Fg (c.step st) k2 q).1⟩
def H0(hu:X.A.units+62<cLine)(ha:PE X a (uS X ad A i M fs))(hb:ME X ad b g)(hm:behindInMarks op b=q4):MTX X ad Z (.Compare a [op] [b] pos) (y8 A i M fs op g):=
 λd s c H Q I h=>FU (HZ hu) ha hb hm d s c H Q I (Lz h)
def Id(h:MTX X ad Z e c):MWX X ad Z (.BoolOp .Or [e] pos) c:=pw_or1 h
def LA(ha:MTX X ad Z a c1)(hb:MWX X ad Z (.BoolOp .Or (b::r) pos) c2):MWX X ad Z (.BoolOp .Or (a::b::r) pos) (cOr c1 c2):=by
 rintro l n s j H Q I ⟨d,G,o,e,E,k,S,h,i,q⟩;refine pw_or ha hb l n s j H Q I ?_;refine⟨d,G,o,e,E,λb c=>if b then k qz c else c2 c k,S,h,i,λb c g m f ok=>?_⟩
 cases b
 ·exact CS ⟨d,g,c,e,E,k,f,h,ok,q⟩
 ·exact CC (q qz c g m f ok)
def LB(hc:MTX X ad Z e c)(ha:MSs X ad Z sa gs)(hb:MSs X ad Z sb hs):MS X ad Z (.If e sa sb pos) (DU c gs hs):=by
 refine PS.imp (FL hc ha hb) ?_;rintro i n H ⟨d,G,l,E,S,f,j⟩;refine⟨d,G,l,i,E,λb a=>if b then gs a else hs a,S,f,j,λb a g m h ok=>?_⟩
 cases b
 ·exact CS ⟨d,g,a,E,h,f,ok⟩
 ·exact CC ⟨d,g,a,E,h,f,ok⟩
end
section
variable{P:Program}{w:World}{K:Frag}{mg:Str->Option Value}{base h:Heap}{ad:Ad}{k:Nat}{tab:List (Str×SK.Gl)}{fns:List (Nat×Fn)}
theorem Fh{x qual:Str}{st:Stmt}{f:Addr}{fd:FuncData}{n j:Nat}{m:Fn->Fn}{ps:List Str}(B:ExcK K ad)(TB:dJ P w K mg base ad k tab)(Fu:Fun K x qual st f fd)(hps:cH (defArgs st)=qv ps)(hb:fB K fd ps [])(hm:mg x=qv (.ref f))
  (hdb:(x==("__debug__":Str))=q4) (hj:f=ad.fnA j) (hd: ∀F,Ak ((x,.fn j n F)::tab) [] st=qv (n,m F)): ∀i,FnOk P w K mg base (CXe P w) (k+i) f fd ps (CF K ad n (EH m i))
 |0=>⟨λc H Q E a=>by obtain⟨G,d,_,_,_,z⟩:=a;exact z.elim,λA b s H args e c Q E _ _ _ _ a=>by obtain⟨G,d,_,_,_,z⟩:=a;exact z.elim⟩
 |i+1=>E9 (k:=k+i) B ((TB.mono (lg k i)).cons (g:=.fn j n (EH m i)) hdb ⟨k+i,f,aj _,hm,Fu.kp,⟨fd,ps,Fh B TB Fu hps hb hm hdb hj hd i,hb⟩,hj⟩) gG.nil Fu hps (hd (EH m i))
structure PQ(P:Program)(w:World)(K:Frag)(mg:Str->Option Value)(base h:Heap)(ad:Ad)(k:Nat)(tab:List (Str×SK.Gl))(fns:List (Nat×Fn)):Prop where
 t:dJ P w K mg base ad k tab
 u:gG P w K mg base ad k fns
 X:K.In h
 G:h.Ns mainGlobals mg
 B:ExcK K ad
def Bnd(x:Str)(st:Stmt)(ps:List Str):Prop:= ∀(kV doc pm:Value) (an:Option Addr) (cdv ct:Value) (us:List Value),us.length=ps.length->bindArgs (ou x x (defArgs st) (defBody st) (defScope st) .none kV doc pm an cdv ct) ⟨us,[]⟩=pure (ps.zip us)
theorem PQ.cons(T:PQ P w K mg base h ad k tab fns){x:Str}{f:Addr}{fd:FuncData}{ps:List Str}{n r:Nat}{M:Fn}(hr:k<=r)(ok:FnOk P w K mg base (CXe P w) r f fd ps (CF K ad n M))(hb:fB K fd ps [])(kp:keepIn K (.ref f)=qz)(hm:mg x=qv (.ref f))(hj:f=ad.fnA fns.length)(hdb:(x==("__debug__":Str))=q4):
  PQ P w K mg base h ad r ((x,.fn fns.length n M)::tab) (fns++[(n,M)]):=
 ⟨dJ.cons (T.t.mono hr) hdb ⟨r,f,aj _,hm,kp,⟨_,_,ok,hb⟩,hj⟩,gG.snoc T.u hr rfl hj (aj _) kp ok hb,T.X,T.G,T.B⟩
def PQ.addV(T:PQ P w K mg base h ad k tab fns)(x:Str)(st:Stmt)(f:Addr)(ps:List Str)(n:Nat)(M:Fn){oc:Value}{od an:Option Addr}{osl:Array (Option Value)}{kV doc pm cdv ct:Value}(l:K.lookup f=qv ⟨oc,od,.func (ou x x (defArgs st) (defBody st) (defScope st) .none kV doc pm an cdv ct),osl⟩)
  (fns':List (Nat×Fn)) (hf:fns'=fns\/fns'=[]) (d:Ak tab fns' st=qv (n,M):=by kernel_rfl) (c:codeIn K cdv x=qz:=by kernel_rfl) (kp:keepIn K (.ref f)=qz:=by kernel_rfl) (hm:nsIn K mainGlobals x=qv (qv (.ref f)):=by kernel_rfl) (hj:f=ad.fnA fns.length:=by rfl)
  (hdb:(x==("__debug__":Str))=q4:=by decide) (hps:cH (defArgs st)=qv ps:=by rfl) (hb:Bnd x st ps:=by intro _ _ _ _ _ _ us hl;rcases us with _|⟨u0,_|⟨u1,_|⟨u2,_|⟨u3,_|⟨u4,us⟩⟩⟩⟩⟩<;>first|rfl|(simp at hl)):
  PQ P w K mg base h ad (k+1) ((x,.fn fns.length n M)::tab) (fns++[(n,M)]):=by
 have F:=lK (st:=st) l c kp;refine T.cons (ph _) (E9 (ps:=ps) T.B T.t ?_ F hps d) (F.binds hb) kp (oe T.X T.G hm) hj hdb;rcases hf with rfl|rfl
 ·exact T.u
 ·exact gG.nil
def PQ.add(T:PQ P w K mg base h ad k tab fns)(x:Str)(st:Stmt)(f:Addr)(ps:List Str)(n:Nat)(M:Fn){oc:Value}{od an:Option Addr}{osl:Array (Option Value)}{kV doc pm cdv ct:Value}(l:K.lookup f=qv ⟨oc,od,.func (ou x x (defArgs st) (defBody st) (defScope st) .none kV doc pm an cdv ct),osl⟩)
  (d:Ak tab [] st=qv (n,M):=by kernel_rfl) (c:codeIn K cdv x=qz:=by kernel_rfl) (kp:keepIn K (.ref f)=qz:=by kernel_rfl) (hm:nsIn K mainGlobals x=qv (qv (.ref f)):=by kernel_rfl) (hj:f=ad.fnA fns.length:=by rfl)
  (hdb:(x==("__debug__":Str))=q4:=by decide) (hps:cH (defArgs st)=qv ps:=by rfl) (hb:Bnd x st ps:=by intro _ _ _ _ _ _ us hl;rcases us with _|⟨u0,_|⟨u1,_|⟨u2,_|⟨u3,_|⟨u4,us⟩⟩⟩⟩⟩<;>first|rfl|(simp at hl)):
  PQ P w K mg base h ad (k+1) ((x,.fn fns.length n M)::tab) (fns++[(n,M)]):=T.addV x st f ps n M l [] (.inr rfl) d c kp hm hj hdb hps hb
def PQ.addR(T:PQ P w K mg base h ad k tab fns)(x:Str)(st:Stmt)(f:Addr)(ps:List Str)(n:Nat)(m:Fn->Fn)(i:Nat){oc:Value}{od an:Option Addr}{osl:Array (Option Value)}{kV doc pm cdv ct:Value}(l:K.lookup f=qv ⟨oc,od,.func (ou x x (defArgs st) (defBody st) (defScope st) .none kV doc pm an cdv ct),osl⟩)
  (d: ∀F,Ak ((x,.fn fns.length n F)::tab) [] st=qv (n,m F):=by intro F;kernel_rfl) (c:codeIn K cdv x=qz:=by kernel_rfl) (kp:keepIn K (.ref f)=qz:=by kernel_rfl) (hm:nsIn K mainGlobals x=qv (qv (.ref f)):=by kernel_rfl) (hj:f=ad.fnA fns.length:=by rfl)
  (hdb:(x==("__debug__":Str))=q4:=by decide) (hps:cH (defArgs st)=qv ps:=by rfl) (hb:Bnd x st ps:=by intro _ _ _ _ _ _ us hl;rcases us with _|⟨u0,_|⟨u1,_|⟨u2,_|⟨u3,_|⟨u4,us⟩⟩⟩⟩⟩<;>first|rfl|(simp at hl)):
  PQ P w K mg base h ad (k+i) ((x,.fn fns.length n (EH m i))::tab) (fns++[(n,EH m i)]):=
 have F:=lK (st:=st) l c kp
 T.cons (lg _ _) (Fh T.B T.t F hps (F.binds hb) (oe T.X T.G hm) hdb hj d i) (F.binds hb) kp (oe T.X T.G hm) hj hdb
theorem PQ.py(T:PQ P w K mg base h ad 0 tab [])(p:Py)(hm:nsIn K mainGlobals (rM p)=qv qw:=by kernel_rfl)(hdb:(rM p==("__debug__":Str))=q4:=by decide):PQ P w K mg base h ad 0 ((rM p,.py p)::tab) []:=⟨dJ.cons T.t hdb ⟨rfl,PySem.W.mg_none_of T.X T.G hm⟩,T.u,T.X,T.G,T.B⟩
theorem PQ.verr(T:PQ P w K mg base h ad 0 tab [])(hm:nsIn K mainGlobals "ValueError"=qv qw:=by kernel_rfl):PQ P w K mg base h ad 0 (("ValueError",.verr)::tab) []:=⟨dJ.cons T.t (by decide) ⟨rfl,PySem.W.mg_none_of T.X T.G hm⟩,T.u,T.X,T.G,T.B⟩
theorem PQ.exc(T:PQ P w K mg base h ad 0 tab [])(x:Str)(c:Nat)(hm:nsIn K mainGlobals x=qv (qv (.ref (ad.cls c))):=by kernel_rfl)(hc:c<ad.nb:=by decide)(hdb:(x==("__debug__":Str))=q4:=by decide):PQ P w K mg base h ad 0 ((x,.exc c)::tab) []:=⟨dJ.cons T.t hdb ⟨oe T.X T.G hm,hc⟩,T.u,T.X,T.G,T.B⟩
theorem PQ.int(T:PQ P w K mg base h ad 0 tab [])(x:Str)(i:Int)(t:Tok)(hm:nsIn K mainGlobals x=qv (qv (.int i t)):=by kernel_rfl)(hdb:(x==("__debug__":Str))=q4:=by decide):PQ P w K mg base h ad 0 ((x,.val (.int i))::tab) []:=⟨dJ.cons T.t hdb ⟨.int i t,.int i,oe T.X T.G hm,⟨_,rfl⟩,λG=>by unfold Rep;rfl⟩,T.u,T.X,T.G,T.B⟩
theorem PQ.val(T:PQ P w K mg base h ad 0 tab [])(x:Str){d:D}{u:Value}{v:V}(hv:bG v u)(hr: ∀G,Rep K ad G d v)(hm:nsIn K mainGlobals x=qv (qv u):=by kernel_rfl)(hdb:(x==("__debug__":Str))=q4:=by decide):PQ P w K mg base h ad 0 ((x,.val d)::tab) []:=⟨dJ.cons T.t hdb ⟨u,v,oe T.X T.G hm,hv,hr⟩,T.u,T.X,T.G,T.B⟩
theorem PQ.tbl(T:PQ P w K mg base h ad 0 tab [])(x:Str)(A:Addr){kvs:List (Str×D)}(hF:AU P w K ad A kvs)(hm:nsIn K mainGlobals x=qv (qv (.ref A)):=by kernel_rfl)(hdb:(x==("__debug__":Str))=q4:=by decide):PQ P w K mg base h ad 0 ((x,.tbl kvs)::tab) []:=⟨dJ.cons T.t hdb ⟨A,oe T.X T.G hm,hF⟩,T.u,T.X,T.G,T.B⟩
theorem PQ.nil(X:K.In h)(G:h.Ns mainGlobals mg)(B:ExcK K ad):PQ P w K mg base h ad 0 [] []:=⟨dJ.nil,gG.nil,X,G,B⟩
end
def DW(K:Frag):Sp:=λvs H Q _=>∃(a:Addr) (ns:List Int),vs=[.ref a]/\SqL K H a (ns.map V.int)/\ns.length<=63/\∀H',Q (.bl qz) H'
def Ie{K:Frag}{ad:Ad}(g:FnOk P w K mg base (CXe P w) k f fd ps (CF K ad 1 M))(hm: ∀ns:List Int,M [.lst (ns.map D.int)]= .ok (.bl qz)):FnOk P w K mg base (CXe P w) k f fd ps (DW K):=by
 refine g.imp λi H Q E ⟨a,ns,e,b,h,d⟩=>⟨H,[.lst (ns.map D.int)],Same.refl _,?_,rfl,?_⟩
 ·subst e;exact aJ.cons (by unfold Rep;exact⟨a,_,rfl,b,aJ.map_int⟩) aJ.nil
 ·rw[hm ns];intro v j c _ r;unfold Rep at r;subst r;exact d c
def walk{l:mo}{XP:(Str->Option Value)->Heap->Prop}{K:Params->og}(r:Nat)(hn:l.most=qv 63)(hdf:d.params.defaults=[])(hr:Room r callerA)(hY: ∀(w:World) (h:Heap),YP w h->(K w.params).In h)(F: ∀(w:World) (mg:Str->Option Value) (fa:Addr) (h:Heap),(K w.params).In h->h.Ns mainGlobals mg->mg d.name=qv (.ref fa)->
   ∃fd:FuncData,(∀(s:Shared) (u:Value),BindsTo s fd ⟨[u],[]⟩ [("_law_script",u)])/\∀base:Heap,(K w.params).In base->base.Ns mainGlobals mg->FnOk l.prog w (K w.params) mg base (CXe l.prog w) r fa fd ["_law_script"] (DW (K w.params))):
  PySem.W.WalkO q loose XP YP l.row.toRowW d [] (λf vs=>PySem.call f vs):=
 L2.walk_of (n:=63) (k:=r) (x:="_law_script") (CX:=λw=>CXe l.prog w) (sp:=λw=>DW (K w.params)) hn (by decide) hdf hr hY F (λ_ _ a e b _ c=>⟨a,e,rfl,c,b,λ_=>rfl⟩)
  λ_ _ _ _ _ h=>by obtain⟨_,_,_,_,_,_,_,_,_,_,_,_,_,_,z⟩:=h;exact z
noncomputable def NQ(f:Str):Stmt->Option Str
 |.Assign [.Attribute (.Name x _) g _] (.Dict [] [] _) _=>if g=f then qv x else qw
 |_=>qw
noncomputable def Mx(f:Str):Stmt->Option Str
 |.Assign [.Attribute (.Name x _) g _] (.List [] _) _=>if g=f then qv x else qw
 |_=>qw
def Ig(x:Str):List Stmt->Bool
 |[a,b,c]=>NQ "held" a==qv x&&Mx "done" b==qv x&&Mx "undone" c==qv x
 |_=>q4
def Ih{st:Stmt}(h:NQ f st=qv x): ∃n q e a,st= .Assign [.Attribute (.Name x n) f q] (.Dict [] [] e) a:=by
 unfold NQ at h;split at h
 ·split at h
  ·rename_i b;subst b;cases h;exact⟨_,_,_,_,rfl⟩
  ·cases h
 ·cases h
def BQ{st:Stmt}(h:Mx f st=qv x): ∃n q e a,st= .Assign [.Attribute (.Name x n) f q] (.List [] e) a:=by
 unfold Mx at h;split at h
 ·split at h
  ·rename_i b;subst b;cases h;exact⟨_,_,_,_,rfl⟩
  ·cases h
 ·cases h
def DX(h:Ig x b=qz): ∃n1 q1 a1 n2 q2 a2 n3 q3 a3 e1 e2 e3,b=OM x n1 q1 a1 n2 q2 a2 n3 q3 a3 e1 e2 e3:=by
 unfold Ig at h;split at h
 ·simp only[av,beq_iff_eq]at h;obtain⟨⟨d,a⟩,c⟩:=h;obtain⟨n1,q1,e1,a1,rfl⟩:=Ih d;obtain⟨n2,q2,e2,a2,rfl⟩:=BQ a;obtain⟨n3,q3,e3,a3,rfl⟩:=BQ c;exact⟨n1,q1,a1,n2,q2,a2,n3,q3,a3,e1,e2,e3,rfl⟩
 ·cases h
section
variable{P:Program}{w:World}{K:Frag}{mg:Str->Option Value}{base h:Heap}{ad:Ad}{k:Nat}{tab:List (Str×SK.Gl)}{fns:List (Nat×Fn)}
def Fj{st:Stmt}{A:Nat}(RC:RkC K A)(Fu:Fun K x qual st f fd)(hs:bV (aE (defScope st)) [self] (defScope st)=qz)(hb:Ig self (defBody st)=qz):FnOk P w K mg base (CXe P w) (k+1) f fd [self] (spI K ad A):=by
 obtain⟨N,L,kV,o,Z,W,q,C,t,rfl,lk,c⟩:=Fu.ex;obtain⟨S,nm⟩:=dM hs;obtain⟨Y,q1,J,I,q2,M,n3,q3,a3,B,U,e3,d⟩:=DX hb
 have h:(aE (defScope st))[0]? =qv self:=by
  have:=S.pre
  cases e:aE (defScope st)with
  |nil=>rw[e]at this;cases this
  |cons y O=>rw[e]at this;cases this;rfl
 have g:self∈aE (defScope st):=List.mem_of_getElem? h;refine zY lk c S (λi H Q E a=>?_) λT b s H i Q E X a=>?_
 ·obtain⟨p,dx,G,rfl,_⟩:=a;rfl
 ·obtain⟨p,dx,G,rfl,v,r,u,m,j,n,l⟩:=a;rw[d];refine BO ⟨RC,h,(S.par self (.head _)).elim .inl λz=>.inr (.inl z),(nm _ g).1,(nm _ g).2⟩ (p:=p) (dx:=dx) (G:=G) ?_ v r u m j n l
  unfold L2.start;rfl
def gG.mono(h:gG P w K mg base ad k fns)(hk:k<=k'):gG P w K mg base ad k' fns:=λj n F e=>let ⟨r,h1,h2⟩:=h j n F e;⟨r,ol h1 hk,h2⟩
def BR(h1:km K A qk=qz)(h2:jp K A=qz)(h3:jq K A=qz)(h4:nh K (.ref A) "__setattr__"=qv (qv (.builtin "object.__setattr__")))(h5:nh K (.ref A) "held"=qv qw)(h6:nh K (.ref A) "done"=qv qw)(h7:nh K (.ref A) "undone"=qv qw):RkC K A:=⟨⟨h1,h2,h3,h4⟩,h5,h6,h7⟩
def PQ.rack(T:PQ P w K mg base h ad k tab fns)(A:Addr)(c:RkC K A)(hm:nsIn K mainGlobals "Rack"=qv (qv (.ref A)):=by kernel_rfl):PQ P w K mg base h ad k (("Rack",.cls A [])::tab) fns:=
 ⟨dJ.cons T.t (by decide) ⟨oe T.X T.G hm,c,λ_ _ _ e=>by cases e⟩,T.u,T.X,T.G,T.B⟩
def Pl(x qual:Str)(st:Stmt)(ps:List Str):Prop:= ∀(kV doc pm:Value) (an:Option Addr) (cdv ct:Value) (us:List Value),us.length=ps.length->bindArgs (ou x qual (defArgs st) (defBody st) (defScope st) .none kV doc pm an cdv ct) ⟨us,[]⟩=pure (ps.zip us)
def PQ.met(T:PQ P w K mg base h ad k tab fns)(m qual:Str)(st:Stmt)(f:Addr)(self:Str)(ps:List Str)(n:Nat)(M:FM){A:Addr}{ms:List (Str×Nat×FM)}{oc:Value}{od an:Option Addr}{osl:Array (Option Value)}{kV doc pm cdv ct:Value}(l:K.lookup f=qv ⟨oc,od,.func (ou m qual (defArgs st) (defBody st) (defScope st) .none kV doc pm an cdv ct),osl⟩)
  (hl:tab.lookup ("Rack":Str)=qv (SK.Gl.cls A ms)) (d:HV tab A ms st=qv (n,M):=by kernel_rfl) (c:codeIn K cdv qual=qz:=by kernel_rfl) (kp:keepIn K (.ref f)=qz:=by kernel_rfl) (m1:nh K (.ref A) m=qv (qv (.ref f)):=by kernel_rfl) (m2:ot K (.ref f)=qz:=by kernel_rfl)
  (no:m≠"held"/\m≠"done"/\m≠"undone":=by decide) (hps:cH (defArgs st)=qv (self::ps):=by rfl) (hb:Pl m qual st (self::ps):=by intro _ _ _ _ _ _ us hl;rcases us with _|⟨u0,_|⟨u1,_|⟨u2,_|⟨u3,_|⟨u4,_|⟨u5,us⟩⟩⟩⟩⟩⟩<;>first|rfl|(simp at hl)):
  PQ P w K mg base h ad (k+1) (("Rack",.cls A ((m,n,M)::ms))::tab) fns:=by
 have F:=lK (x:=m) (qual:=qual) (st:=st) l c kp;obtain⟨C,g,j⟩:=(T.t "Rack" _ hl).2;have ok:=Fe (k:=k) T.B T.t g j F hps d;refine⟨dJ.cons (T.t.mono (ph k)) (by decide) ⟨C,g,λi s y e=>?_⟩,T.u.mono (ph k),T.X,T.G,T.B⟩
 rw[ky]at e
 cases q:i==m with
 |true=>
  rw[q]at e;cases e
  cases eq_of_beq q
  exact⟨no,f,k+1,_,_,aj _,⟨m1,m2,kp⟩,ok,F.binds hb⟩
 |false=>
  rw[q]at e;obtain⟨b,p,r,o,a,z,v⟩:=j i s y e;exact⟨b,p,r,o,a,ol z (ph k),v⟩
end
def DY(i j A:Nat)(e:F):FS:=λρ=>f8 ρ (e ρ) λd=>.nx ((ρ.set i (.sh d)).set j (.rk A ⟨[],[],[]⟩))
section
variable{ad:Ad}
def Ii{i j kt k2:Nat}(O:StOk X ad C)(MK:MkOk X ad A)(ha:ME X ad a fa)(sa:m8 a)(hi:loc C x=qv i)(hj:loc C y=qv j)(hg:L2.Gl X z)(hm:X.mg z=qv (.ref A))(hdb:(z==("__debug__":Str))=q4)(hw:swappedStores [.Tuple [.Name x px,.Name y py] kt pt] (.Tuple [a,.Call (.Name z np) [] [] cp] k2 pt2) X.env=pure qw):
  MS X ad Z (.Assign [.Tuple [.Name x px,.Name y py] kt pt] (.Tuple [a,.Call (.Name z np) [] [] cp] k2 pt2) pos) (DY i j A fa):=by
 obtain⟨f,k,fd,ps,M,F,B,hb⟩:=MK.ok
 have l:fW (λx=>loc C x) [x,y]=qv [i,j]:=by simp[fW,hi,hj]
 obtain⟨P,_⟩:=GK (tg:=.Tuple [.Name x px,.Name y py] kt pt) (xs:=[x,y]) (k:=2) O.cx.calm O.cx.nd rfl (O.nms l);refine PS.imp (zS (Ew (b8 ha (b8 (λL s J H Q I hq=>vK (E:=λ_ _ _=>False) M F B hg hm hb .nil (λL J H s e s' I m=>by obtain⟨_,_,_,_,_,_,_,_,_,_,_,_,_,_,z⟩:=m;exact z.elim) hdb L s J H Q I hq) cZ rfl) (aP sa))) P rfl hw rfl) ?_
 rintro D' J H ⟨Y,G,ρ,E,S,hx,B⟩;refine eW S hx B λv d W q st r k=>?_
 have h:=S.step st;intro p n np g u;refine⟨p,n,W,rfl,?_,h.st.gh.free np,h.st.gh.free g,u,aG,by rw[aD u,aG],λd0 l1 l2 U nd n1 n2 hR hk=>⟨rfl,?_⟩⟩
 ·exact h.st.gh.trans ((Same.upd_new g).trans (Same.upd_new (by rw[aD (qu u)];exact np)))
 ·have back: ∀{c:Addr},upd (upd q n (.own p)) p (.ins A n []) c=qw->q c=qw:=λ{c} m=>by
   by_cases z:c=p
   ·rw[z];exact np
   ·by_cases K:c=n
    ·rw[K];exact g
    ·rw[aD z,aD K]at m;exact m
  have s1:Same q U:=λb o e=>hk b o (aY e np) (by rw[aD (aY e np),aD (aY e g)];exact e)
  refine⟨show 2<=sizeLine by decide,λt N=>?_⟩
  have T:Same q (upd U t (.tup [v,.ref p])):=s1.trans (Same.upd_new N);refine⟨t,[v,.ref p],rfl,SqT.of aG,rfl,v5 rfl ?_⟩;refine k _ W _ ((h.set r).setR T (hR.up (Same.upd_new N)) (λa ha=>?_) (h.st.gh.trans T))
  simp only[au,k7,or_false]at ha;rcases ha with z|z|z|z|z
  ·rw[z];exact np
  ·rw[z];exact g
  ·rw[z];exact back nd
  ·rw[z];exact back n1
  ·rw[z];exact back n2
end
structure MRd where
 A:Nat
 i:Nat
 M:FM
 fs:List F
def y9(C:SK.Ctx)(e:Expr):Option MRd:=(rkc C).bind λ(A,ms)=>(BL e).bind λc=>(cQ c.o).bind λ(x,_)=>(loc C x).bind λi=>(ms.lookup c.m).bind λ(n,M)=>if c.as.length<20 then(fW (bU 50 C) c.as).bind λfs=>if fs.length=n then qv ⟨A,i,M,fs⟩ else qw else qw
def Jk(C:SK.Ctx):Expr->Option (MRd×CmpOp×F)
 |.Compare a [op] [b] _=>(y9 C a).bind λr=>(bU 50 C b).map λg=>(r,op,g)
 |_=>qw
def cOf(z:MRd×CmpOp×F):FC:=y8 z.1.A z.1.i z.1.M z.1.fs z.2.1 z.2.2
def DZ(C:SK.Ctx)(e:Expr):Option FC:=match Jk C e with
 |some z=>qv (cOf z)
 |none=>(bU 50 C e).map BP
def orX(C:SK.Ctx):List Expr->Option FC
 |[]=>qw
 |[a]=>DZ C a
 |a::b::r=>(DZ C a).bind λc1=>(orX C (b::r)).map λc2=>cOr c1 c2
def ifX(C:SK.Ctx)(e:Expr):Option FC:=match Jk C e with
 |some z=>qv (cOf z)
 |none=>(match e with
  |.BoolOp .Or (a::es) _=>(Jk C a).bind λ_=>orX C (a::es)
  |_=>qw)
structure PRd where
 x:Str
 y:Str
 a:Expr
 z:Str
def xG(e:Expr):Option Str:=match e with
 |.Call f as kws _=>if as.isEmpty&&kws.isEmpty then(cQ f).map (·.1)else qw
 |_=>qw
def sP(h:xG e=qv z): ∃np cp,e= .Call (.Name z np) [] [] cp:=by
 unfold xG at h;split at h
 ·split at h
  ·rename_i a;rw[av]at a
   cases cU a.1
   cases cU a.2
   obtain⟨⟨x,p⟩,b,rfl⟩:=zMd h
   cases a8 b
   exact⟨_,_,rfl⟩
  ·cases h
 ·cases h
def My(st:Stmt):Option (Expr×Expr):=match st with
 |.Assign ts e _=>(one ts).map λt=>(t,e)
 |_=>qw
def uX{st:Stmt}(h:My st=qv (t,e)): ∃p,st= .Assign [t] e p:=by
 unfold My at h;split at h
 ·obtain⟨c,a,b⟩:=zMd h
  cases cF a
  cases b;exact⟨_,rfl⟩
 ·cases h
def NR(st:Stmt):Option PRd:=(My st).bind λ(t,e)=>(Mp t).bind λ(es,_)=>(Mr es e).bind λq=>(xG q.b).map λz=>⟨q.x,q.y,q.a,z⟩
def Ij{st:Stmt}(h:NR st=qv q): ∃px py kt pt np cp k2 pt2 pos,st= .Assign [.Tuple [.Name q.x px,.Name q.y py] kt pt] (.Tuple [q.a,.Call (.Name q.z np) [] [] cp] k2 pt2) pos:=by
 unfold NR at h;obtain⟨⟨t,e⟩,c,h⟩:=zBd h;obtain⟨⟨es,k,j⟩,f,h⟩:=zBd h;obtain⟨r,g,h⟩:=zBd h;obtain⟨z,b,rfl⟩:=zMd h;obtain⟨pos,rfl⟩:=uX c;obtain⟨np,cp,d⟩:=sP b
 cases BD f
 obtain⟨k2,i,rfl,rfl⟩:=BI g;exact⟨_,_,_,_,np,cp,_,_,_,by rw[<-d]⟩
def rkP(C:SK.Ctx)(q:PRd):Option FS:=if q.z=("Rack":Str)/\C.sc.names.lookup q.z=qv .globalImplicit/\lO C q.x q.y=qz then(rkc C).bind λ(A,_)=>(loc C q.x).bind λi=>(loc C q.y).bind λj=>(bU 50 C q.a).map λf=>DY i j A f else qw
def oG(h:rkc C=qv (A,ms)):C.tab.lookup ("Rack":Str)=qv (SK.Gl.cls A ms):=by
 unfold rkc at h;split at h
 ·rename_i e;cases h;exact e
 ·cases h
def Ik(h:Jk C e=qv z): ∃a b p,e= .Compare a [z.2.1] [b] p/\y9 C a=qv z.1/\bU 50 C b=qv z.2.2:=by
 unfold Jk at h;split at h
 ·obtain⟨r,d,h⟩:=zBd h;obtain⟨g,c,rfl⟩:=zMd h;exact⟨_,_,_,rfl,d,c⟩
 ·cases h
section
variable{X:Cx}{ad:Ad}{Z:(St->Nat->Hp->Prop)->Prop}{C:SK.Ctx}{e:Expr}
def pJ(O:StOk X ad C)(h:y9 C e=qv r):PE X e (uS X ad r.A r.i r.M r.fs)/\∃a b c d,e= .Call a b c d:=by
 unfold y9 at h;have f:=zBd h;clear h;obtain⟨⟨A,P⟩,H,h⟩:=f;have f:=zBd h;clear h;obtain⟨c,q,h⟩:=f;have f:=zBd h;clear h;obtain⟨⟨x,p⟩,K,h⟩:=f;obtain⟨rfl,s⟩:=sO q;clear q;obtain⟨o,m,S,Q,T⟩:=c
 have l:cQ o=qv (x,p):=K
 cases a8 l
 have f:=zBd h;clear h;obtain⟨i,L,h⟩:=f;have f:=zBd h;clear h;obtain⟨⟨B,M⟩,E,h⟩:=f
 simp only at h
 split at h
 ·rename_i g;obtain⟨fs,n,h⟩:=zBd h;split at h
  ·rename_i J;cases h;obtain⟨_,G,z⟩:=(O.cx.gt _ _ (oG H)).2;obtain⟨N,y,v,I⟩:=O.cx.vis x i L;obtain⟨t,j⟩:=sJ (dI (ad:=ad) 50).1 O.cx n
   exact⟨E8 G (z m B M E) N y v I t J (λa r e=>by
    subst e;exact⟨aP (j a (.head _)),kX λe u=>j e (.tail _ u)⟩) (jA n).symm (uV j g) s,_,_,_,_,rfl⟩
  ·cases h
 ·cases h
def BS(O:StOk X ad C)(h:Jk C e=qv z):MTX X ad Z e (cOf z):=by
 obtain⟨a,b,p,rfl,d,c⟩:=Ik h;exact H0 O.cx.un (pJ O d).1 ((dI (ad:=ad) 50).1 X C _ _ O.cx c).1 (dS (aQ c).2.1)
def xH(O:StOk X ad C)(h:DZ C e=qv c):MTX X ad Z e c:=by
 unfold DZ at h;split at h
 ·rename_i z b;cases h;exact BS O b
 ·obtain⟨f,a,rfl⟩:=zMd h;exact DV ((dI (ad:=ad) 50).1 X C _ _ O.cx a).2.1
theorem Fk(O:StOk X ad C){pos:Pos}: ∀{es:List Expr} {c:FC},orX C es=qv c->MWX X ad Z (.BoolOp .Or es pos) c
 |[],c,h=>by cases h
 |[a],c,h=>Id (xH O h)
 |a::b::r,c,h=>by
  unfold orX at h;obtain⟨g,e,h⟩:=zBd h;obtain⟨f,d,rfl⟩:=zMd h;exact LA (xH O e) (Fk O d)
def LC(O:StOk X ad C)(h:ifX C e=qv c):MTX X ad Z e c:=by
 unfold ifX at h;split at h
 ·rename_i z a;cases h;exact BS O a
 ·split at h
  ·obtain⟨z,_,h⟩:=zBd h;exact(Fk O h).pt
  ·cases h
end
def zA(j A i:Nat)(M:FM)(fs:List F):FS:=λρ=>jC ρ A i M fs λd ρ1=>.nx (ρ1.set j (.sh d))
def zB(A i:Nat)(f g:F):FS:=λρ=>f8 ρ (g ρ) λy=>match(ρ[i]? :Option Slot)with
 |some (.rk C r)=>if C=A then f8 ρ (f ρ) (λz=>match z with
  |.str q=>if r.held.length<LIM then .nx (ρ.set i (.rk A {r with held:=m9 r.held q y}))else .rt .bad
  |_=>.rt .bad)else .rt .bad
 |_=>.rt .bad
noncomputable def LD(ρ:Rho)(j A:Nat):RR->Out
 |.rk r=>.nx (ρ.set j (.rk A r))
 |.ex c=>.ex c ρ
 |.bad=>.rt .bad
def Il(j A:Nat)(M:FR)(fs:List F):FS:=λρ=>match args fs ρ with
 |.ok ds=>LD ρ j A (M ds)
 |.ex c=>.ex c ρ
 |.bad=>.rt .bad
def NS(X:Cx)(ad:Ad)(A:Nat)(M:FR)(fs:List F):TE:=λσ H Q=>∃G E,XP X ad σ E/\tA X ad fs σ H (λvs H1=>∃ds G1,Step G H G1 H1/\aJ X.K ad G1 ds vs/\ds.length=fs.length/\RRK X.K ad A G1 H1 (M ds) Q E)
section
variable{X:Cx}{ad:Ad}{A:Nat}
def Im(O:StOk X ad C)(he:PE X e (uS X ad A i M fs))(hj:loc C y=qv j)(hs:swapsWith e (qv (.Name y p)) pos.line X.env=pure q4):MS X ad Z (.Assign [.Name y p] e pos) (zA j A i M fs):=by
 have nm:=O.nm hj;refine PS.imp (nF O.cx.nd nm.1 nm.2.1 he hs nm.2.2) ?_;rintro n o H ⟨a,G,q,E,S,m,f⟩;exact BN S m f λv d l g h b c k=>k _ l g (b.set c)
theorem StepR.at(gh:Same G H)(gb:G b=qw)(hb:b∈foot)(hn:H b≠qw):StepR foot G H G (upd H b o):=by
 refine⟨Same.refl _,λc u e=>?_,λc u a e=>?_,λc f d=>absurd f d,λc a=>?_⟩
 ·rw[aD (λz=>by rw[z,gb]at e;cases e)]
  exact gh c u e
 ·rw[aD (λz=>a (by rw[z];exact hb))]
  exact e
 ·by_cases z:c=b
  ·rw[z,aG];exact λy=>nomatch y
  ·rw[aD z];exact a
def Io(hu:X.A.units+62<cLine)(RC:RkC X.K A)(hN:X.N[i]? =qv x)(hv:Vis X.env.scope x)(hd:(x==("__debug__":Str))=q4)(hcd:(x==("__classdict__":Str))=q4)(hk:ME X ad k f)(hw:ME X ad v g)(hs:swapsWith v (qv (.Subscript (.Attribute (.Name x np) "held" qp) k kp)) pos.line X.env=pure q4):
  MS X ad Z (.Assign [.Subscript (.Attribute (.Name x np) "held" qp) k kp] v pos) (zB A i f g):=by
 refine PS.imp (Bz (by lia) (iX (b9 hN hv hd hcd) rfl) hk hw hs) ?_
 rintro t U H ⟨e,G,l,E,S,M,T⟩;refine eW S M T λw y G1 H1 s o a=>?_
 have n:=S.step s
 cases m:(l[i]? :Option Slot)with
 |none=>rw[m]at a;exact a.elim
 |some sl=>
  rw[m]at a
  cases sl with
  |rk C r=>
   have b:OKo X ad e (if C=A then f8 l (f l) (λz=>match z with
    |.str q=>if r.held.length<LIM then .nx (l.set i (.rk A {r with held:=m9 r.held q y}))else .rt .bad
    |_=>.rt .bad)else .rt .bad) t E:=a
   by_cases h:C=A
   ·rw[if_pos h]at b;subst h;obtain⟨p0,Y,d,l1,l2,O,P⟩:=n.sl.rk m;refine iF RC P O (fd:="held") rfl RC.n1 ?_;refine eW n M b λu z W H2 j I k2=>?_
    have L:=n.step j
    cases z with
    |str q=>
     unfold Rep at I;subst I;have c:=P.step j;obtain⟨p,B,J⟩:=c.held
     have Q:p.length=r.held.length:=(nu J).symm
     have k3:OKo X ad e (if r.held.length<LIM then .nx (l.set i (.rk C {r with held:=m9 r.held q y}))else .rt .bad) t E:=k2
     by_cases h:r.held.length<LIM
     ·rw[if_pos h]at k3;refine⟨d,_,rfl,Ji.k (k:=qt q) B (by rw[Q];exact bh h (by decide)),?_⟩
      exact k3 U W _ (L.updR m O c (StepR.at L.st.gh c.gd (by simp) (by rw[B];exact λz=>nomatch z)) (c.dict (Fb J (o.mono j.sg) q)) (.inl rfl))
     ·rw[if_neg h]at k3;exact k3.elim
    |_=>exact k2.elim
   ·rw[if_neg h]at b;exact b.elim
  |no=>exact a.elim
  |sh _=>exact a.elim
  |ow _=>exact a.elim
  |dc _=>exact a.elim
  |sd _=>exact a.elim
def RRK.impE(h:RRK X.K ad A G H m Q E)(k: ∀c H',E c H'->E' c H'):RRK X.K ad A G H m Q E':=by
 cases m with
 |rk r=>exact h
 |ex c=>exact λa H' st=>k c H' (h a H' st)
 |bad=>exact h
def NT(T:Dk X tn (spR X.K ad A n N))(hg:L2.Gl X tn)(hdb:(tn==("__debug__":Str))=q4)(ha:MA X ad (a::es) fs)(hn:fs.length=n)(hst:starEach (a::es) X.env=(q4,eval a X.env)::starEach es X.env)(hany:(backTo cp (starEach es X.env)).any (·.1)=q4):
  PE X (.Call (.Name tn p) (a::es) [] cp) (NS X ad A N fs):=by
 rintro h s z H Q I ⟨G,E,m,i⟩;obtain⟨O,k,L,o,v,hk,g,u,y⟩:=T;refine wpAny_Call_Name_kw (gA I hg v ?_ hdb);refine jh (h₀:=X.base) I.ok.mod.kin hk (L2.thn (ha cp _ s z H _ I i) λJ t l=>?_) hst hany
 obtain⟨vs,H2,b,r,B,C,st,x,d,j⟩:=l;exact⟨b.kIn,oX (vs:=vs) (E:=xk ad E) g u y b r ⟨C,B,st.gh,x,d.trans hn,j.impE λc M e=>⟨c,rfl,e⟩⟩ λe q f=>m h H2 t e q b f⟩
def LE(O:StOk X ad C)(he:PE X e (NS X ad A N fs))(hj:loc C y=qv j)(hs:swapsWith e (qv (.Name y p)) pos.line X.env=pure q4):MS X ad Z (.Assign [.Name y p] e pos) (Il j A N fs):=by
 have nm:=O.nm hj;refine PS.imp (nF O.cx.nd nm.1 nm.2.1 he hs nm.2.2) ?_;rintro x g H ⟨h,G,s,E,S,v,f⟩;refine⟨G,E g,v.1 g,G,s,E g,S.st.gh,S.sl,v.1 g,?_⟩;unfold Il at f
 cases i:args fs s with
 |ok m=>
  rw[i]at f;intro K o u st z;have t:=S.step st;refine⟨m,o,st,z,fJ i,?_⟩;have a:OKo X ad h (LD s j A (N m)) x E:=f
  cases q:N m with
  |rk r=>
   rw[q]at a;intro p J d M L l n b B I;exact a _ l n (t.setR2 b B I)
  |ex c=>rw[q]at a;exact λl n b=>a g l n (t.step b)
  |bad=>rw[q]at a;exact a.elim
 |ex c=>rw[i]at f;exact λo u st=>f g o u (S.step st)
 |bad=>rw[i]at f;exact f.elim
end
structure KRd where
 A:Nat
 M:FR
 fs:List F
def NU(C:SK.Ctx)(e:Expr):Option KRd:=match e with
 |.Call f as kws _=>if kws.isEmpty&& !as.isEmpty then(cQ f).bind λ(x,_)=>(match glo C x with
  |some (.rmk A n M)=>(fW (bU 50 C) as).bind λfs=>if fs.length=n then qv ⟨A,M,fs⟩ else qw
  |_=>qw)else qw
 |_=>qw
noncomputable def Fl:Expr->Bool
 |.Call _ _ _ _=>qz
 |_=>q4
def wN(C:SK.Ctx)(y:Str)(e:Expr):Option FS:=(loc C y).bind λj=>match y9 C e with
 |some r=>qv (zA j r.A r.i r.M r.fs)
 |none=>match NU C e with
  |some r=>qv (Il j r.A r.M r.fs)
  |none=>(xG e).bind λx=>if x=("Rack":Str)/\C.sc.names.lookup x=qv .globalImplicit then(rkc C).map λ(A,_)=>HW j A else qw
def wH(C:SK.Ctx)(o k e:Expr):Option FS:=if Fl e then(rkc C).bind λ(A,_)=>(atF C "held" o).bind λi=>(bU 50 C k).bind λf=>(bU 50 C e).map λg=>zB A i f g else qw
def wA(C:SK.Ctx)(st:Stmt):Option FS:=(My st).bind λ(t,e)=>match t with
 |.Name y _=>wN C y e
 |.Subscript o k _=>wH C o k e
 |.Tuple _ _ _=>(NR st).bind (rkP C)
 |_=>qw
mutual
def wS:Nat->SK.Ctx->Stmt->Option FS
 |0,_,_=>qw
 |n+1,C,s=>match wA C s with
  |some g=>qv g
  |none=>match s with
   |.Expr e p=>(match y9 C e with
    |some r=>qv (Ff r.A r.i r.M r.fs)
    |none=>CD 50 q4 C (.Expr e p))
   |.If c a b _=>(match ifX C c with
    |some t=>(wSs n C a).bind λg=>(wSs n C b).map λh=>DU t g h
    |none=>(bU 50 C c).bind λf=>(wSs n C a).bind λg=>(wSs n C b).map λh=>sIf f g h)
   |.For tg it b els _=>if els.isEmpty then(cG tg).bind λ(xs,k)=>(EF 50 C (k != 0) it).bind λf=>(fW (λx=>loc C x) xs).bind λis=>if(cQ it).isNone then(wSs n C b).map λg=>nN is (k==0) f g else qw else qw
   |s=>CD 50 q4 C s
def wSs:Nat->SK.Ctx->List Stmt->Option FS
 |0,_,_=>qw
 |n+1,C,ss=>match ss with
  |[]=>qv bN
  |[a]=>wS n C a
  |a::r=>(wS n C a).bind λf=>(wSs n C r).map λg=>aS f g
end
def Ip:Stmt->Option Str
 |.Return v _=>v.bind λe=>(cQ e).map (·.1)
 |_=>qw
def wR:Nat->SK.Ctx->List Stmt->Option (FS×Nat)
 |0,_,_=>qw
 |n+1,C,ss=>match ss with
  |[]=>qw
  |[a]=>(Ip a).bind λx=>(loc C x).map λi=>(bN,i)
  |a::r=>(wS n C a).bind λf=>(wR n C r).map λ(g,i)=>(aS f g,i)
structure WOk(X:Cx)(ad:Ad)(C:SK.Ctx)(E₀:XK):Prop where
 O:StOk X ad C
 MK: ∀A ms,C.tab.lookup ("Rack":Str)=qv (SK.Gl.cls A ms)->MkOk X ad A
 dx:DefX X E₀
 po:PassesOwn (model X.prog X.w) X.A X.env X.xe
def D0{st:Stmt}(h:Ip st=qv x): ∃p q,st= .Return (qv (.Name x p)) q:=by
 unfold Ip at h;split at h
 ·obtain⟨e,b,h⟩:=zBd h;obtain⟨⟨y,p⟩,a,rfl⟩:=zMd h
  cases a8 a
  cases b;exact⟨_,_,rfl⟩
 ·cases h
section
variable{X:Cx}{ad:Ad}{C:SK.Ctx}{E₀:XK}{e:Expr}{st:Stmt}{g:FS}
def Iq(O:StOk X ad C)(h:NU C e=qv r):PE X e (NS X ad r.A r.M r.fs)/\∃a b c d,e= .Call a b c d:=by
 unfold NU at h;split at h
 ·rename_i f o j E;split at h
  ·rename_i g;rw[av]at g
   cases cU g.1
   have B:=zBd h;clear h;obtain⟨⟨x,p⟩,m,h⟩:=B
   cases a8 m
   simp only at h
   split at h
   ·rename_i A n M t;obtain⟨fs,v,h⟩:=zBd h;split at h
    ·rename_i u;cases h;obtain⟨z,l,y⟩:=O.cx.gl t
     cases o with
     |nil=>exact absurd g.2 (by decide)
     |cons a eU=>
      obtain⟨q,i⟩:=sJ (dI (ad:=ad) 50).1 O.cx v;exact⟨NT y z l q u (aP (i a (.head _))) (kX λe s=>i e (.tail _ s)),_,_,_,_,rfl⟩
    ·cases h
   ·cases h
  ·cases h
 ·cases h
def BU(h:Fl e=qz): ∃a b c d,e= .Call a b c d:=by
 cases e with
 |Call a b c d=>exact⟨_,_,_,_,rfl⟩
 |_=>cases h
def NV(W:WOk X ad C E₀)(h:wA C st=qv g):MS X ad (Zt ad E₀ q4) st g:=by
 have O:=W.O;have H:=(dI (ad:=ad) 50).1;unfold wA at h;have l:=zBd h;clear h;obtain⟨⟨t,e⟩,u,h⟩:=l
 simp only at h
 split at h
 ·rename_i y p;obtain⟨pos,rfl⟩:=uX u;unfold wN at h;obtain⟨j,m,h⟩:=zBd h;split at h
  ·rename_i r J;cases h;obtain⟨G,a,b,c,d,rfl⟩:=pJ O J;exact Im O G m rfl
  ·split at h
   ·rename_i r J;cases h;obtain⟨G,a,b,c,d,rfl⟩:=Iq O J;exact LE O G m rfl
   ·obtain⟨x,z,h⟩:=zBd h;split at h
    ·rename_i v;obtain⟨rfl,B⟩:=v;have l:=zMd h;clear h;obtain⟨⟨A,E⟩,s,rfl⟩:=l;obtain⟨M,cp,rfl⟩:=sP z;have nm:=O.nm m;obtain⟨K,n,_,_⟩:=O.cx.gt _ _ (oG s);exact HY (W.MK A E (oG s)) (O.cx.gk _ B) n K O.cx.nd nm.1 nm.2.1 nm.2.2
    ·cases h
 ·rename_i o k kp;obtain⟨pos,rfl⟩:=uX u;unfold wH at h;split at h
  ·rename_i v;have l:=zBd h;clear h;obtain⟨⟨A,E⟩,m,h⟩:=l;obtain⟨i,z,h⟩:=zBd h;obtain⟨f,s,h⟩:=zBd h;obtain⟨Z,T,rfl⟩:=zMd h;obtain⟨x,p,q,rfl,L⟩:=jB z;obtain⟨v1,Q,P,v4⟩:=O.cx.vis x i L;obtain⟨_,_,Y,_⟩:=O.cx.gt _ _ (oG m);have U:=(H X C _ f O.cx s).1;have N:=(H X C _ Z O.cx T).1;obtain⟨a,b,c,d,rfl⟩:=BU v;exact Io O.cx.un Y v1 Q P v4 U N rfl
  ·cases h
 ·have l:=zBd h;clear h u;obtain⟨q,m,h⟩:=l;obtain⟨px,py,kt,pt,M,cp,k2,ab,pos,rfl⟩:=Ij m;unfold rkP at h;split at h
  ·rename_i v;obtain⟨S,B,I⟩:=v;have l:=zBd h;clear h;obtain⟨⟨A,E⟩,u,h⟩:=l;obtain⟨i,m,h⟩:=zBd h;obtain⟨j,z,h⟩:=zBd h;obtain⟨f,s,rfl⟩:=zMd h;rw[S]at B ⊢;obtain⟨K,n,_,_⟩:=O.cx.gt _ _ (oG u);exact Ii O (W.MK A E (oG u)) (H X C _ _ O.cx s).1 (aQ s).1 m z (O.cx.gk _ B) n K (kB (by rw[O.sc];simpa[lO]using I))
  ·cases h
 ·cases h
def Fm(W:WOk X ad C E₀): ∀n,(∀st g,wS n C st=qv g->MS X ad (Zt ad E₀ q4) st g)/\(∀ss g,wSs n C ss=qv g->MSs X ad (Zt ad E₀ q4) ss g):=by
 have O:=W.O;have M:=(dI (ad:=ad) 50).1;have B:=(dI (ad:=ad) 50).2.2
 have kD: ∀st g,CD 50 q4 C st=qv g->MS X ad (Zt ad E₀ q4) st g:=λst g h=>(sK (ad:=ad) (E₀:=E₀) 50).1 X C q4 _ g O (λ_=>⟨W.dx,W.po⟩) h
 intro n
 induction n with
 |zero=>
  refine⟨λst g h=>?_,λss g h=>?_⟩
  ·unfold wS at h;cases h
  ·unfold wSs at h;cases h
 |succ n N=>
  obtain⟨v,e⟩:=N;refine⟨λst g h=>?_,λss g h=>?_⟩
  ·unfold wS at h;split at h
   ·rename_i U P;cases h;exact NV W P
   ·split at h
    ·split at h
     ·rename_i r J;cases h;obtain⟨y,a,b,c,d,rfl⟩:=pJ O J;exact Lx y rfl
     ·exact kD _ _ h
    ·split at h
     ·rename_i t K;obtain⟨s,i,h⟩:=zBd h;obtain⟨l,q,rfl⟩:=zMd h;exact LB (LC O K) (e _ s i) (e _ l q)
     ·obtain⟨f,j,h⟩:=zBd h;obtain⟨s,i,h⟩:=zBd h;obtain⟨l,q,rfl⟩:=zMd h;exact KD (M X C _ f O.cx j).2.1 (e _ s i) (e _ l q)
    ·rename_i L u b E pos _;split at h
     ·rename_i o
      cases cU o
      have G:=zBd h;clear h;obtain⟨⟨T,m⟩,j,h⟩:=G;obtain⟨f,i,h⟩:=zBd h;obtain⟨S,q,h⟩:=zBd h;split at h
      ·rename_i A;obtain⟨l,H,rfl⟩:=zMd h;have Q: ∀x p,u≠ .Name x p:=λx p z=>by subst z;cases A
       have I: ∀a b c,u≠ .Set a b c:=λa b c z=>by subst z;exact l6 i
       exact ET W.po O.cx.calm O.cx.nd ((B X C L _ _ f O.cx (BF j).2 i).2 Q) j (O.nms q) (e _ l H) (Db I)
      ·cases h
     ·cases h
    ·exact kD _ _ h
  ·unfold wSs at h;split at h
   ·cases h;exact AF
   ·exact AG (v _ _ h)
   ·obtain⟨s,j,h⟩:=zBd h;obtain⟨l,i,rfl⟩:=zMd h;exact vZ (v _ _ j) (e _ _ i)
def tR(X:Cx)(ad:Ad)(Z:(St->Nat->Hp->Prop)->Prop)(g:FS)(i:Nat):TS:=λD' σ H=>tS X ad Z g {D' with nx:=λσ' H'=>∃p,σ'[i]? =qv (qv (.ref p))/\D'.rt (.ref p) H'} σ H
theorem LF(W:WOk X ad C E₀): ∀n ss g i,wR n C ss=qv (g,i)->PSs X ss (tR X ad (Zt ad E₀ q4) g i)
 |0,ss,g,i,h=>by unfold wR at h;cases h
 |n+1,ss,g,i,h=>by
  unfold wR at h;split at h
  ·cases h
  ·obtain⟨x,m,h⟩:=zBd h;obtain⟨j,o,e⟩:=zMd h;cases e;obtain⟨p,q,rfl⟩:=D0 m;obtain⟨M,I,B,K⟩:=W.O.cx.vis x _ o;refine tZ (PS.imp (vG (b9 M I B K)) ?_);rintro u s H ⟨a,G,l,E,S,f,b⟩;obtain⟨L,v,z⟩:=(show OKo X ad a (.nx l) _ E from b) s G H S
   exact⟨.ref L,v,z⟩
  ·obtain⟨t,m,h⟩:=zBd h;have f:=zMd h;clear h;obtain⟨⟨N,j⟩,o,e⟩:=f;cases e;refine PSs.imp (iW ((Fm W n).1 _ _ m) (LF W n _ _ _ o)) ?_;rintro u s H ⟨a,G,l,E,S,f,b⟩;refine⟨a,G,l,E,S,f,?_⟩;unfold aS at b
   cases e:t l with
   |nx d=>rw[e]at b;exact λA J P y=>⟨a,J,d,E,y,f,b⟩
   |rt r=>rw[e]at b;cases r<;>exact b
   |bk d=>rw[e]at b;exact b
   |ct d=>rw[e]at b;exact b
   |ex c d=>rw[e]at b;exact b
end
def wFn(tab:List (Str×SK.Gl))(s:Stmt):Option (Nat×Fn):=match s with
 |.FunctionDef _ as b _ _ _ sc _ _ _=>(cH as).bind λP=>if bV (aE sc) P sc then(wSs 100 ⟨tab,[],sc,aE sc,[]⟩ b).map λg=>(P.length,SK.fnOf (aE sc).length g)else qw
 |_=>qw
noncomputable def Mz(A:Nat):Option Slot->RR
 |some (.rk C r)=>if C=A then .rk r else .bad
 |_=>.bad
def Jl(A N:Nat)(g:FS)(i:Nat):FR:=λds=>match g (ds.map Slot.sh++ak (N-ds.length) .no)with
 |.nx ρ=>Mz A ρ[i]?
 |.ex c _=>.ex c
 |_=>.bad
def rFn(tab:List (Str×SK.Gl))(A:Nat)(s:Stmt):Option (Nat×FR):=match s with
 |.FunctionDef _ as b _ _ _ sc _ _ _=>(cH as).bind λP=>if bV (aE sc) P sc then(wR 100 ⟨tab,[],sc,aE sc,[]⟩ b).map λp=>(P.length,Jl A (aE sc).length p.1 p.2)else qw
 |_=>qw
def MkT(P:Program)(w:World)(K:Frag)(mg:Str->Option Value)(base:Heap)(ad:Ad)(k:Nat)(tab:List (Str×SK.Gl)):Prop:= ∀A ms,tab.lookup ("Rack":Str)=qv (SK.Gl.cls A ms)->∃f r fd ps,r+1<=k/\Mk K A f/\FnOk P w K mg base (CXe P w) r f fd ps (spI K ad A)/\fB K fd ps []
section
variable{K:Frag}{ad:Ad}{tab:List (Str×SK.Gl)}
def Ir{st:Stmt}{F:Fn}(B:ExcK K ad)(TB:dJ P w K mg base ad k tab)(mk:MkT P w K mg base ad k tab)(Fu:Fun K x qual st f fd)(hps:cH (defArgs st)=qv ps)(hd:wFn tab st=qv (n,F)):FnOk P w K mg base (CXe P w) (k+1) f fd ps (CF K ad n F):=by
 obtain⟨oc,od,kV,ab,pm,an,l,ct,ac,rfl,lk,M⟩:=Fu.ex
 cases st with
 |FunctionDef nm Z b dl re tp i ts bi pos=>
  have t:((cH Z).bind λPs=>if bV (aE i) Ps i then(wSs 100 ⟨tab,[],i,aE i,[]⟩ b).map λg=>(Ps.length,SK.fnOf (aE i).length g)else qw)=qv (n,F):=hd
  have q:cH Z=qv ps:=hps
  rw[q]at t
  have m:(if bV (aE i) ps i then(wSs 100 ⟨tab,[],i,aE i,[]⟩ b).map λg=>(ps.length,SK.fnOf (aE i).length g)else qw)=qv (n,F):=t
  by_cases u:bV (aE i) ps i=qz
  ·rw[if_pos u]at m;obtain⟨g,hg,e⟩:=zMd m;cases e;obtain⟨S,nm⟩:=dM u;refine zY lk M S (λvs H Q E ⟨G,o,_,r,N,_⟩=>by rw[r.length,N]) λA j s H vs Q E Y L=>?_
   obtain⟨G,o,hG,r,N,hq⟩:=L;let C:SK.Ctx:=⟨tab,[],i,aE i,[]⟩;have O:StOk (p6 (CXe P w) P w K mg base (aE i) qual i f l A j s H E) ad C:=uW B TB gG.nil u Y;have T:DefX (p6 (CXe P w) P w K mg base (aE i) qual i f l A j s H E) E:=⟨rfl,rfl,rfl,λe s' h=>h⟩
   have W:WOk (p6 (CXe P w) P w K mg base (aE i) qual i f l A j s H E) ad C E:=⟨O,λA ms e=>let ⟨f,r,fd,ps,h1,h2,h3,h4⟩:=mk A ms e;⟨f,r,fd,ps,h2,h3,Y.mono h1,h4⟩,T,kh (Q₁:=λe I=>CXe P w j H s E e I)⟩
   refine⟨_,(Fm W 100).2 b g hg,?_⟩;refine⟨G,G,o.map Slot.sh++ak ((aE i).length-o.length) .no,λv c p=>E (.ref (ad.cls c)) qw p,?_,⟨λv=>v9 T,λ_ v c H h=>h⟩,?_⟩
   ·have:=kY (X:=p6 (CXe P w) P w K mg base (aE i) qual i f l A j s H E) (ad:=ad) (n:=(aE i).length-o.length) hG r
    unfold L2.start;rw[r.length];exact this
   ·have a:RK K ad G H (match g (o.map Slot.sh++ak ((aE i).length-o.length) .no)with
     |.rt (.ok d)=>.ok d
     |.rt (.ow U)=>.ow U
     |.rt _=>.bad
     |.nx _=>.ok .non
     |.ex c _=>.ex c
     |_=>.bad) Q (λc p=>E (.ref (ad.cls c)) qw p):=hq
    cases e:g (o.map Slot.sh++ak ((aE i).length-o.length) .no)with
    |nx z=>rw[e]at a;exact λv J p y=>a .non J p y.st (by unfold Rep;rfl)
    |bk z=>rw[e]at a;exact a.elim
    |ct z=>rw[e]at a;exact a.elim
    |ex c z=>rw[e]at a;exact λv J p y=>a J p y.st
    |rt r'=>
     rw[e]at a
     cases r' with
     |ok d=>exact a
     |ow U=>exact a
     |ex c=>exact a.elim
     |bad=>exact a.elim
  ·rw[if_neg u]at m;cases m
 |_=>cases hd
def Iu{st:Stmt}{F:FR}(B:ExcK K ad)(TB:dJ P w K mg base ad k tab)(mk:MkT P w K mg base ad k tab)(Fu:Fun K x qual st f fd)(hps:cH (defArgs st)=qv ps)(hd:rFn tab A st=qv (n,F)):FnOk P w K mg base (CXe P w) (k+1) f fd ps (spR K ad A n F):=by
 obtain⟨oc,od,kV,am,pm,an,u,ct,ap,rfl,lk,ab⟩:=Fu.ex
 cases st with
 |FunctionDef nm as b dl re tp j ts bi pos=>
  have I:((cH as).bind λPs=>if bV (aE j) Ps j then(wR 100 ⟨tab,[],j,aE j,[]⟩ b).map λp=>(Ps.length,Jl A (aE j).length p.1 p.2)else qw)=qv (n,F):=hd
  have L:cH as=qv ps:=hps
  rw[L]at I
  have t:(if bV (aE j) ps j then(wR 100 ⟨tab,[],j,aE j,[]⟩ b).map λp=>(ps.length,Jl A (aE j).length p.1 p.2)else qw)=qv (n,F):=I
  by_cases U:bV (aE j) ps j=qz
  ·rw[if_pos U]at t;have hx:=zMd t;clear t I;obtain⟨⟨g,i⟩,hg,e⟩:=hx;cases e;obtain⟨S,nm⟩:=dM U;refine zY lk ab S (λvs H Q E ⟨G,y,_,r,hl,_⟩=>by rw[r.length,hl]) λY l s H vs Q E hr al=>?_
   obtain⟨G,y,hG,r,hl,hq⟩:=al;let C:SK.Ctx:=⟨tab,[],j,aE j,[]⟩;have O:StOk (p6 (CXe P w) P w K mg base (aE j) qual j f u Y l s H E) ad C:=uW B TB gG.nil U hr;have T:DefX (p6 (CXe P w) P w K mg base (aE j) qual j f u Y l s H E) E:=⟨rfl,rfl,rfl,λe s' h=>h⟩
   have W:WOk (p6 (CXe P w) P w K mg base (aE j) qual j f u Y l s H E) ad C E:=⟨O,λA ms e=>let ⟨f,r,fd,ps,N,h2,h3,h4⟩:=mk A ms e;⟨f,r,fd,ps,h2,h3,hr.mono N,h4⟩,T,kh (Q₁:=λe ac=>CXe P w l H s E e ac)⟩
   refine⟨_,LF W 100 b g i hg,?_⟩;refine⟨G,G,y.map Slot.sh++ak ((aE j).length-y.length) .no,λZ c q=>E (.ref (ad.cls c)) qw q,?_,⟨λZ=>v9 T,λ_ Z c H h=>h⟩,?_⟩
   ·have:=kY (X:=p6 (CXe P w) P w K mg base (aE j) qual j f u Y l s H E) (ad:=ad) (n:=(aE j).length-y.length) hG r
    unfold L2.start;rw[r.length];exact this
   ·have m:RRK K ad A G H (match g (y.map Slot.sh++ak ((aE j).length-y.length) .no)with
     |.nx z=>Mz A z[i]?
     |.ex c _=>.ex c
     |_=>.bad) Q (λc q=>E (.ref (ad.cls c)) qw q):=hq
    cases e:g (y.map Slot.sh++ak ((aE j).length-y.length) .no)with
    |nx z=>
     rw[e]at m;intro Z G' q J
     have o:RRK K ad A G H (Mz A (z[i]? :Option Slot)) Q (λc q=>E (.ref (ad.cls c)) qw q):=m
     cases M:(z[i]? :Option Slot)with
     |none=>rw[M]at o;exact o.elim
     |some sl=>
      rw[M]at o
      cases sl with
      |rk C' r1=>
       have v:RRK K ad A G H (if C'=A then .rk r1 else .bad) Q (λc q=>E (.ref (ad.cls c)) qw q):=o
       by_cases hc:C'=A
       ·rw[if_pos hc]at v;subst hc;obtain⟨p0,dx,d,l1,l2,N,hR⟩:=J.sl.rk M;exact⟨p0,N,v p0 dx d l1 l2 G' q J.st hR λa ha=>J.rs.h0 i _ ⟨C',r1,p0,dx,d,l1,l2,M,N,hR.ins,rfl⟩ a ha⟩
       ·rw[if_neg hc]at v;exact v.elim
      |no=>exact o.elim
      |sh _=>exact o.elim
      |ow _=>exact o.elim
      |dc _=>exact o.elim
      |sd _=>exact o.elim
    |bk z=>rw[e]at m;exact m.elim
    |ct z=>rw[e]at m;exact m.elim
    |ex c z=>rw[e]at m;exact λZ G' q J=>m G' q J.st
    |rt r'=>rw[e]at m;exact m.elim
  ·rw[if_neg U]at t;cases t
 |_=>cases hd
end
section
variable{P:Program}{w:World}{K:Frag}{mg:Str->Option Value}{base h:Heap}{ad:Ad}{k:Nat}{tab:List (Str×SK.Gl)}{fns:List (Nat×Fn)}
theorem PQ.rfn(T:PQ P w K mg base h ad k tab fns)(x:Str)(st:Stmt)(f:Addr)(self:Str)(M:FM){A:Addr}{ms:List (Str×Nat×FM)}{oc:Value}{od an:Option Addr}{osl:Array (Option Value)}{kV doc pm cdv ct:Value}(l:K.lookup f=qv ⟨oc,od,.func (ou x x (defArgs st) (defBody st) (defScope st) .none kV doc pm an cdv ct),osl⟩)
  (hl:tab.lookup ("Rack":Str)=qv (SK.Gl.cls A ms)) (d:HV tab A ms st=qv (0,M):=by kernel_rfl) (c:codeIn K cdv x=qz:=by kernel_rfl) (kp:keepIn K (.ref f)=qz:=by kernel_rfl) (hm:nsIn K mainGlobals x=qv (qv (.ref f)):=by kernel_rfl)
  (hdb:(x==("__debug__":Str))=q4:=by decide) (hps:cH (defArgs st)=qv [self]:=by rfl) (hb:Bnd x st [self]:=by intro _ _ _ _ _ _ us hl;rcases us with _|⟨u0,_|⟨u1,us⟩⟩<;>first|rfl|(simp at hl)):
  PQ P w K mg base h ad (k+1) ((x,.rfn A M)::tab) fns:=by
 have F:=lK (st:=st) l c kp;obtain⟨e,a,b⟩:=(T.t "Rack" _ hl).2;exact⟨dJ.cons (T.t.mono (ph k)) hdb ⟨f,k+1,_,_,aj _,oe T.X T.G hm,kp,Fe (k:=k) T.B T.t a b F hps d,F.binds hb⟩,T.u.mono (ph k),T.X,T.G,T.B⟩
theorem PQ.rmk(T:PQ P w K mg base h ad k tab fns)(mk:MkT P w K mg base ad k tab)(x:Str)(st:Stmt)(f:Addr)(ps:List Str)(n A:Nat)(M:FR){oc:Value}{od an:Option Addr}{osl:Array (Option Value)}{kV doc pm cdv ct:Value}(l:K.lookup f=qv ⟨oc,od,.func (ou x x (defArgs st) (defBody st) (defScope st) .none kV doc pm an cdv ct),osl⟩)
  (d:rFn tab A st=qv (n,M):=by kernel_rfl) (c:codeIn K cdv x=qz:=by kernel_rfl) (kp:keepIn K (.ref f)=qz:=by kernel_rfl) (hm:nsIn K mainGlobals x=qv (qv (.ref f)):=by kernel_rfl)
  (hdb:(x==("__debug__":Str))=q4:=by decide) (hps:cH (defArgs st)=qv ps:=by rfl) (hb:Bnd x st ps:=by intro _ _ _ _ _ _ us hl;rcases us with _|⟨u0,_|⟨u1,_|⟨u2,us⟩⟩⟩<;>first|rfl|(simp at hl)):
  PQ P w K mg base h ad (k+1) ((x,.rmk A n M)::tab) fns:=by
 have F:=lK (st:=st) l c kp;exact⟨dJ.cons (T.t.mono (ph k)) hdb ⟨f,k+1,_,_,aj _,oe T.X T.G hm,kp,Iu (k:=k) T.B T.t mk F hps d,F.binds hb⟩,T.u.mono (ph k),T.X,T.G,T.B⟩
end
def aH(h:a ρ= .nx ρ'):aS a b ρ=b ρ':=by simp[aS,h]
def iU(h:a ρ= .rt r):aS a b ρ= .rt r:=by simp[aS,h]
def eP(h:e ρ= .ok d):f9 i e ρ= .nx (ρ.set i (.sh d)):=by simp[f9,h,f8]
def BV(h:e ρ= .ow d):f9 i e ρ= .nx (ρ.set i (.sh (.lst d))):=by simp[f9,h,f8]
def pK(h:e ρ= .ow d):mT i e ρ= .nx (ρ.set i (.ow d)):=by simp[mT,h]
def sQ(h:e ρ= .ok (.tup ds))(l:ds.length=is.length):qW is e ρ= .nx (setN is ds ρ):=by simp[qW,h,f8,l]
def eJ(h:e ρ= .ok d):dY e ρ= .nx ρ:=by simp[dY,h,f8]
def aT(h:e ρ= .ok d):bX e ρ= .rt (.ok d):=by simp[bX,h]
def l9(h:c ρ= .ok (.bl qz)):sIf c a b ρ=a ρ:=by simp[sIf,h]
def eT(h:c ρ= .ok (.bl q4)):sIf c a b ρ=b ρ:=by simp[sIf,h]
def aU(h:b (ds.map Slot.sh++ak (n-ds.length) .no)= .rt (.ok d)):fnOf n b ds= .ok d:=by simp[fnOf,h]
def uY(h:b (ds.map Slot.sh++ak (n-ds.length) .no)= .nx ρ):fnOf n b ds= .ok .non:=by simp[fnOf,h]
def mB:dX (xs.map D.int)=qv xs:=by
 induction xs with
 |nil=>rfl
 |cons x r a=>simp[dX,a]
def zC:eC (xs.map D.bl)=qv xs:=by
 induction xs with
 |nil=>rfl
 |cons x r a=>simp[eC,a]
def aV(h:a ρ= .ok x)(k:b ρ= .ok y):aR op a b ρ=mW op x y:=by simp[aR,h,k,R.bind]
def bP(h:a ρ= .ok x)(k:b ρ= .ok y):bH op a b ρ=fC op x y:=by simp[bH,h,k,R.bind]
def pL(h:a ρ= .ow x)(k:b ρ= .ow y):bH op a b ρ=fC op (.lst x) (.lst y):=by simp[bH,h,k,R.bind]
def iG(h:a ρ= .ok x)(k:b ρ= .ok y):rIx a b ρ=dIx x y:=by simp[rIx,h,k,R.bind]
def jD(h:a ρ= .ow x)(k:b ρ= .ok y):rIx a b ρ=dIx (.lst x) y:=by simp[rIx,h,k,R.bind]
def pM(h:a ρ= .ok (.bl b)):iZ a ρ= .ok (.bl (!b)):=by simp[iZ,h,R.bind]
def mC(h:a ρ= .ok (.bl qz)):iK a b ρ=b ρ:=by simp[iK,h,R.bind]
def sR(h:a ρ= .ok (.bl q4)):iK a b ρ= .ok (.bl q4):=by simp[iK,h,R.bind]
def NW(h:a ρ= .ok (.bl qz)):rOr a b ρ= .ok (.bl qz):=by simp[rOr,h,R.bind]
def BW(h:a ρ= .ok (.bl q4)):rOr a b ρ=b ρ:=by simp[rOr,h,R.bind]
def LG(h:a ρ= .ok x)(k:p x=qv b):rIs p a ρ= .ok (.bl b):=by simp[rIs,h,k,R.bind]
def a9(h:a ρ= .ok x):aB f [a] ρ=f [x]:=by simp[aB,mX,args,h,RA.cons,RA.then]
def cR(h:a ρ= .ow x):aB f [a] ρ=f [.lst x]:=by simp[aB,mX,args,h,RA.cons,RA.then]
def dF(h:a ρ= .ok x)(k:b ρ= .ok y):aB f [a,b] ρ=f [x,y]:=by simp[aB,mX,args,h,k,RA.cons,RA.then]
def eF(h:a ρ= .ok x)(k:b ρ= .ok y)(l:c ρ= .ok z):aB f [a,b,c] ρ=f [x,y,z]:=by simp[aB,mX,args,h,k,l,RA.cons,RA.then]
def uZ(h:a ρ= .ok x)(k:b ρ= .ok y):gN [a,b] ρ= .ok (.tup [x,y]):=by simp[gN,mX,args,h,k,RA.cons,RA.then]
def BX(h:a ρ= .ok (.int i))(h':b ρ= .ok (.int j))(h'':c ρ= .ok (.int k)):j7 .LtE .Lt a b c ρ= .ok (.bl (decide (i<=j)&&decide (j<k))):=by
 by_cases e:i<=j<;>simp[j7,h,h',h'',R.bind,fC,e]
def LH{ds:List D}:EA [.lst (ds.map λd=>.bl (p d))]= .ok (.bl (ds.all p)):=by
 have e:(ds.map λd=>D.bl (p d))=(ds.map p).map D.bl:=by simp
 have k:(items (D.lst (ds.map λd=>D.bl (p d)))).bind eC=qv (ds.map p):=by
  show eC _=_;rw[e];exact zC
 simp only[EA,k];simp
theorem oH{f:D->Option (Option D)}{g:D->D}: ∀{ds:List D},(∀d∈ds,f d=qv (qv (g d)))->bR f ds=qv (ds.map g)
 |[],_=>rfl
 |d::r,h=>by simp[bR,h d (.head _),oH (ds:=r) λx m=>h x (.tail _ m)]
theorem oI{f:D->Option (Option D)}{P:D->Prop}: ∀{ds:List D},(∀d∈ds, ∃x,f d=qv (qv x)/\P x)->∃xs,bR f ds=qv xs/\xs.length=ds.length/\∀x∈xs,P x
 |[],_=>⟨[],rfl,rfl,nofun⟩
 |d::r,h=>by
  obtain⟨x,e,p⟩:=h d (.head _);obtain⟨xs,a,l,q⟩:=oI (ds:=r) λx m=>h x (.tail _ m)
  refine⟨x::xs,by simp[bR,e,a],by simp[l],?_⟩
  intro y m;cases m with
  |head=>exact p
  |tail _ m=>exact q y m
def sS(hi:it ρ= .ok (.lst ds)\/it ρ= .ok (.tup ds)\/it ρ= .ow ds)(h: ∀d∈ds,e (.sh d::jK cs ρ)= .ok (g d)):aO 0 cs it qw e ρ= .ow (ds.map g):=by
 have k:bR (dG 0 (jK cs ρ) qw e) ds=qv (ds.map g):=oH λd m=>by simp[dG,tgt,h d m]
 rcases hi with hi|hi|hi<;>simp[aO,hi,R.bind,items,j6,k]
def eQ{P:D->Prop}(hi:it ρ= .ok (.lst ds)\/it ρ= .ok (.tup ds)\/it ρ= .ow ds)(h: ∀d∈ds, ∃ts x,tgt n d=qv ts/\e (ts++jK cs ρ)= .ok x/\P x):
  ∃xs,aO n cs it qw e ρ= .ow xs/\xs.length=ds.length/\∀x∈xs,P x:=by
 obtain⟨xs,k,l,q⟩:=oI (f:=dG n (jK cs ρ) qw e) (P:=P) (ds:=ds) λd m=>by
  obtain⟨ts,x,a,b,c⟩:=h d m;exact⟨x,by simp[dG,a,b],c⟩
 refine⟨xs,?_,l,q⟩;rcases hi with hi|hi|hi<;>simp[aO,hi,R.bind,items,j6,k]
def fE(h:a ρ= .ok (.int n))(l:n<=100000):bE a ρ= .ok (.lst (nM n)):=by
 have:(-100000:Int)<=(n:Int)/\(n:Int)<=100000:=by lia
 simp[bE,h,R.bind,Ez,this]
def gW(h:d∈nM n): ∃k:Nat,k<n/\d= .int k:=by
 simp only[nM,aq,List.mem_range]at h;obtain⟨k,a,b⟩:=h;exact⟨k,a,b.symm⟩
def dN:(nM n).length=n:=by simp[nM]
def dO{n:Nat}(h:xs[n]? =qv x):dIx (.lst xs) (.int n)= .ok x:=by
 obtain⟨l,e⟩:=ax.1 h;simp[dIx,items,ixD,l,e]
def u6{n:Nat}(h:xs[n]? =qv x):dIx (.tup xs) (.int n)= .ok x:=by
 obtain⟨l,e⟩:=ax.1 h;simp[dIx,items,ixD,l,e]
def Fo(h:sml j=qz):mW .Mult (.int i) (.int j)= .ok (.int (i*j)):=by simp[mW,fT,h]
def pN(h:0<j):mW .Mod (.int i) (.int j)= .ok (.int (i % j)):=by simp[mW,fT,h]
def BY(h:0<j)(l:j<1073741824):mW .FloorDiv (.int i) (.int j)= .ok (.int (i/j)):=by simp[mW,fT,h,l]
def LI(a: -18446744073709551616<i)(b:i<18446744073709551616):sml i=qz:=by simp[sml,a,b]
def Iw(hi:it ρ= .ok (.lst ds)\/it ρ= .ok (.tup ds)\/it ρ= .ow ds):nN is o it b ρ=hX (yE is o) b ds ρ:=by
 rcases hi with hi|hi|hi<;>simp[nN,hi,f8,items]
def eL:bC xs=qz↔ ∀x∈xs,plain x=qz:=by
 induction xs with
 |nil=>simp[bC]
 |cons x r a=>simp[bC,a]
def fO(a:plain x=qz)(b:plain y=qz)(c:dep y<=60):tQ x y=qz:=by
 have:min (dep x) (dep y)<=60:=ol (Nat.min_le_right ..) c
 simp[tQ,a,b,this]
def jZ(h:tQ x y=qz):fC .Eq x y= .ok (.bl (deq x y)):=by simp[fC,h]
def iV(h:tQ x y=qz):fC .NotEq x y= .ok (.bl (!deq x y)):=by simp[fC,h]
mutual
theorem fP: ∀d:D,plain d=qz->deq d d=qz
 |.non,_=>rfl
 |.bl b,_=>by simp[deq]
 |.int i,_=>by simp[deq]
 |.str x,_=>by simp[deq]
 |.tup xs,h=>by simp only[deq];exact mD xs h
 |.lst xs,h=>by simp only[deq];exact mD xs h
 |.exc _,h=>by simp[plain]at h
 |.fn _,h=>by simp[plain]at h
theorem mD: ∀xs:List D,bC xs=qz->p7 xs xs=qz
 |[],_=>rfl
 |x::r,h=>by
  simp only[bC,av]at h;simp[p7,fP x h.1,mD r h.2]
end
def jE(h: ∀x∈xs,dep x=0):nL xs=0:=by
 induction xs with
 |nil=>rfl
 |cons x r a=>simp[nL,h x (.head _),a λy m=>h y (.tail _ m)]
end SK
namespace SK.k78
open SK
def oJ:Fn:=fnOf 1 (bX (iK (rIs (Kg) (aA 0)) (iZ (rIs (Gf) (aA 0)))))
def aZ:Fn:=fnOf 2 (bX (iK (aB oJ [aA 0]) (j7 .LtE .Lt (rK (.int 0)) (aA 0) (aA 1))))
def dP:Fn:=fnOf 2 (bX (aB EA [aO 0 [1] (aI 0) qw (aB aZ [aA 0,aA 1])]))
def fF:Fn:=fnOf 1 (bX (aB aZ [aA 0,aR .Add (rK (.int 4)) (rK (.int 1))]))
def eB:Fn:=fnOf 1 (bX (aB aZ [aA 0,aR .Add (rK (.int 3)) (rK (.int 1))]))
def jF:Fn:=fnOf 3 (bX (iK (rIs (gO) (aA 0)) (iK (bH .Eq (aB iB [aI 0]) (aA 1)) (aB dP [aA 0,aA 2]))))
def oK:Fn:=fnOf 5 (aS (f9 1 (iL [gN []]))
 (aS (nN [2] qz (bE (aA 0))
 (aS (mT 3 (iL []))
  (aS (nN [4] qz (aA 1)
  (aS (EC 3 (aR .Add (aA 4) (gN [rK (.int 0)])))
   (EC 3 (aR .Add (aA 4) (gN [rK (.int 1)])))))
  (Ka [3] (f9 1 (aA 3))))))
 (bX (aA 1))))
def bL:Fn:=fnOf 1 (bX (aR .LShift (rK (.int 1)) (aA 0)))
def gI:Fn:=fnOf 2 (bX (aB eV [aO 0 [1] (bE (aA 0)) qw (aR .BitAnd (aR .RShift (aA 1) (aA 0)) (rK (.int 1)))]))
def fQ:Fn:=fnOf 1 (bX (aB zI [aO 2 [] (qS (aA 0)) qw (aR .LShift (aA 1) (aA 0))]))
def dU:Fn:=fnOf 1 (bX (aO 0 [0] (bE (aB bL [aA 0])) qw (aB gI [aA 1,aA 0])))
def eR:Fn:=fnOf 1 (bX (aB zI [aB gI [rK (.int 4),aA 0]]))
def fR:Fn:=fnOf 1 (aS (sIf (rOr (iZ (rIs (gO) (aA 0))) (rOr (bH .NotEq (aB iB [aI 0]) (rK (.int 2))) (iZ (aB fF [rIx (aI 0) (rK (.int 0))]))))
 (bX (rK (.bl q4)))
 (bN))
 (bX (aB jF [rIx (aI 0) (rK (.int 1)),aB bL [rIx (aI 0) (rK (.int 0))],rK (.int 2)])))
def aM:Fn:=fnOf 1 (sIf (iZ (aB fR [aA 0]))
 (eE 1)
 (bN))
def cM:Fn:=fnOf 2 (aS (dY (aB aM [aA 0]))
 (aS (dY (aB aM [aA 1]))
 (sIf (bH .NotEq (rIx (aI 0) (rK (.int 0))) (rIx (aI 1) (rK (.int 0))))
 (eE 4)
 (bN))))
def mE:Fn:=fnOf 1 (aS (dY (aB aM [aA 0]))
 (bX (aO 2 [] (qS (rIx (aI 0) (rK (.int 1)))) (qv (bH .Eq (aA 1) (rK (.int 1)))) (aA 0))))
def kZ:Fn:=fnOf 1 (aS (dY (aB aM [aA 0]))
 (bX (gN [rIx (aI 0) (rK (.int 0)),aB eV [aO 0 [] (rIx (aI 0) (rK (.int 1))) qw (aR .Sub (rK (.int 1)) (aA 0))]])))
def BZ:Fn:=fnOf 2 (aS (dY (aB cM [aA 0,aA 1]))
 (bX (gN [rIx (aI 0) (rK (.int 0)),aB eV [aO 2 [] (uA (rIx (aI 0) (rK (.int 1))) (rIx (aI 1) (rK (.int 1)))) qw (aR .BitAnd (aA 0) (aA 1))]])))
def pO:Fn:=fnOf 2 (aS (dY (aB cM [aA 0,aA 1]))
 (bX (gN [rIx (aI 0) (rK (.int 0)),aB eV [aO 2 [] (uA (rIx (aI 0) (rK (.int 1))) (rIx (aI 1) (rK (.int 1)))) qw (aR .BitOr (aA 0) (aA 1))]])))
def pP:Fn:=fnOf 2 (aS (dY (aB cM [aA 0,aA 1]))
 (bX (gN [rIx (aI 0) (rK (.int 0)),aB eV [aO 2 [] (uA (rIx (aI 0) (rK (.int 1))) (rIx (aI 1) (rK (.int 1)))) qw (aR .BitXor (aA 0) (aA 1))]])))
def oM:Fn:=fnOf 2 (bX (iK (aB jF [aA 1,aA 0,aA 0]) (bH .Eq (aB iM [aI 1]) (aB uB [bE (aA 0)]))))
def sT:Fn:=fnOf 2 (aS (sIf (rOr (iZ (aB fF [aA 0])) (rOr (iZ (rIs (gO) (aA 1))) (bH .NotEq (aB iB [aI 1]) (rK (.int 3)))))
 (bX (rK (.bl q4)))
 (bN))
 (bX (iK (aB oM [aA 0,rIx (aI 1) (rK (.int 0))]) (iK (aB jF [rIx (aI 1) (rK (.int 1)),aA 0,rK (.int 2)]) (aB aZ [rIx (aI 1) (rK (.int 2)),rK (.int 2)])))))
def gJ:Fn:=fnOf 2 (sIf (iZ (aB sT [aA 0,aA 1]))
 (eE 3)
 (bN))
def D1:Fn:=fnOf 2 (bX (aB eV [aO 2 [0] (uA (rIx (aI 1) (rK (.int 0))) (rIx (aI 1) (rK (.int 1)))) qw (aR .BitXor (rIx (aI 2) (aA 0)) (aA 1))]))
def pQ:Fn:=fnOf 4 (aS (dY (aB aM [aA 0]))
 (aS (f9 2 (rIx (aI 0) (rK (.int 0))))
 (aS (dY (aB gJ [aA 2,aA 1]))
 (aS (f9 3 (aO 0 [1] (aB dU [aA 2]) qw (aB fQ [aB D1 [aA 0,aA 1]])))
 (bX (gN [aA 2,aB eV [aO 0 [1,0] (aI 3) qw (aR .BitXor (rIx (rIx (aI 2) (rK (.int 1))) (aA 0)) (rIx (aI 1) (rK (.int 2))))]]))))))
def kC:Fn:=fnOf 5 (aS (f9 1 (iL [gN []]))
 (aS (nN [2] qz (bE (aA 0))
 (aS (mT 3 (iL []))
  (aS (nN [4] qz (aA 1)
  (Je 3 (aO 0 [4] (bE (aA 0)) (qv (bH .NotIn (aA 0) (aA 1))) (aR .Add (aA 1) (gN [aA 0])))))
  (Ka [3] (f9 1 (aA 3))))))
 (bX (aA 1))))
def mF:Fn:=fnOf 4 (aS (sIf (iZ (aB eB [aA 0]))
 (eE 2)
 (bN))
 (aS (mT 1 (iL []))
 (aS (nN [2] qz (aB kC [aA 0])
 (nN [3] qz (aB oK [aA 0])
  (aS (EC 1 (gN [aA 2,aA 3,rK (.int 0)]))
   (EC 1 (gN [aA 2,aA 3,rK (.int 1)])))))
 (bX (qR 1)))))
def eZ:Fn:=fnOf 1 (sIf (iZ (rIs (EG) (aA 0)))
 (eE 5)
 (bN))
def cN:Fn:=fnOf 1 (aS (dY (aB aM [aA 0]))
 (bX (aR .Add (aR .Add (aB Mm [rIx (aI 0) (rK (.int 0))]) (rK (.str ":"))) (Af "" (aO 0 [] (rIx (aI 0) (rK (.int 1))) qw (aB Mm [aI 0]))))))
def cO:Fn:=fnOf 2 (aS (dY (aB eZ [aA 0]))
 (aS (f9 1 (gN [Mn [("0",.int 0),("1",.int 1),("2",.int 2),("3",.int 3),("4",.int 4)] (t9 (aI 0) qw (qv (rK (.int 1)))),aB eV [aO 0 [] (t9 (aI 0) (qv (rK (.int 2))) qw) qw (Mn [("0",.int 0),("1",.int 1),("2",.int 2),("3",.int 3),("4",.int 4)] (aA 0))]]))
 (aS (sIf (rOr (bH .NotEq (t9 (aI 0) (qv (rK (.int 1))) (qv (rK (.int 2)))) (rK (.str ":"))) (iZ (aB fR [aA 1])))
 (eE 5)
 (bN))
 (bX (aA 1)))))
def fG:Fn:=fnOf 1 (aS (sIf (rOr (iZ (rIs (EG) (aA 0))) (iZ (j7 .LtE .LtE (rK (.int 1)) (aB iB [aI 0]) (rK (.int 4)))))
 (bX (rK (.bl q4)))
 (bN))
 (bX (aB EA [aO 0 [] (aI 0) qw (j7 .LtE .LtE (rK (.str "a")) (aA 0) (rK (.str "z")))])))
def dB:Fn:=fnOf 1 (sIf (iZ (aB fG [aA 0]))
 (eE 7)
 (bN))
def gX:Fn:=fnOf 3 (aS (sIf (bH .Eq (aA 0) (rK (.str "both")))
 (bX (aB BZ [aA 1,aA 2]))
 (bN))
 (aS (sIf (bH .Eq (aA 0) (rK (.str "either")))
 (bX (aB pO [aA 1,aA 2]))
 (bN))
 (aS (sIf (bH .Eq (aA 0) (rK (.str "unlike")))
 (bX (aB pP [aA 1,aA 2]))
 (bN))
 (eE 7))))
def fA:Fn:=fnOf 1 (sIf (iZ (aB eB [aA 0]))
 (eE 2)
 (bN))
def mG:Fn:=fnOf 1 (aS (dY (aB aM [aA 0]))
 (dY (aB fA [rIx (aI 0) (rK (.int 0))])))
def mH:Fn:=fnOf 2 (aS (dY (aB cM [aA 0,aA 1]))
 (dY (aB fA [rIx (aI 0) (rK (.int 0))])))
def mI:Fn:=fnOf 1 (bX (aO 0 [0] (aB mF [rIx (aI 0) (rK (.int 0))]) qw (aB pQ [aA 1,aA 0])))
def cI:Fn:=fnOf 1 (aS (dY (aB mG [aA 0]))
 (bX (aB F5 [aB mI [aA 0]])))
def jG:Fn:=fnOf 2 (aS (dY (aB mH [aA 0,aA 1]))
 (bX (bH .In (aA 1) (aB mI [aA 0]))))
def kF:Fn:=fnOf 5 (aS (mT 2 (iL []))
 (aS (nN [3] qz (bE (aB bL [aA 0]))
 (aS (f9 4 (aO 0 [3] (aI 1) (qv (bH .Eq (aR .BitAnd (aA 0) (aA 1)) (aA 0))) (aA 0)))
  (sIf (bH .Eq (aR .Mod (aB iB [aI 4]) (rK (.int 2))) (rK (.int 1)))
  (EC 2 (aA 3))
  (bN))))
 (bX (qR 2))))
def cV:Fn:=fnOf 2 (aS (f9 1 (aB mE [aA 0]))
 (bX (aB kF [rIx (aI 0) (rK (.int 0)),aA 1])))
def gY:Fn:=fnOf 1 (bX (aB (Ai 0) [aO 0 [] (aB cV [aA 0]) qw (aB eR [aA 0])]))
def xI(self:Fn):Fn:=fnOf 4 (aS (sIf (bH .Eq (aB iB [aI 0]) (rK (.int 1)))
 (bX (qR 0))
 (bN))
 (aS (f9 1 (aR .FloorDiv (aB iB [aI 0]) (rK (.int 2))))
 (aS (f9 2 (aB self [t9 (aI 0) qw (qv (aA 1))]))
 (aS (f9 3 (aB self [t9 (aI 0) (qv (aA 1)) qw]))
 (bX (aR .Add (aO 2 [] (uA (aA 2) (aA 3)) qw (aR .Add (aA 0) (aA 1))) (aO 2 [] (uA (aA 2) (aA 3)) qw (aR .Sub (aA 0) (aA 1)))))))))
def D2:Fn:=EH xI 12
def Fp:Fn:=fnOf 1 (aS (dY (aB aM [aA 0]))
 (bX (aB eV [aB D2 [aO 0 [] (rIx (aI 0) (rK (.int 1))) qw (aR .Sub (rK (.int 1)) (aR .Mult (rK (.int 2)) (aA 0)))]])))
def cW:Fn:=fnOf 4 (aS (dY (aB aM [aA 0]))
 (aS (mT 1 (aR .Mult (iL [rK (.int 0)]) (aR .Add (rIx (aI 0) (rK (.int 0))) (rK (.int 1)))))
 (aS (nN [2,3] q4 (qS (aB Fp [aA 0]))
 (CV 1 (aB eR [aA 2]) (aR .Mult (aA 3) (aA 3))))
 (bX (qR 1)))))
def sU:Fn:=fnOf 1 (bX (rOr (bH .Is (aA 0) (rK .non)) (aB aZ [aA 0,rK (.int 2)])))
def sV:Fn:=fnOf 2 (aS (sIf (rOr (iZ (aB fF [aA 0])) (rOr (iZ (rIs (gO) (aA 1))) (bH .NotEq (aB iB [aI 1]) (aA 0))))
 (bX (rK (.bl q4)))
 (bN))
 (bX (aB EA [aO 0 [] (aI 1) qw (aB sU [aA 0])])))
def kG:Fn:=fnOf 2 (sIf (iZ (aB sV [aA 0,aA 1]))
 (eE 6)
 (bN))
def sW:Fn:=fnOf 6 (aS (sIf (iZ (rIs (gO) (aA 0)))
 (eE 6)
 (bN))
 (aS (dY (aB kG [aB iB [aI 0],aA 0]))
 (aS (mT 1 (iL [rK (.int 0)]))
 (aS (nN [2,3] q4 (qS (aA 0))
 (aS (Ka [1] (f9 4 (rIf (bH .Eq (aA 3) (rK (.int 1))) (iL []) (aA 1))))
  (aS (f9 5 (rIf (bH .Eq (aA 3) (rK (.int 0))) (iL []) (aO 0 [2] (aI 1) qw (aR .Add (aA 0) (aR .LShift (rK (.int 1)) (aA 1))))))
  (mT 1 (aR .Add (aA 4) (aA 5))))))
 (bX (qR 1))))))
def mJ:Fn:=fnOf 5 (aS (f9 1 (iL [gN []]))
 (aS (nN [2] qz (bE (aA 0))
 (aS (mT 3 (iL []))
  (aS (nN [4] qz (aA 1)
  (Je 3 (aO 0 [4] (rK (.tup [.int 0,.int 1,.non])) qw (aR .Add (aA 1) (gN [aA 0])))))
  (Ka [3] (f9 1 (aA 3))))))
 (bX (aA 1))))
def sX:Fn:=fnOf 1 (bX (aO 2 [0] (qS (aA 0)) (qv (bH .IsNot (aA 1) (rK .non))) (aR .Add (aR .Add (t9 (aI 2) qw (qv (aA 0))) (gN [rK .non])) (t9 (aI 2) (qv (aR .Add (aA 0) (rK (.int 1)))) qw))))
def gZ:Fn:=fnOf 3 (aS (dY (aB aM [aA 0]))
 (aS (F6 1)
 (aS (nN [2] qz (aB mJ [rIx (aI 0) (rK (.int 0))])
 (sIf (aB EA [aO 0 [0] (aB sW [aA 2]) qw (bH .Eq (rIx (rIx (aI 1) (rK (.int 1))) (aA 0)) (rK (.int 1)))])
  (ED 1 (aA 2) (rK (.bl qz)))
  (bN)))
 (bX (aO 0 [1] (lM 1) (qv (iZ (aB Nb [aO 0 [1] (aB sX [aA 0]) qw (J9 .In (aA 0) 1)]))) (aA 0))))))
def g9:Fn:=fnOf 2 (aS (sIf (bH .Lt (aA 1) (aB iB [aI 0]))
 (bX (rIx (aI 0) (aA 1)))
 (bN))
 (aS (sIf (bH .Eq (aA 0) (iL []))
 (bX (rK (.int 0)))
 (bN))
 (bX (aR .Add (aR .Mult (rIx (aI 0) (aR .Mod (aA 1) (aB iB [aI 0]))) (rK (.int 31))) (aA 1)))))
def aK:Fn:=fnOf 4 (aS (f9 3 (aR .Mod (aR .Mult (aR .Add (aB g9 [aA 0,aA 1]) (aR .Mult (rK (.int 6151)) (aR .Add (aA 1) (rK (.int 1))))) (rK (.int 40692))) (rK (.int 2147483399))))
 (bX (aR .Mod (aR .Mod (aR .Add (aR .Mult (aA 3) (aA 3)) (aR .FloorDiv (aA 3) (rK (.int 31)))) (rK (.int 2147483629))) (aA 2))))
def aW:Fn:=fnOf 2 (bX (aB eV [aO 0 [1] (bE (aA 0)) qw (aR .Mod (aR .FloorDiv (aA 1) (rIx (iL [rK (.int 1),rK (.int 2),rK (.int 4),rK (.int 8)]) (aA 0))) (rK (.int 2)))]))
def gK:Fn:=fnOf 2 (bX (aR .Mod (aB zI [aO 2 [] (uA (aB aW [rK (.int 4),aA 0]) (aB aW [rK (.int 4),aA 1])) qw (aR .Mult (aA 0) (aA 1))]) (rK (.int 2))))
def dZ:Fn:=fnOf 9 (aS (f9 3 (rIx (iL [rK (.int 1),rK (.int 2),rK (.int 4),rK (.int 8),rK (.int 16)]) (aA 2)))
 (aS (f9 4 (aB aK [aA 0,aA 1,rK (.int 6)]))
 (aS (mT 5 (aO 0 [1,0] (bE (aA 3)) qw (aB aK [aA 2,aR .Add (aR .Add (aA 1) (rK (.int 1))) (aA 0),rK (.int 2)])))
 (aS (sIf (iK (bH .Eq (aA 4) (rK (.int 0))) (bH .Gt (aA 2) (rK (.int 0))))
 (aS (f9 6 (aB aK [aA 0,aR .Add (aA 1) (rK (.int 20)),aA 3]))
  (mT 5 (aO 0 [6] (bE (aA 3)) qw (aB gK [aA 1,aA 0]))))
 (sIf (bH .Eq (aA 4) (rK (.int 1)))
  (mT 5 (aO 0 [1,2,0] (bE (aA 3)) qw (aB J6 [bH .GtE (aB zI [aB aW [aA 2,aA 0]]) (aR .Add (rK (.int 1)) (aB aK [aA 3,aR .Add (aA 1) (rK (.int 21)),rK (.int 3)]))])))
  (sIf (iK (bH .Eq (aA 4) (rK (.int 2))) (bH .Gt (aA 2) (rK (.int 0))))
   (aS (f9 7 (aB aK [aA 0,aR .Add (aA 1) (rK (.int 22)),aA 2]))
    (mT 5 (aO 0 [7,5] (bE (aA 3)) qw (rIx (aI 2) (aR .Sub (aA 0) (aR .Mult (aR .Mod (aR .FloorDiv (aA 0) (rIx (iL [rK (.int 1),rK (.int 2),rK (.int 4),rK (.int 8)]) (aA 1))) (rK (.int 2))) (rIx (iL [rK (.int 1),rK (.int 2),rK (.int 4),rK (.int 8)]) (aA 1))))))))
   (bN))))
 (aS (sIf (iK (bH .Lt (aA 4) (rK (.int 3))) (bH .Eq (aB aK [aA 0,aR .Add (aA 1) (rK (.int 23)),rK (.int 3)]) (rK (.int 0))))
 (aS (f9 8 (aB aK [aA 0,aR .Add (aA 1) (rK (.int 24)),aA 3]))
  (ED 5 (aA 8) (aR .Sub (rK (.int 1)) (rIx (aI 5) (aA 8)))))
 (bN))
 (bX (gN [aA 2,aB eV [aI 5]])))))))
def fS:Fn:=fnOf 2 (bX (rIx (iL [rK (.int 0),rK (.int 1),rK (.int 2),rK (.int 2),rK (.int 2),rK (.int 3),rK (.int 3)]) (aB aK [aA 0,aA 1,rK (.int 7)])))
def kH(self:Fn):Fn:=fnOf 3 (aS (sIf (bH .Eq (aA 0) (rK (.int 0)))
 (bX (iL [gN []]))
 (bN))
 (aS (mT 1 (iL []))
 (aS (nN [2] qz (aB self [aR .Sub (aA 0) (rK (.int 1))])
 (Je 1 (aO 0 [0,2] (bE (aA 0)) qw (aR .Add (aR .Add (t9 (aI 2) qw (qv (aA 0))) (gN [aR .Sub (aA 1) (rK (.int 1))])) (t9 (aI 2) (qv (aA 0)) qw)))))
 (bX (aB iM [aI 1])))))
def kJ:Fn:=EH kH 12
def fH:Fn:=fnOf 5 (aS (f9 3 (aB kJ [aA 2]))
 (aS (f9 4 (aB eV [aO 0 [1,0] (bE (aA 2)) qw (aB aK [aA 2,aR .Add (aR .Add (aA 1) (rK (.int 1))) (aA 0),rK (.int 2)])]))
 (bX (gN [rIx (aI 3) (aB aK [aA 0,aA 1,aB iB [aI 3]]),aA 4,aB aK [aA 0,aR .Add (aA 1) (rK (.int 9)),rK (.int 2)]]))))
def e9:FM:=nE 426 3 (eY (mIf (bH .Is (aA 2) (rK .non))
 (eY (NO)
  (gH))
 (eY (HL 426 (aA 1) (aA 2))
  (gH)))
 (gH))
def B0:FM:=nE 426 4 (eY (NK 426 qz (gN [aA 1,aA 2,CW 426 0 (aA 2),aA 3]))
 (eY (xE 426)
 (eY (sN 426 e9 [aA 2,aA 3])
 (gH))))
def sY:FM:=nE 426 4 (eY (sL (aB aM [aA 2]))
 (eY (sL (aB dB [aA 1]))
 (eY (HH 2 (Jf q4 426 0 (aA 1)))
 (eY (sN 426 B0 [rK (.str "put"),aA 1,aA 2])
 (eY (xD (aA 3))
 (gH))))))
def aF:FM:=nE 426 2 (eY (sL (aB dB [aA 1]))
 (eY (mIf (Jf qz 426 0 (aA 1))
 (eY (BK 7)
  (gH))
 (gH))
 (eY (xD (qY 426 0 (aA 1)))
 (gH))))
def iH:FM:=nE 426 6 (eY (sL (aB dB [aA 1]))
 (eY (HH 4 (aB gX [aA 2,bJ 426 0 aF [aA 3],bJ 426 0 aF [aA 4]]))
 (eY (sN 426 B0 [rK (.str "join"),aA 1,aA 5])
 (eY (xD (aA 5))
 (gH)))))
def iI:FM:=nE 426 3 (eY (HH 1 (aB kZ [bJ 426 0 aF [aA 1]]))
 (eY (sN 426 B0 [rK (.str "turn"),aA 1,aA 2])
 (eY (xD (aA 2))
 (gH))))
def bM:FM:=nE 426 1 (eY (xD (CY 426 0))
 (gH))
def oN:FM:=nE 426 3 (eY (HH 1 (bJ 426 0 aF [aA 1]))
 (eY (xD (aO 0 [1,0,2] (bJ 426 0 bM []) (qv (iK (bH .NotEq (aA 0) (aA 1)) (bH .Eq (qY 426 2 (aA 0)) (aA 3)))) (aA 0)))
 (gH)))
def bT:FM:=nE 426 1 (eY (xD (Af "" (aO 0 [0] (bJ 426 0 bM []) qw (aR .Add (aR .Add (aR .Add (aA 0) (rK (.str " = "))) (aB cN [bJ 426 1 aF [aA 0]])) (rK (.str "\n"))))))
 (gH))
def eS:FR:=Jl 426 4 (aS (dY (aB eZ [aA 0]))
 (aS (HW 1 426)
 (aS (nN [2] qz (t9 (qT (aA 0) (rK (.str "\n"))) qw (qv (Ml (rK (.int 1)))))
 (aS (f9 3 (Ag (aA 2) (rK (.str " = "))))
  (aS (sIf (iZ (aB fG [rIx (aI 3) (rK (.int 0))]))
  (eE 5)
  (bN))
  (zB 426 1 (rIx (aI 3) (rK (.int 0))) (aB cO [rIx (aI 3) (rK (.int 2))])))))
 (aS (sIf (bH .NotEq (bJ 426 1 bT []) (aA 0))
 (eE 5)
 (bN))
 (bN))))) 1
def NX:Fn:=fnOf 12 (aS (DY 1 2 426 (aB fS [aA 0,rK (.int 0)]))
 (aS (qW [3,4] (gN [aB dZ [aA 0,rK (.int 10),aA 1],aB dZ [aA 0,rK (.int 50),aA 1]]))
 (aS (Ff 426 2 sY [rK (.str "a"),aA 3])
 (aS (Ff 426 2 sY [rK (.str "b"),aA 4])
 (aS (zA 5 426 2 iH [rK (.str "u"),rK (.str "unlike"),rK (.str "a"),rK (.str "b")])
 (aS (DU (y8 426 2 iH [rK (.str "w"),rK (.str "unlike"),rK (.str "u"),rK (.str "b")] .NotEq (aA 3))
 (bX (rK (.bl q4)))
 (bN))
 (aS (DU (y8 426 2 oN [rK (.str "w")] .NotEq (aO 0 [3,2] (gN [rK (.str "a"),rK (.str "b"),rK (.str "u")]) (qv (bH .Eq (bJ 426 2 aF [aA 0]) (aA 1))) (aA 0)))
 (bX (rK (.bl q4)))
 (bN))
 (aS (qW [6,7] (gN [aB cV [aA 3],aB cV [aA 4]]))
 (aS (sIf (bH .NotEq (aB cV [aA 5]) (aB iM [aO 0 [6,7] (aR .Add (aA 6) (aA 7)) (qv (bH .NotEq (bH .In (aA 0) (aA 1)) (bH .In (aA 0) (aA 2)))) (aA 0)]))
 (bX (rK (.bl q4)))
 (bN))
 (aS (zA 8 426 2 iH [rK (.str "c"),rK (.str "both"),rK (.str "a"),rK (.str "b")])
 (aS (Ff 426 2 iI [rK (.str "a")])
 (aS (Ff 426 2 iI [rK (.str "b")])
 (aS (DU (cOr (y8 426 2 iH [rK (.str "d"),rK (.str "either"),rK (.str "a"),rK (.str "b")] .NotEq (aB kZ [aA 8])) (BP (bH .Gt (aB gY [aA 8]) (aR .Add (aB gY [aA 3]) (aB gY [aA 4])))))
 (bX (rK (.bl q4)))
 (bN))
 (aS (DU (cOr (y8 426 2 iI [rK (.str "a")] .NotEq (aA 3)) (y8 426 2 iI [rK (.str "b")] .NotEq (aA 4)))
 (bX (rK (.bl q4)))
 (bN))
 (aS (DU (y8 426 2 bM [] .NotEq (iL [rK (.str "a"),rK (.str "b"),rK (.str "c"),rK (.str "d"),rK (.str "u"),rK (.str "w")]))
 (bX (rK (.bl q4)))
 (bN))
 (aS (f9 9 (gN [rIx (aB fH [aA 0,rK (.int 100),aA 1]) (rK (.int 0)),rIx (aB fH [aA 0,rK (.int 100),aA 1]) (rK (.int 1)),rK (.int 0)]))
 (aS (f9 10 (aB pQ [aA 3,aA 9]))
 (aS (sIf (iK (bH .Lt (aA 1) (rK (.int 3))) (rOr (bH .IsNot (aB jG [aA 3,aA 10]) (rK (.bl qz))) (bH .NotEq (aB cI [aA 3]) (aB cI [aA 10]))))
 (bX (rK (.bl q4)))
 (bN))
 (aS (sIf (rOr (bH .NotEq (aB iB [aB gZ [aA 10]]) (aB iB [aB gZ [aA 3]])) (bH .NotEq (aB cW [aA 10]) (aB cW [aA 3])))
 (bX (rK (.bl q4)))
 (bN))
 (aS (sIf (bH .NotEq (aB iB [aB mE [aA 10]]) (aB iB [aB mE [aA 3]]))
 (bX (rK (.bl q4)))
 (bN))
 (aS (Il 11 426 eS [bJ 426 2 bT []])
 (bX (bH .Eq (aO 0 [11] (bJ 426 2 bM []) qw (bJ 426 1 aF [aA 0])) (aO 0 [2] (bJ 426 2 bM []) qw (bJ 426 1 aF [aA 0])))))))))))))))))))))))))
open PySem
noncomputable abbrev Sc(ns:List Int):D:=.lst (ns.map D.int)
def D3(ns:List Int):plain (Sc ns)=qz:=by
 show bC (ns.map D.int)=qz;rw[eL];intro x m;obtain⟨i,_,rfl⟩:=aq.1 m;rfl
noncomputable def zD(ns:List Int)(k:Nat):Int:=if k<ns.length then ns.getD k 0 else if ns=[]then 0 else ns.getD (k % ns.length) 0*31+k
def Ix(ns:List Int)(k:Nat):g9 [Sc ns,.int k]= .ok (.int (zD ns k)):=by
 have b:iB [Sc ns]= .ok (.int ns.length):=by simp[iB,items]
 by_cases h:k<ns.length
 ·have e:(ns.map D.int)[k]? =qv (D.int (zD ns k)):=by simp[zD,h]
  refine aU (iU ((l9 ?_).trans (aT ((iG rfl rfl).trans (dO e)))));refine(bP rfl ((a9 rfl).trans b)).trans ?_;simp[fC,h]
 ·refine aU ((aH ((eT ((bP rfl ((a9 rfl).trans b)).trans ?_)).trans rfl)).trans ?_)
  ·simp[fC];lia
  have c:bH .Eq (aA 0) (iL []) [.sh (Sc ns),.sh (.int k)]= .ok (.bl (decide (ns=[]))):=by
   show fC .Eq (Sc ns) (.lst [])=_;rw[jZ (fO (D3 ns) rfl (by decide))]
   cases ns<;>simp[deq,p7]
  by_cases a:ns=[]
  ·subst a;exact iU ((l9 (c.trans rfl)).trans rfl)
  ·refine(aH ((eT (c.trans (by simp[a]))).trans rfl)).trans (aT ?_)
   have l:0<ns.length:=List.length_pos_iff.2 a
   have e:(ns.map D.int)[k % ns.length]? =qv (D.int (ns.getD (k % ns.length) 0)):=by simp[Nat.mod_lt _ l]
   have d:mW .Mod (.int k) (.int ns.length)= .ok (.int ((k % ns.length:Nat):Int)):=by
    have:(0:Int)<ns.length:=by lia
    simp[mW,fT,this];lia
   refine(aV ((aV ((iG rfl ((aV rfl ((a9 rfl).trans b)).trans d)).trans (dO e)) rfl).trans (Fo rfl)) rfl).trans ?_;simp[mW,fT,zD,h,a]
noncomputable def iJ(ns:List Int)(k:Nat):Int:=(zD ns k+6151*(k+1))*40692 % 2147483399
noncomputable def B1(ns:List Int)(k:Nat)(m:Int):Int:=(iJ ns k*iJ ns k+iJ ns k/31) % 2147483629 % m
def Iy(ns:List Int)(k:Nat)(hm:0<m):aK [Sc ns,.int k,.int m]= .ok (.int (B1 ns k m)):=by
 have b:aR .Mod (aR .Mult (aR .Add (aB g9 [aA 0,aA 1]) (aR .Mult (rK (.int 6151)) (aR .Add (aA 1) (rK (.int 1))))) (rK (.int 40692))) (rK (.int 2147483399)) [.sh (Sc ns),.sh (.int k),.sh (.int m),.no]= .ok (.int (iJ ns k)):=by
  refine(aV ((aV ((aV ((dF rfl rfl).trans (Ix ns k)) (y:=.int (6151*(k+1))) ?_).trans rfl) rfl).trans (?_:_=R.ok (.int ((zD ns k+6151*(k+1))*40692)))) rfl).trans ?_
  ·refine(aV rfl rfl).trans ?_;simp[mW,fT,sml]
  ·simp[mW,fT,sml]
  ·simp[mW,fT,iJ]
 refine aU ((aH (eP b)).trans (aT ?_));unfold B1
 have a:sml (iJ ns k)=qz:=by
  have:0<=iJ ns k/\iJ ns k<2147483399:=by unfold iJ;lia
  simp[sml];lia
 generalize iJ ns k=x at *
 have c:aR .FloorDiv (aA 3) (rK (.int 31)) [.sh (Sc ns),.sh (.int k),.sh (.int m),.sh (.int (x))]= .ok (.int (x/31)):=by
  refine(aV rfl rfl).trans ?_;simp[mW,fT]
 have d:aR .Mult (aA 3) (aA 3) [.sh (Sc ns),.sh (.int k),.sh (.int m),.sh (.int x)]= .ok (.int (x*x)):=by
  refine(aV rfl rfl).trans ?_;simp[mW,fT,a]
 refine(aV ((aV ((aV d c).trans rfl) rfl).trans (?_:_=R.ok (.int ((x*x+x/31) % 2147483629)))) rfl).trans ?_
 ·simp[mW,fT]
 ·exact pN hm
def u7(ns:List Int)(k:Nat)(hm:0<m):0<=B1 ns k m/\B1 ns k m<m:=⟨Int.emod_nonneg _ (by lia),Int.emod_lt_of_pos _ hm⟩
def bit(d:D):Prop:=d= .int 0\/d= .int 1
def B2(i:Int):bit (.int (i % 2)):=by
 unfold bit;rcases(show i % 2=0\/i % 2=1 by lia)with h|h<;>simp[h]
def ix4{j:Nat}(h:a ρ= .ok (.int j))(l:j<4):rIx (iL [rK (.int 1),rK (.int 2),rK (.int 4),rK (.int 8)]) a ρ= .ok (.int ((2^j:Nat):Int)):=by
 refine(jD rfl h).trans (dO ?_);rcases(show j=0\/j=1\/j=2\/j=3 by lia)with rfl|rfl|rfl|rfl<;>rfl
def ix5{j:Nat}(h:a ρ= .ok (.int j))(l:j<=4):rIx (iL [rK (.int 1),rK (.int 2),rK (.int 4),rK (.int 8),rK (.int 16)]) a ρ= .ok (.int ((2^j:Nat):Int)):=by
 refine(jD rfl h).trans (dO ?_);rcases(show j=0\/j=1\/j=2\/j=3\/j=4 by lia)with rfl|rfl|rfl|rfl|rfl<;>rfl
def oO(h:m<=4):1<=2^m/\2^m<=16:=by
 rcases(show m=0\/m=1\/m=2\/m=3\/m=4 by lia)with rfl|rfl|rfl|rfl|rfl<;>decide
def j0{m:Nat}(hm:m<=4)(k:Int): ∃xs,aW [.int m,.int k]= .ok (.tup xs)/\xs.length=m/\∀x∈xs,bit x:=by
 obtain⟨xs,e,l,b⟩:=eQ (n:=0) (cs:=[1]) (it:=bE (aA 0)) (e:=aR .Mod (aR .FloorDiv (aA 1) (rIx (iL [rK (.int 1),rK (.int 2),rK (.int 4),rK (.int 8)]) (aA 0))) (rK (.int 2))) (ρ:=[.sh (.int m),.sh (.int k)]) (ds:=nM m) (P:=bit)
  (.inl (fE rfl (by lia))) λd h=>by
   obtain⟨j,c,rfl⟩:=gW h;have f:=oO (m:=j) (by lia)
   refine⟨[.sh (.int j)],_,rfl,(aV ((aV rfl (ix4 (a:=aA 0) (j:=j) rfl (by lia))).trans (BY ?_ ?_)) rfl).trans (pN (by decide)),B2 _⟩<;>lia
 exact⟨xs,aU (aT ((cR e).trans rfl)),l.trans dN,b⟩
theorem B3: ∀{xs:List D},(∀x∈xs, ∃i,x=D.int i)->∃is:List Int,xs=is.map D.int
 |[],_=>⟨[],rfl⟩
 |x::r,h=>by
  obtain⟨i,rfl⟩:=h x (.head _);obtain⟨is,rfl⟩:=B3 (xs:=r) λy m=>h y (.tail _ m)
  exact⟨i::is,rfl⟩
def Iz(h:bit d): ∃i,d= .int i:=by rcases h with rfl|rfl<;>exact⟨_,rfl⟩
def D4(is:List Int):zI [.lst (is.map D.int)]= .ok (.int is.sum):=by simp[zI,items,mB]
def IA(is:List Int):zI [.tup (is.map D.int)]= .ok (.int is.sum):=by simp[zI,items,mB]
def LJ(a b:Int): ∃r,gK [.int a,.int b]= .ok r/\bit r:=by
 obtain⟨c,g,J,B⟩:=j0 (m:=4) (by decide) a
 obtain⟨f,o,H,s⟩:=j0 (m:=4) (by decide) b
 have E:uA (aB aW [rK (.int 4),aA 0]) (aB aW [rK (.int 4),aA 1]) [.sh (.int a),.sh (.int b)]= .ok (.lst ((c.zip f).map λp=>D.tup [p.1,p.2])):=by
  have z:aB aW [rK (.int 4),aA 0] [.sh (.int a),.sh (.int b)]= .ok (.tup c):=(dF rfl rfl).trans g
  have C:aB aW [rK (.int 4),aA 1] [.sh (.int a),.sh (.int b)]= .ok (.tup f):=(dF rfl rfl).trans o
  simp[uA,z,C,R.bind]
 obtain⟨I,e,l,q⟩:=eQ (n:=2) (cs:=[]) (e:=aR .Mult (aA 0) (aA 1)) (P:=λx=>∃i,x=D.int i) (.inl E) λd h=>by
  obtain⟨⟨x,y⟩,v,rfl⟩:=aq.1 h;obtain⟨u,t⟩:=mm v;have G:=B x u;have j:=s y t;refine⟨[.sh x,.sh y],?_⟩;rcases G with rfl|rfl<;>rcases j with rfl|rfl<;>exact⟨_,rfl,rfl,_,rfl⟩
 obtain⟨A,rfl⟩:=B3 q;exact⟨_,aU (aT ((aV ((cR e).trans (D4 A)) rfl).trans (pN (by decide)))),B2 _⟩
def dC(ns:List Int)(k:Nat){m:Nat}(hm:0<m): ∃p:Nat,aK [Sc ns,.int k,.int m]= .ok (.int p)/\p<m:=by
 have h:(0:Int)<m:=by lia
 have r:=u7 ns k h;refine⟨(B1 ns k m).toNat,(Iy ns k h).trans ?_,by lia⟩
 rw[Int.toNat_of_nonneg r.1]
def Fq{p:Nat}(h:p<2):bit (.int p):=by
 rcases(show p=0\/p=1 by lia)with rfl|rfl
 ·exact .inl rfl
 ·exact .inr rfl
def Fr{ws:List D}(h: ∀w∈ws,bit w){p:Nat}(hp:p<ws.length): ∃w,dIx (.lst ws) (.int p)= .ok w/\bit w:=
 ⟨ws[p],dO (bf hp),h _ (lm hp)⟩
def B4(ns:List Int)(at':Nat){m:Nat}(hm:m<=4): ∃ws,dZ [Sc ns,.int at',.int m]= .ok (.tup [.int m,.tup ws])/\ws.length=2^m/\∀w∈ws,bit w:=by
 have N:=oO hm;obtain⟨f,B,lw⟩:=dC ns at' (m:=6) (by decide)
 -- the drawn worths
 obtain⟨s,e0,Q,T⟩:=eQ (n:=0) (cs:=[1,0]) (it:=bE (aA 3)) (e:=aB aK [aA 2,aR .Add (aR .Add (aA 1) (rK (.int 1))) (aA 0),rK (.int 2)]) (P:=bit) (ds:=nM (2^m))
  (ρ:=[.sh (Sc ns),.sh (.int at'),.sh (.int m),.sh (.int (2^m:Nat)),.sh (.int f),.no,.no,.no,.no]) (.inl (fE rfl (by lia))) λd h=>by
   obtain⟨j,L,rfl⟩:=gW h;obtain⟨p,N,lp⟩:=dC ns (at'+1+j) (m:=2) (by decide)
   exact⟨[.sh (.int j)],_,rfl,(eF (x:=Sc ns) (y:=.int ((at'+1+j:Nat):Int)) (z:=.int 2) rfl rfl rfl).trans N,Fq lp⟩
 rw[dN]at Q
 -- the ways
 have h4: ∃ws a b,(sIf (iK (bH .Eq (aA 4) (rK (.int 0))) (bH .Gt (aA 2) (rK (.int 0))))
   (aS (f9 6 (aB aK [aA 0,aR .Add (aA 1) (rK (.int 20)),aA 3]))
    (mT 5 (aO 0 [6] (bE (aA 3)) qw (aB gK [aA 1,aA 0]))))
   (sIf (bH .Eq (aA 4) (rK (.int 1)))
    (mT 5 (aO 0 [1,2,0] (bE (aA 3)) qw (aB J6 [bH .GtE (aB zI [aB aW [aA 2,aA 0]]) (aR .Add (rK (.int 1)) (aB aK [aA 3,aR .Add (aA 1) (rK (.int 21)),rK (.int 3)]))])))
    (sIf (iK (bH .Eq (aA 4) (rK (.int 2))) (bH .Gt (aA 2) (rK (.int 0))))
     (aS (f9 7 (aB aK [aA 0,aR .Add (aA 1) (rK (.int 22)),aA 2]))
      (mT 5 (aO 0 [7,5] (bE (aA 3)) qw (rIx (aI 2) (aR .Sub (aA 0) (aR .Mult (aR .Mod (aR .FloorDiv (aA 0) (rIx (iL [rK (.int 1),rK (.int 2),rK (.int 4),rK (.int 8)]) (aA 1))) (rK (.int 2))) (rIx (iL [rK (.int 1),rK (.int 2),rK (.int 4),rK (.int 8)]) (aA 1))))))))
     (bN)))) [.sh (Sc ns),.sh (.int at'),.sh (.int m),.sh (.int (2^m:Nat)),.sh (.int f),.ow s,.no,.no,.no]
   = .nx [.sh (Sc ns),.sh (.int at'),.sh (.int m),.sh (.int (2^m:Nat)),.sh (.int f),.ow ws,a,b,.no]/\ws.length=2^m/\∀w∈ws,bit w:=by
  have J: ∀ρ:Rho,ρ[2]? =qv (.sh (.int m))->bH .Gt (aA 2) (rK (.int 0)) ρ= .ok (.bl (decide (0<m))):=λρ h=>by
   refine(bP (x:=.int m) (by simp[aA,h]) rfl).trans ?_
   simp[fC]
  have i: ∀(c:Nat) (ρ:Rho),ρ[4]? =qv (.sh (.int f))->bH .Eq (aA 4) (rK (.int c)) ρ= .ok (.bl (decide (f=c))):=λc ρ h=>by
   refine(bP (x:=.int f) (by simp[aA,h]) rfl).trans ?_
   rw[jZ rfl];show R.ok (.bl ((f:Int)==(c:Int)))=_
   congr 2;rw[m3];simp;lia
  have g: ∀c:Nat,iK (bH .Eq (aA 4) (rK (.int c))) (bH .Gt (aA 2) (rK (.int 0))) [.sh (Sc ns),.sh (.int at'),.sh (.int m),.sh (.int (2^m:Nat)),.sh (.int f),.ow s,.no,.no,.no]= .ok (.bl (decide (f=c/\0<m))):=λc=>by
   by_cases h:f=c
   ·refine(mC ((i c _ rfl).trans (by simp[h]))).trans ((J _ rfl).trans (by simp[h]))
   ·refine(sR ((i c _ rfl).trans (by simp[h]))).trans (by simp[h])
  by_cases C:f=0/\0<m
  ·obtain⟨u,hk,lk⟩:=dC ns (at'+20) (m:=2^m) (by lia)
   obtain⟨ws,e,l,b⟩:=eQ (n:=0) (cs:=[6]) (it:=bE (aA 3)) (e:=aB gK [aA 1,aA 0]) (P:=bit) (ds:=nM (2^m))
    (ρ:=[.sh (Sc ns),.sh (.int at'),.sh (.int m),.sh (.int (2^m:Nat)),.sh (.int f),.ow s,.sh (.int u),.no,.no]) (.inl (fE rfl (by lia))) λd h=>by
     obtain⟨j,L,rfl⟩:=gW h;obtain⟨r,hr,br⟩:=LJ u j;exact⟨[.sh (.int j)],_,rfl,(dF rfl rfl).trans hr,br⟩
   refine⟨ws,.sh (.int u),.no,(l9 ((g 0).trans (by simp[C]))).trans ((aH (eP ((eF rfl rfl rfl).trans hk))).trans (pK e)),l.trans dN,b⟩
  by_cases E:f=1
  ·obtain⟨q,I,lq⟩:=dC ns (at'+21) (m:=3) (by lia)
   obtain⟨ws,e,l,b⟩:=eQ (n:=0) (cs:=[1,2,0]) (it:=bE (aA 3)) (e:=aB J6 [bH .GtE (aB zI [aB aW [aA 2,aA 0]]) (aR .Add (rK (.int 1)) (aB aK [aA 3,aR .Add (aA 1) (rK (.int 21)),rK (.int 3)]))]) (P:=bit) (ds:=nM (2^m))
    (ρ:=[.sh (Sc ns),.sh (.int at'),.sh (.int m),.sh (.int (2^m:Nat)),.sh (.int f),.ow s,.no,.no,.no]) (.inl (fE rfl (by lia))) λd h=>by
     obtain⟨j,L,rfl⟩:=gW h;obtain⟨xs,hs,ls,bs⟩:=j0 hm j;obtain⟨is,rfl⟩:=B3 λx m=>Iz (bs x m)
     refine⟨[.sh (.int j)],_,rfl,(a9 ((bP ((a9 ((dF rfl rfl).trans hs)).trans (IA is)) ((aV rfl ((eF rfl rfl rfl).trans I)).trans rfl)).trans rfl)).trans rfl,?_⟩;unfold b2i;split
     ·exact .inr rfl
     ·exact .inl rfl
   refine⟨ws,.no,.no,(eT ((g 0).trans (by simp[C]))).trans ((l9 ((i 1 _ rfl).trans (by simp[E]))).trans (pK e)),l.trans dN,b⟩
  by_cases O:f=2/\0<m
  ·obtain⟨nm,hk,lk⟩:=dC ns (at'+22) (m:=m) (by lia)
   obtain⟨ws,e,l,b⟩:=eQ (n:=0) (cs:=[7,5]) (it:=bE (aA 3)) (e:=rIx (aI 2) (aR .Sub (aA 0) (aR .Mult (aR .Mod (aR .FloorDiv (aA 0) (rIx (iL [rK (.int 1),rK (.int 2),rK (.int 4),rK (.int 8)]) (aA 1))) (rK (.int 2))) (rIx (iL [rK (.int 1),rK (.int 2),rK (.int 4),rK (.int 8)]) (aA 1))))) (P:=bit) (ds:=nM (2^m))
    (ρ:=[.sh (Sc ns),.sh (.int at'),.sh (.int m),.sh (.int (2^m:Nat)),.sh (.int f),.ow s,.no,.sh (.int nm),.no]) (.inl (fE rfl (by lia))) λd h=>by
     obtain⟨j,L,rfl⟩:=gW h;have ab:=oO (m:=nm) (by lia)
     have M:j/2^nm % 2*2^nm<=j:=ol (Nat.mul_le_mul_right _ (Nat.mod_le _ _)) (Nat.div_mul_le_self ..)
     obtain⟨w,B,G⟩:=Fr T (p:=j-j/2^nm % 2*2^nm) (by lia)
     refine⟨[.sh (.int j)],w,rfl,(iG (x:=.lst s) (y:=.int (j-j/2^nm % 2*2^nm:Nat)) rfl ?_).trans B,G⟩;refine(aV rfl ((aV ((aV ((aV rfl (ix4 (a:=aA 1) (j:=nm) rfl (by lia))).trans (BY (by lia) (by lia))) rfl).trans (pN (by decide))) (ix4 (a:=aA 1) (j:=nm) rfl (by lia))).trans (Fo (LI (by lia) (by lia))))).trans ?_
     show R.ok (D.int ((j:Int)-(j:Int)/((2^nm:Nat):Int) % 2*((2^nm:Nat):Int)))=_;rw[Int.ofNat_sub M,Int.natCast_mul,Int.natCast_emod,Int.natCast_ediv];rfl
   refine⟨ws,.no,.sh (.int nm),(eT ((g 0).trans (by simp[C]))).trans ((eT ((i 1 _ rfl).trans (by simp[E]))).trans ((l9 ((g 2).trans (by simp[O]))).trans ((aH (eP ((eF rfl rfl rfl).trans hk))).trans (pK e)))),l.trans dN,b⟩
  ·exact⟨s,.no,.no,(eT ((g 0).trans (by simp[C]))).trans ((eT ((i 1 _ rfl).trans (by simp[E]))).trans ((eT ((g 2).trans (by simp[O]))).trans rfl)),Q,T⟩
 obtain⟨o,a,b,Y,S,H⟩:=h4
 -- one worth turned
 have h5: ∃ws c,(sIf (iK (bH .Lt (aA 4) (rK (.int 3))) (bH .Eq (aB aK [aA 0,aR .Add (aA 1) (rK (.int 23)),rK (.int 3)]) (rK (.int 0))))
   (aS (f9 8 (aB aK [aA 0,aR .Add (aA 1) (rK (.int 24)),aA 3]))
    (ED 5 (aA 8) (aR .Sub (rK (.int 1)) (rIx (aI 5) (aA 8)))))
   (bN)) [.sh (Sc ns),.sh (.int at'),.sh (.int m),.sh (.int (2^m:Nat)),.sh (.int f),.ow o,a,b,.no]
   = .nx [.sh (Sc ns),.sh (.int at'),.sh (.int m),.sh (.int (2^m:Nat)),.sh (.int f),.ow ws,a,b,c]/\ws.length=2^m/\∀w∈ws,bit w:=by
  obtain⟨q,I,lq⟩:=dC ns (at'+23) (m:=3) (by lia)
  have hc: ∃t,iK (bH .Lt (aA 4) (rK (.int 3))) (bH .Eq (aB aK [aA 0,aR .Add (aA 1) (rK (.int 23)),rK (.int 3)]) (rK (.int 0))) [.sh (Sc ns),.sh (.int at'),.sh (.int m),.sh (.int (2^m:Nat)),.sh (.int f),.ow o,a,b,.no]= .ok (.bl t):=by
   have W:bH .Lt (aA 4) (rK (.int 3)) [.sh (Sc ns),.sh (.int at'),.sh (.int m),.sh (.int (2^m:Nat)),.sh (.int f),.ow o,a,b,.no]= .ok (.bl (decide ((f:Int)<3))):=rfl
   by_cases U:(f:Int)<3
   ·exact⟨_,(mC (W.trans (by simp[U]))).trans ((bP ((eF rfl rfl rfl).trans I) rfl).trans (jZ rfl))⟩
   ·exact⟨_,sR (W.trans (by simp[U]))⟩
  obtain⟨t,X⟩:=hc
  cases t with
  |false=>exact⟨o,.no,(eT X).trans rfl,S,H⟩
  |true=>
   obtain⟨A,Z,ll⟩:=dC ns (at'+24) (m:=2^m) (by lia)
   obtain⟨w,B,G⟩:=Fr H (p:=A) (by lia)
   have hb: ∃v,mW .Sub (.int 1) w= .ok v/\bit v:=by
    rcases G with rfl|rfl
    ·exact⟨_,rfl,.inr rfl⟩
    ·exact⟨_,rfl,.inl rfl⟩
   obtain⟨v,hv,bv⟩:=hb;refine⟨o.set A v,.sh (.int A),(l9 X).trans ((aH (eP ((eF rfl rfl rfl).trans Z))).trans ?_),by simp[S],λx mx=>?_⟩
   ·have hx:(aR .Sub (rK (.int 1)) (rIx (aI 5) (aA 8))) [.sh (Sc ns),.sh (.int at'),.sh (.int m),.sh (.int (2^m:Nat)),.sh (.int f),.ow o,a,b,.sh (.int A)]= .ok v:=(aV rfl ((iG rfl rfl).trans B)).trans hv
    have hi:ixD o.length (A:Int)=qv A:=by simp[ixD];lia
    show ED 5 (aA 8) (aR .Sub (rK (.int 1)) (rIx (aI 5) (aA 8))) [.sh (Sc ns),.sh (.int at'),.sh (.int m),.sh (.int (2^m:Nat)),.sh (.int f),.ow o,a,b,.sh (.int A)]=_;unfold ED;rw[hx];simp[f8,aA,hi]
   ·rcases List.mem_or_eq_of_mem_set mx with h|rfl
    ·exact H x h
    ·exact bv
 obtain⟨K,c,e2,l2,b2⟩:=h5;refine⟨K,aU ((aH (eP (ix5 (a:=aA 2) (j:=m) rfl hm))).trans ((aH (eP ((eF rfl rfl rfl).trans B))).trans ((aH (pK e0)).trans ((aH Y).trans ((aH e2).trans (aT (uZ rfl ((a9 rfl).trans rfl)))))))),l2,b2⟩
noncomputable def wb(b:Int):D->Bool
 |.int i=>decide (0<=i)&&decide (i<b)
 |_=>q4
def mK(b:Int)(h:plain x=qz):aZ [x,.int b]= .ok (.bl (wb b x)):=by
 cases x with
 |int i=>
  exact aU (aT ((mC rfl).trans (BX (i:=0) (j:=i) (k:=b) rfl rfl rfl)))
 |exc c=>exact absurd h (by simp[plain])
 |fn c=>exact absurd h (by simp[plain])
 |_=>rfl
def B5(b:Int)(hx:x= .tup ds\/x= .lst ds)(h:bC ds=qz):dP [x,.int b]= .ok (.bl (ds.all (wb b))):=by
 have e:aO 0 [1] (aI 0) qw (aB aZ [aA 0,aA 1]) [.sh x,.sh (.int b)]= .ow (ds.map λd=>.bl (wb b d)):=
  sS (by rcases hx with rfl|rfl;exact .inr (.inl rfl);exact .inl rfl) λd m=>(dF rfl rfl).trans (mK b (eL.1 h d m))
 exact aU (aT ((cR e).trans LH))
noncomputable def MB(n b:Int):D->Bool
 |.tup ws=>decide ((ws.length:Int)=n)&&ws.all (wb b)
 |_=>q4
def NY(i j:Int):fC .Eq (.int i) (.int j)= .ok (.bl (decide (i=j))):=by
 rw[jZ (x:=.int i) (y:=.int j) rfl];show R.ok (.bl (i==j))=_
 congr 2
def LL(i j:Int):fC .NotEq (.int i) (.int j)= .ok (.bl (!decide (i=j))):=by
 rw[iV (x:=.int i) (y:=.int j) rfl];show R.ok (.bl (!(i==j)))=_
 congr 2
def sZ(n b:Int)(h:plain x=qz):jF [x,.int n,.int b]= .ok (.bl (MB n b x)):=by
 cases x with
 |tup d=>
  refine aU (aT ((mC rfl).trans ?_))
  have e:bH .Eq (aB iB [aI 0]) (aA 1) [.sh (.tup d),.sh (.int n),.sh (.int b)]= .ok (.bl (decide ((d.length:Int)=n))):=(bP rfl rfl).trans (NY _ _)
  by_cases a:(d.length:Int)=n
  ·exact(mC (e.trans (by simp[a]))).trans ((dF rfl rfl).trans ((B5 b (.inl rfl) h).trans (by simp[MB,a])))
  ·exact(sR (e.trans (by simp[a]))).trans (by simp[MB,a])
 |exc c=>exact absurd h (by simp[plain])
 |fn c=>exact absurd h (by simp[plain])
 |_=>rfl
def D5{m:Nat}(h:m<=4):bL [.int m]= .ok (.int (2^m:Nat)):=by
 rcases(show m=0\/m=1\/m=2\/m=3\/m=4 by lia)with rfl|rfl|rfl|rfl|rfl<;>rfl
noncomputable def IB:D->Bool
 |.tup [a,b]=>wb 5 a&&(match a with|.int m=>MB (2^m.toNat:Nat) 2 b|_=>q4)
 |_=>q4
def LM(h:wb b x=qz): ∃m:Nat,x= .int m/\(m:Int)<b:=by
 cases x with
 |int i=>
  simp[wb]at h;exact⟨i.toNat,by rw[Int.toNat_of_nonneg h.1],by lia⟩
 |_=>simp[wb]at h
def gL(h:plain d=qz):fR [d]= .ok (.bl (IB d)):=by
 cases d with
 |tup e=>
  have g:bH .NotEq (aB iB [aI 0]) (rK (.int 2)) [.sh (.tup e)]= .ok (.bl (!decide ((e.length:Int)=2))):=(bP rfl rfl).trans (LL _ _)
  by_cases l:e.length=2
  ·obtain⟨a,b,rfl⟩: ∃a b,e=[a,b]:=by
    match e,l with
    |[a,b],_=>exact⟨a,b,rfl⟩
   have j:plain a=qz/\plain b=qz:=by simpa[plain,bC]using h
   have n:aB fF [rIx (aI 0) (rK (.int 0))] [.sh (.tup [a,b])]= .ok (.bl (wb 5 a)):=(a9 rfl).trans (aU (aT ((dF rfl rfl).trans (mK 5 j.1))))
   have i:rOr (iZ (rIs (gO) (aA 0))) (rOr (bH .NotEq (aB iB [aI 0]) (rK (.int 2))) (iZ (aB fF [rIx (aI 0) (rK (.int 0))]))) [.sh (.tup [a,b])]= .ok (.bl (!wb 5 a)):=
    (BW rfl).trans ((BW (g.trans rfl)).trans (pM n))
   cases f:wb 5 a with
   |false=>exact aU (iU ((l9 (i.trans (by rw[f];rfl))).trans (aT (by simp[IB,f,rK])))) 
   |true=>
    obtain⟨m,rfl,o⟩:=LM f;refine aU ((aH ((eT (i.trans (by rw[f];rfl))).trans rfl)).trans (aT ((eF rfl ((a9 rfl).trans (D5 (by lia))) rfl).trans ((sZ _ _ j.2).trans ?_))))
    simp[IB,f]
  ·refine aU (iU ((l9 ((BW rfl).trans (NW (g.trans ?_)))).trans (aT ?_)))
   ·have: ¬(e.length:Int)=2:=by lia
    simp[this]
   ·match e,l with
    |[],_=>rfl
    |[_],_=>rfl
    |_::_::_::_,_=>rfl
    |[_,_],h=>exact absurd rfl h
 |exc c=>exact absurd h (by simp[plain])
 |fn c=>exact absurd h (by simp[plain])
 |_=>rfl
def mL(h:plain d=qz)(s:IB d=qz):aM [d]= .ok .non:=
 uY (ρ:=[.sh d]) ((eT ((pM ((a9 rfl).trans (gL h))).trans (by rw[s];rfl))).trans rfl)
noncomputable def tn:D->D
 |.int i=>.int (1-i)
 |d=>d
def j4(h:bit d):plain d=qz/\dep d=0:=by rcases h with rfl|rfl<;>exact⟨rfl,rfl⟩
def zE(h: ∀w∈ws,bit w):bC ws=qz:=eL.2 λx m=>(j4 (h x m)).1
def IC{m:Nat}(hm:m<=4)(l:ws.length=2^m)(h: ∀w∈ws,bit w):IB (.tup [.int m,.tup ws])=qz:=by
 have d:wb 5 (.int m)=qz:=by simp[wb];lia
 have b:ws.all (wb 2)=qz:=by
  rw[kj];intro w a;rcases h w a with rfl|rfl<;>rfl
 have c:IB (.tup [.int m,.tup ws])=(wb 5 (.int m)&&(decide ((ws.length:Int)=(2^m:Nat))&&ws.all (wb 2))):=rfl
 rw[c,d,b,decide_eq_true (by rw[l])];rfl
def D6{m:Nat}(h: ∀w∈ws,bit w):plain (.tup [.int m,.tup ws])=qz:=by
 simp[plain,bC,zE h]
end SK.k78
namespace SK
open PySem
def k8(hi:it ρ= .ok (.lst ds)\/it ρ= .ok (.tup ds)\/it ρ= .ow ds)(h:bR (dG n (jK cs ρ) c e) ds=qv xs):aO n cs it c e ρ= .ow xs:=by
 rcases hi with hi|hi|hi<;>simp[aO,hi,R.bind,j6,items,h]
def ID(h:a ρ= .ok (.tup xs))(k:b ρ= .ok (.tup ys)):uA a b ρ= .ok (.lst ((xs.zip ys).map λp=>D.tup [p.1,p.2])):=by simp[uA,h,k,R.bind]
noncomputable def bD(b:Bool):D:=.int (b2i b)
end SK
namespace SK.k78
open SK PySem
noncomputable def sw(m:Nat)(bs:List Bool):D:=.tup [.int m,.tup (bs.map bD)]
def cY(m:Nat)(bs:List Bool):Prop:=m<=4/\bs.length=2^m
def LN(b:Bool):bit (bD b):=by
 cases b
 ·exact .inl rfl
 ·exact .inr rfl
theorem u8: ∀{ws:List D},(∀w∈ws,bit w)->∃bs:List Bool,ws=bs.map bD
 |[],_=>⟨[],rfl⟩
 |w::r,h=>by
  obtain⟨bs,rfl⟩:=u8 (ws:=r) λx m=>h x (.tail _ m)
  rcases h w (.head _)with rfl|rfl
  ·exact⟨q4::bs,rfl⟩
  ·exact⟨qz::bs,rfl⟩
def xJ(bs:List Bool): ∀w∈bs.map bD,bit w:=λw m=>by obtain⟨b,_,rfl⟩:=aq.1 m;exact LN b
def mM(g:cY m bs):IB (sw m bs)=qz:=IC g.1 (by simpa using g.2) (xJ bs)
def mO(m:Nat)(bs:List Bool):plain (sw m bs)=qz:=D6 (xJ bs)
def mP(m:Nat)(bs:List Bool):dep (sw m bs)<=60:=by
 have:=jE λx a=>(j4 (xJ bs x a)).2
 simp[sw,dep,nL,this]
def D7(h:a=b):fC .NotEq (sw m a) (sw m b)= .ok (.bl q4):=by
 subst h;rw[iV (fO (mO m a) (mO m a) (mP m a)),fP _ (mO m a)];rfl
def xK(ns:List Int)(at':Nat)(hm:m<=4): ∃bs,cY m bs/\dZ [Sc ns,.int at',.int m]= .ok (sw m bs):=by
 obtain⟨a,e,l,b⟩:=B4 ns at' hm;obtain⟨bs,rfl⟩:=u8 b;exact⟨bs,⟨hm,by simpa using l⟩,e⟩
def cY.zip(f:Bool->Bool->Bool)(g:cY m a)(h:cY m b):cY m (pe f a b):=⟨g.1,by simp[g.2,h.2]⟩
def cY.not(g:cY m a):cY m (a.map (! ·)):=⟨g.1,by simp[g.2]⟩
def pR(g:cY m a)(h:cY m b):cM [sw m a,sw m b]= .ok .non:=by
 refine uY (ρ:=[.sh (sw m a),.sh (sw m b)]) ((aH (eJ ((a9 rfl).trans (mL (mO m a) (mM g))))).trans ((aH (eJ ((a9 rfl).trans (mL (mO m b) (mM h))))).trans ((eT ((bP (x:=.int m) (y:=.int m) rfl rfl).trans ?_)).trans rfl)));rw[LL];simp
def pS(hop: ∀x y,mW op (bD x) (bD y)= .ok (bD (f x y))):
  aO 2 [] (uA (rIx (aI 0) (rK (.int 1))) (rIx (aI 1) (rK (.int 1)))) qw (aR op (aA 0) (aA 1)) [.sh (sw m a),.sh (sw m b)]= .ow ((pe f a b).map bD):=by
 refine k8 (.inl (ID rfl rfl)) ?_
 have: ∀(a b:List Bool),bR (dG 2 (jK [] [.sh (sw m a),.sh (sw m b)]) qw (aR op (aA 0) (aA 1))) (((a.map bD).zip (b.map bD)).map λp=>D.tup [p.1,p.2])=qv ((pe f a b).map bD):=by
  intro a
  induction a with
  |nil=>intro b;rfl
  |cons x a c=>
   intro b
   cases b with
   |nil=>rfl
   |cons y b=>
    have:=c b
    simp only[jK,oy]at this ⊢;simp only[ny,List.zip_cons_cons,List.zipWith_cons_cons,bR]
    rw[show dG 2 [] qw (aR op (aA 0) (aA 1)) (D.tup [bD x,bD y])=qv (qv (bD (f x y))) from by
     have d:aR op (aA 0) (aA 1) [.sh (bD x),.sh (bD y)]= .ok (bD (f x y)):=(aV rfl rfl).trans (hop x y)
     simp[dG,tgt,d]]
    simp[this]
 exact this a b
def IE(g:cY m a)(h:cY m b):BZ [sw m a,sw m b]= .ok (sw m (pe (· && ·) a b)):=
 aU ((aH (eJ ((dF rfl rfl).trans (pR g h)))).trans (aT (uZ rfl ((cR (pS λx y=>by cases x<;>cases y<;>rfl)).trans rfl))))
def B6(g:cY m a)(h:cY m b):pO [sw m a,sw m b]= .ok (sw m (pe (· || ·) a b)):=
 aU ((aH (eJ ((dF rfl rfl).trans (pR g h)))).trans (aT (uZ rfl ((cR (pS λx y=>by cases x<;>cases y<;>rfl)).trans rfl))))
def B7(g:cY m a)(h:cY m b):pP [sw m a,sw m b]= .ok (sw m (pe (· ^^ ·) a b)):=
 aU ((aH (eJ ((dF rfl rfl).trans (pR g h)))).trans (aT (uZ rfl ((cR (pS λx y=>by cases x<;>cases y<;>rfl)).trans rfl))))
def tD(g:cY m a):kZ [sw m a]= .ok (sw m (a.map (! ·))):=by
 have e:aO 0 [] (rIx (aI 0) (rK (.int 1))) qw (aR .Sub (rK (.int 1)) (aA 0)) [.sh (sw m a)]= .ow ((a.map (! ·)).map bD):=by
  have:=sS (cs:=[]) (it:=rIx (aI 0) (rK (.int 1))) (e:=aR .Sub (rK (.int 1)) (aA 0)) (ρ:=[.sh (sw m a)]) (ds:=a.map bD) (g:=tn) (.inr (.inl rfl)) λd c=>by
   obtain⟨b,_,rfl⟩:=aq.1 c
   cases b<;>rfl
  rw[this,pd,pd]
  congr 1
  refine i4 λb _=>?_
  cases b<;>rfl
 exact aU ((aH (eJ ((a9 rfl).trans (mL (mO m a) (mM g))))).trans (aT ((uZ (x:=.int (m:Nat)) rfl ((cR e).trans rfl)).trans rfl)))
end SK.k78
namespace SK
open PySem
theorem hW{α:Type}{f:D->Option (Option D)}{h:α->D}{p:α->Bool}{q:α->D}: ∀{L:List α},(∀x∈L,f (h x)=qv (if p x then qv (q x)else qw))->bR f (L.map h)=qv ((L.filter p).map q)
 |[],_=>rfl
 |x::r,k=>by
  have b:=hW (L:=r) λy m=>k y (.tail _ m)
  have a:=k x (.head _)
  cases c:p x<;>simp[bR,a,c,b]
end SK
namespace SK.k78
open SK PySem
noncomputable def tF:List Bool->Nat
 |[]=>0
 |b::r=>(if b then 1 else 0)+2*tF r
noncomputable def IF:List D->List Bool->Bool
 |[],[]=>qz
 |.int i::ds,b::bs=>i==b2i b&&IF ds bs
 |_,_=>q4
theorem xL: ∀{ds:List D} {bs:List Bool},IF ds bs=qz->ds=bs.map bD
 |[],[],_=>rfl
 |[],_::_,h=>by simp[IF]at h
 |d::ds,[],h=>by cases d<;>simp[IF]at h
 |d::ds,b::bs,h=>by
  cases d<;>try (simp[IF]at h;done)
  simp only[IF,av,beq_iff_eq]at h;rw[h.1,xL h.2];rfl
noncomputable def eqI(r:R)(i:Int):Bool:=match r with
 |.ok (.int j)=>j==i
 |_=>q4
def B8{r:R}{i:Int}(h:eqI r i=qz):r= .ok (.int i):=by
 unfold eqI at h;split at h
 ·rw[eq_of_beq h]
 ·cases h
noncomputable def eqN(r:R):Bool:=match r with
 |.ok .non=>qz
 |_=>q4
def IG{r:R}(h:eqN r=qz):r= .ok .non:=by
 unfold eqN at h;split at h
 ·rfl
 ·cases h
noncomputable def eqB(r:R):Bool:=match r with
 |.ok (.bl qz)=>qz
 |_=>q4
def IH{r:R}(h:eqB r=qz):r= .ok (.bl qz):=by
 unfold eqB at h;split at h
 ·rfl
 ·cases h
noncomputable def LO(b:Nat):Nat->List (List Nat)
 |0=>[[]]
 |n+1=>(pw b).flatMap λi=>(LO b n).map (i:: ·)
noncomputable def nod:List Nat->Bool
 |[]=>qz
 |i::r=> !r.contains i&&nod r
def oP(m:Nat):List (List Nat):=(LO m m).filter nod
noncomputable def bB:Nat->List (List Bool)
 |0=>[[]]
 |m+1=>(bB m).flatMap λr=>[r++[q4],r++[qz]]
theorem dW: ∀{m:Nat} {t:List Bool},t.length=m->t∈bB m
 |0,t,h=>by simp at h;simp[h,bB]
 |m+1,t,h=>by
  rcases List.eq_nil_or_concat t with rfl|⟨u,x,rfl⟩
  ·simp at h
  ·simp only[bB,List.mem_flatMap];refine⟨u,dW (by simpa using h),?_⟩
   cases x<;>simp
def D8{N:Nat}{P:Nat->List Bool->Bool}(h:((pw N).all λm=>(bB (2^m)).all λa=>P m a)=qz){m:Nat}(hm:m<N){a:List Bool}(la:a.length=2^m):P m a=qz:=
 zAd (zAd h m (zPd hm)) a (dW la)
def Fs{N:Nat}{P:Nat->List Nat->List Bool->Bool}(h:((pw N).all λm=>(oP m).all λo=>(bB m).all λt=>P m o t)=qz){m:Nat}(hm:m<N){o:List Nat}(ho:o∈oP m){t:List Bool}(lt:t.length=m):P m o t=qz:=
 zAd (zAd (zAd h m (zPd hm)) o ho) t (dW lt)
def NZ{α:Type}{m:Nat}{l:List α}(d:α)(h:l.length=m):l=(pw m).map λi=>l.getD i d:=by
 apply List.ext_getElem?;intro i
 by_cases a:i<m
 ·rw[bf (by lia)];simp[a,h]
 ·rw[List.getElem?_eq_none (by lia),List.getElem?_eq_none (by simp;lia)]
noncomputable def zK(m n:Nat):List Bool:=(pw m).map λi=>n.testBit i
noncomputable def D9(s:List Bool)(o:List Nat)(t:List Bool):List Bool:=pe (λi b=>s.getD i q4^^b) o t
def mvB(m:Nat)(a:List Bool)(o:List Nat)(t:List Bool):List Bool:=(pw (2^m)).map λn=>a.getD (tF (D9 (zK m n) o t)) q4
noncomputable def Jm(i:Nat):D:=.int (i:Int)
def mvD(o:List Nat)(t:List Bool)(w:Bool):D:=.tup [.tup (o.map Jm),.tup (t.map bD),bD w]
def Ft{m:Nat}{a:List Bool}{o:List Nat}{t:List Bool}:(mvB m a o t).length=2^m:=by simp[mvB]
def jH{α:Type}{L:List α}{h q:α->D}{cs:List Nat}{it e:F}{ρ:Rho}(hi:it ρ= .ok (.lst (L.map h))\/it ρ= .ok (.tup (L.map h))\/it ρ= .ow (L.map h))(he: ∀x∈L,e (.sh (h x)::jK cs ρ)= .ok (q x)):aO 0 cs it qw e ρ= .ow (L.map q):=by
 refine k8 hi ?_;rw[hW (p:=λ_=>qz) (q:=q) λx a=>?_]
 ·rw[List.filter_eq_self.2 λ_ _=>rfl]
 ·simp[dG,tgt,he x a]
def II{l:List Bool}{i:Nat}(h:i<l.length):dIx (.tup (l.map bD)) (.int (i:Nat))= .ok (bD (l.getD i q4)):=u6 (by simp[h])
def LP{m:Nat}(hm:m<=3):dU [.int (m:Nat)]= .ow ((pw (2^m)).map λn=>.tup ((zK m n).map bD)):=by
 rcases(show m=0\/m=1\/m=2\/m=3 by lia)with rfl|rfl|rfl|rfl<;>kernel_rfl
def LQ:((pw 4).all λm=>(oP m).all λo=>(bB m).all λt=>eqN (gJ [.int (m:Nat),mvD o t q4])&&(pw (2^m)).all λn=>eqI (aB fQ [aB D1 [aA 0,aA 1]] [.sh (.tup ((zK m n).map bD)),.sh (mvD o t q4)]) (tF (D9 (zK m n) o t):Nat)&&decide (tF (D9 (zK m n) o t)<2^m))=qz:=by kernel_rfl
def LR{a b c:F}{ρ:Rho}{x y z:D}(h:a ρ= .ok x)(k:b ρ= .ok y)(j:c ρ= .ok z):gN [a,b,c] ρ= .ok (.tup [x,y,z]):=by simp[gN,mX,args,h,k,j,RA.cons,RA.then]
section
variable{m:Nat}{o:List Nat}{t:List Bool}
def Ea{a:List Bool}(hm:m<=3)(g:cY m a)(h:o∈oP m)(lt:t.length=m):pQ [sw m a,mvD o t q4]= .ok (sw m (mvB m a o t)):=by
 have T:=Fs LQ (show m<4 by lia) h lt
 rw[av,kj]at T;have c: ∀n∈pw (2^m),_:=λn b=>by have z:=T.2 n b;rw[av,decide_eq_true_eq]at z;exact z
 have e:aO 0 [1] (aB dU [aA 2]) qw (aB fQ [aB D1 [aA 0,aA 1]]) [.sh (sw m a),.sh (mvD o t q4),.sh (.int (m:Nat)),.no]= .ow ((pw (2^m)).map λn=>D.int (tF (D9 (zK m n) o t):Nat)):=
  jH (h:=λn=>D.tup ((zK m n).map bD)) (.inr (.inr ((a9 rfl).trans (LP hm)))) λn b=>B8 (c n b).1
 have d:aO 0 [1,0] (aI 3) qw (aR .BitXor (rIx (rIx (aI 2) (rK (.int 1))) (aA 0)) (rIx (aI 1) (rK (.int 2)))) [.sh (sw m a),.sh (mvD o t q4),.sh (.int (m:Nat)),.sh (.lst ((pw (2^m)).map λn=>D.int (tF (D9 (zK m n) o t):Nat)))]= .ow ((pw (2^m)).map λn=>bD (a.getD (tF (D9 (zK m n) o t)) q4)):=
  jH (h:=λn=>D.int (tF (D9 (zK m n) o t):Nat)) (.inl rfl) λn b=>by
   refine(aV ((iG (x:=.tup (a.map bD)) rfl rfl).trans (II (by rw[g.2];exact(c n b).2))) rfl).trans ?_
   cases a.getD (tF (D9 (zK m n) o t)) q4<;>rfl
 refine aU ((aH (eJ ((a9 rfl).trans (mL (mO m a) (mM g))))).trans ((aH (eP rfl)).trans ((aH (eJ ((dF rfl rfl).trans (IG T.1)))).trans ((aH (BV e)).trans (aT ?_)))));refine(uZ (x:=.int (m:Nat)) rfl ((cR d).trans rfl)).trans ?_;simp[sw,mvB]
def B9(hm:m<=3):kJ [.int (m:Nat)]= .ow ((oP m).map λo=>.tup (o.map Jm))/\0<(oP m).length:=by
 rcases(show m=0\/m=1\/m=2\/m=3 by lia)with rfl|rfl|rfl|rfl<;>exact⟨by kernel_rfl,by decide+kernel⟩
def Eb(ns:List Int)(at':Nat)(hm:m<=3): ∃o t w,o∈oP m/\t.length=m/\fH [Sc ns,.int (at':Nat),.int (m:Nat)]= .ok (mvD o t w):=by
 obtain⟨g,u⟩:=B9 hm;obtain⟨p,l,lp⟩:=dC ns at' (m:=(oP m).length) u;obtain⟨q,c,B⟩:=dC ns (at'+9) (m:=2) (by decide)
 obtain⟨C,f,v,r⟩:=eQ (n:=0) (cs:=[1,0]) (it:=bE (aA 2)) (e:=aB aK [aA 2,aR .Add (aR .Add (aA 1) (rK (.int 1))) (aA 0),rK (.int 2)]) (ρ:=[.sh (Sc ns),.sh (.int (at':Nat)),.sh (.int (m:Nat)),.sh (.lst ((oP m).map λo=>.tup (o.map Jm))),.no]) (ds:=nM m) (P:=bit)
  (.inl (fE rfl (by lia))) λd h=>by
   obtain⟨j,E,rfl⟩:=gW h;obtain⟨k,i,lk⟩:=dC ns (at'+1+j) (m:=2) (by decide)
   refine⟨_,_,rfl,?_,Fq lk⟩;exact(eF (y:=.int ((at'+1+j:Nat):Int)) (z:=.int ((2:Nat):Int)) rfl ((aV ((aV rfl rfl).trans rfl) rfl).trans rfl) rfl).trans i
 obtain⟨t,rfl⟩:=u8 r
 have lt:t.length=m:=by simpa[dN]using v
 have s:(oP m)[p]? =qv (oP m)[p]:=bf lp
 obtain⟨w,A⟩: ∃w:Bool,D.int (q:Int)=bD w:=by
  have:q=0\/q=1:=by lia
  rcases this with rfl|rfl
  ·exact⟨q4,rfl⟩
  ·exact⟨qz,rfl⟩
 refine⟨(oP m)[p],t,w,lm lp,lt,?_⟩
 have a: ∀b,aB iB [aI 3] [.sh (Sc ns),.sh (.int (at':Nat)),.sh (.int (m:Nat)),.sh (.lst ((oP m).map λo=>.tup (o.map Jm))),b]= .ok (.int ((oP m).length:Nat)):=λb=>(a9 rfl).trans (by simp[iB,items])
 refine aU ((aH (BV ((a9 rfl).trans g))).trans ((aH (eP ((cR f).trans rfl))).trans (aT ?_)));refine(LR ((iG (x:=.lst ((oP m).map λo=>.tup (o.map Jm))) rfl ((eF (y:=.int (at':Nat)) rfl rfl (a _)).trans l)).trans (dO (x:=.tup ((oP m)[p].map Jm)) (by rw[ju,s];rfl))) (rfl:_=R.ok (.tup (t.map bD))) ((eF (y:=.int ((at'+9:Nat):Int)) (z:=.int ((2:Nat):Int)) rfl ((aV rfl rfl).trans rfl) rfl).trans c)).trans ?_
 rw[A];rfl
end
noncomputable def clB:Nat->Nat
 |0=>32
 |1=>66592
 |2=>193767052067035589706784
 |_=>14079986334694979857572052567166849365551613918151045304727089385161922612959319810008125895884587869799971620043152430982512176203574519448028618446987982167151012748134792990643715123135024130391539997928950519819025535268942987600567835360709946968511692161890831902355382721197069470460963522343814611387074952046989384890209662981532787742051018237818589670719231154656037733205024
def cl(m n:Nat):Nat:=(clB m >>> (5*n)) &&& 31
noncomputable def TT:Nat->List (List R)
 |0=>[[.ow [.int 1],.ok (.int 0),.ok (.int 0),.ok (.tup [.int 0,.tup [.int 0]])],[.ow [.int 1],.ok (.int 1),.ok (.int 1),.ok (.tup [.int 0,.tup [.int 0]])]]
 |1=>[[.ow [.int 4,.int 0],.ok (.int 0),.ok (.int 0),.ok (.tup [.int 1,.tup [.int 0,.int 0]])],[.ow [.int 0,.int 4],.ok (.int 1),.ok (.int 1),.ok (.tup [.int 1,.tup [.int 0,.int 1]])],[.ow [.int 4,.int 0],.ok (.int 2),.ok (.int 1),.ok (.tup [.int 1,.tup [.int 0,.int 0]])]]
 |2=>[[.ow [.int 16,.int 0,.int 0],.ok (.int 0),.ok (.int 0),.ok (.tup [.int 2,.tup [.int 0,.int 0,.int 0,.int 0]])],[.ow [.int 4,.int 8,.int 4],.ok (.int 1),.ok (.int 1),.ok (.tup [.int 2,.tup [.int 0,.int 0,.int 0,.int 1]])],[.ow [.int 0,.int 16,.int 0],.ok (.int 2),.ok (.int 1),.ok (.tup [.int 2,.tup [.int 0,.int 0,.int 1,.int 1]])],[.ow [.int 0,.int 0,.int 16],.ok (.int 2),.ok (.int 2),.ok (.tup [.int 2,.tup [.int 0,.int 1,.int 1,.int 0]])],[.ow [.int 4,.int 8,.int 4],.ok (.int 3),.ok (.int 2),.ok (.tup [.int 2,.tup [.int 0,.int 0,.int 0,.int 1]])],[.ow [.int 16,.int 0,.int 0],.ok (.int 4),.ok (.int 1),.ok (.tup [.int 2,.tup [.int 0,.int 0,.int 0,.int 0]])]]
 |_=>[[.ow [.int 64,.int 0,.int 0,.int 0],.ok (.int 0),.ok (.int 0),.ok .non],[.ow [.int 36,.int 12,.int 12,.int 4],.ok (.int 1),.ok (.int 1),.ok .non],[.ow [.int 16,.int 32,.int 16,.int 0],.ok (.int 2),.ok (.int 1),.ok .non],[.ow [.int 16,.int 16,.int 16,.int 16],.ok (.int 2),.ok (.int 2),.ok .non],[.ow [.int 4,.int 44,.int 12,.int 4],.ok (.int 3),.ok (.int 2),.ok .non],[.ow [.int 0,.int 64,.int 0,.int 0],.ok (.int 4),.ok (.int 1),.ok .non],[.ow [.int 4,.int 12,.int 12,.int 36],.ok (.int 3),.ok (.int 3),.ok .non],[.ow [.int 0,.int 48,.int 0,.int 16],.ok (.int 4),.ok (.int 3),.ok .non],[.ow [.int 16,.int 0,.int 48,.int 0],.ok (.int 2),.ok (.int 2),.ok .non],[.ow [.int 4,.int 12,.int 44,.int 4],.ok (.int 3),.ok (.int 2),.ok .non],[.ow [.int 0,.int 32,.int 32,.int 0],.ok (.int 4),.ok (.int 3),.ok .non],[.ow [.int 0,.int 16,.int 32,.int 16],.ok (.int 4),.ok (.int 3),.ok .non],[.ow [.int 4,.int 44,.int 12,.int 4],.ok (.int 5),.ok (.int 2),.ok .non],[.ow [.int 0,.int 0,.int 64,.int 0],.ok (.int 4),.ok (.int 2),.ok .non],[.ow [.int 4,.int 12,.int 44,.int 4],.ok (.int 5),.ok (.int 4),.ok .non],[.ow [.int 16,.int 32,.int 16,.int 0],.ok (.int 6),.ok (.int 2),.ok .non],[.ow [.int 0,.int 0,.int 0,.int 64],.ok (.int 4),.ok (.int 4),.ok .non],[.ow [.int 4,.int 12,.int 12,.int 36],.ok (.int 5),.ok (.int 4),.ok .non],[.ow [.int 16,.int 16,.int 16,.int 16],.ok (.int 6),.ok (.int 3),.ok .non],[.ow [.int 16,.int 0,.int 48,.int 0],.ok (.int 6),.ok (.int 6),.ok .non],[.ow [.int 36,.int 12,.int 12,.int 4],.ok (.int 7),.ok (.int 3),.ok .non],[.ow [.int 64,.int 0,.int 0,.int 0],.ok (.int 8),.ok (.int 1),.ok .non]]
def rPl:R->Bool
 |.ok d=>plain d&&decide (dep d<=60)
 |.ow xs=>plain (.lst xs)&&decide (dep (.lst xs)<=60)
 |_=>q4
def mes(m:Nat)(a:List Bool):List R:=[cW [sw m a],aB iB [aB mE [aA 0]] [.sh (sw m a)],aB iB [aB gZ [aA 0]] [.sh (sw m a)],if m<3 then cI [sw m a]else .ok .non]
def due(m:Nat)(a:List Bool):List R:=(TT m).getD (cl m (tF a)) []
def t0:(bB 1).map (mes 0)=(bB 1).map (due 0):=by kernel_rfl
def t1:(bB 2).map (mes 1)=(bB 2).map (due 1):=by kernel_rfl
def t2:(bB 4).map (mes 2)=(bB 4).map (due 2):=by kernel_rfl
def Pm:(bB 4).map (λs=>mes 3 ([q4,q4,q4,q4]++s))=(bB 4).map (λs=>due 3 ([q4,q4,q4,q4]++s)):=by kernel_rfl
def Pn:(bB 4).map (λs=>mes 3 ([qz,q4,q4,q4]++s))=(bB 4).map (λs=>due 3 ([qz,q4,q4,q4]++s)):=by kernel_rfl
def Po:(bB 4).map (λs=>mes 3 ([q4,qz,q4,q4]++s))=(bB 4).map (λs=>due 3 ([q4,qz,q4,q4]++s)):=by kernel_rfl
def Pp:(bB 4).map (λs=>mes 3 ([qz,qz,q4,q4]++s))=(bB 4).map (λs=>due 3 ([qz,qz,q4,q4]++s)):=by kernel_rfl
def Pq:(bB 4).map (λs=>mes 3 ([q4,q4,qz,q4]++s))=(bB 4).map (λs=>due 3 ([q4,q4,qz,q4]++s)):=by kernel_rfl
def Pr:(bB 4).map (λs=>mes 3 ([qz,q4,qz,q4]++s))=(bB 4).map (λs=>due 3 ([qz,q4,qz,q4]++s)):=by kernel_rfl
def Pt:(bB 4).map (λs=>mes 3 ([q4,qz,qz,q4]++s))=(bB 4).map (λs=>due 3 ([q4,qz,qz,q4]++s)):=by kernel_rfl
def Pu:(bB 4).map (λs=>mes 3 ([qz,qz,qz,q4]++s))=(bB 4).map (λs=>due 3 ([qz,qz,qz,q4]++s)):=by kernel_rfl
def Pv:(bB 4).map (λs=>mes 3 ([q4,q4,q4,qz]++s))=(bB 4).map (λs=>due 3 ([q4,q4,q4,qz]++s)):=by kernel_rfl
def Pw:(bB 4).map (λs=>mes 3 ([qz,q4,q4,qz]++s))=(bB 4).map (λs=>due 3 ([qz,q4,q4,qz]++s)):=by kernel_rfl
def N0:(bB 4).map (λs=>mes 3 ([q4,qz,q4,qz]++s))=(bB 4).map (λs=>due 3 ([q4,qz,q4,qz]++s)):=by kernel_rfl
def N1:(bB 4).map (λs=>mes 3 ([qz,qz,q4,qz]++s))=(bB 4).map (λs=>due 3 ([qz,qz,q4,qz]++s)):=by kernel_rfl
def N2:(bB 4).map (λs=>mes 3 ([q4,q4,qz,qz]++s))=(bB 4).map (λs=>due 3 ([q4,q4,qz,qz]++s)):=by kernel_rfl
def N3:(bB 4).map (λs=>mes 3 ([qz,q4,qz,qz]++s))=(bB 4).map (λs=>due 3 ([qz,q4,qz,qz]++s)):=by kernel_rfl
def N4:(bB 4).map (λs=>mes 3 ([q4,qz,qz,qz]++s))=(bB 4).map (λs=>due 3 ([q4,qz,qz,qz]++s)):=by kernel_rfl
def N5:(bB 4).map (λs=>mes 3 ([qz,qz,qz,qz]++s))=(bB 4).map (λs=>due 3 ([qz,qz,qz,qz]++s)):=by kernel_rfl
noncomputable def pos(m:Nat)(o:List Nat)(t:List Bool):List Nat:=(pw (2^m)).map λn=>tF (D9 (zK m n) o t)
def chk(m:Nat):Bool:=(oP m).all λo=>(bB m).all λt=>(bB (2^m)).all λa=>Nat.beq (cl m (tF ((pos m o t).map λi=>a.getD i q4))) (cl m (tF a))
def k0:chk 0=qz:=by kernel_rfl
def k1:chk 1=qz:=by kernel_rfl
def k2:chk 2=qz:=by kernel_rfl
def k3:chk 3=qz:=by kernel_rfl
noncomputable def kP(a:List Bool):List Nat:=(a.zipIdx.filter (·.1)).map (·.2)
noncomputable def cD(js:List Nat):List D:=js.map λ(k:Nat)=>D.int (k:Int)
noncomputable def sbs(j k:Nat):Bool:=j &&& k==j
def Ec{cs:List Nat}{it c:F}{ρ:Rho}{l:List Nat}{p:Nat->Bool}(hi:it ρ= .ok (.lst (cD l))\/it ρ= .ow (cD l))(h: ∀k∈l,c (.sh (.int (k:Nat))::jK cs ρ)= .ok (.bl (p k))):
  aO 0 cs it (qv c) (aA 0) ρ= .ow (cD (l.filter p)):=by
 refine k8 (ds:=cD l) (hi.elim (λz=>.inl z) λz=>.inr (.inr z)) ?_
 unfold cD;rw[hW (p:=p) (q:=λ(k:Nat)=>D.int (k:Int)) λk a=>?_]
 have:=h k a
 simp only[dG,tgt,lh,q8,this]
 cases p k<;>rfl
def Ed(l:List Nat):bC (cD l)=qz:=eL.2 λx a=>by obtain⟨i,_,rfl⟩:=aq.1 a;rfl
def IJ{m:Nat}{a:List Bool}(g:cY m a):kP a=(pw (2^m)).filter λk=>a.getD k q4:=by
 have b: ∀{N:Nat} (f:Nat->Bool),kP ((pw N).map f)=(pw N).filter f:=λ{N} f=>by
  unfold kP;rw[List.zipIdx_map]
  have:(pw N).zipIdx=(pw N).map λi=>(i,i):=by
   apply lj
   ·simp
   ·intro i d c;simp
  rw[this];simp only[pd,List.filter_map];rw[<-List.map_id ((pw N).filter f)]
  congr 1
 conv=>lhs;rw[NZ q4 g.2,b]
noncomputable def par(n:Nat):Bool:=n % 2==1
def Wd(l:List Nat)(n:Nat):Bool:=par (l.countP λo=>sbs o n)
def odW(N:Nat)(l:List Nat):List Nat:=(pw N).filter (Wd l)
noncomputable def pop(k:Nat):Nat:=k % 2+k/2 % 2+k/4 % 2+k/8 % 2
def prd(m:Nat)(a:List Bool):List Nat:=odW (2^m) (kP a)
def dg(m:Nat)(a:List Bool):Nat:=(prd m a).foldl (λx k=>max x (pop k)) 0
def mono(m U:Nat):List Bool:=(pw (2^m)).map (sbs U)
def wdL(m:Nat)(Us:List Nat):List Bool:=(pw (2^m)).map (Wd Us)
def Px:((pw 4).all λm=>(bB (2^m)).all λa=>wdL m (prd m a)==a)=qz:=by kernel_rfl
def N6:((pw 4).all λm=>(bB (2^m)).all λa=>(pw (2^m)).all λU=>decide (dg m (pe (· && ·) a (mono m U))<=dg m a+pop U))=qz:=by kernel_rfl
theorem Ca{d:Nat}: ∀(l:List Nat) (x:Nat),x<=d->(∀k∈l,pop k<=d)->l.foldl (λx k=>max x (pop k)) x<=d
 |[],x,h,_=>h
 |k::l,x,h,q=>Ca l (max x (pop k)) (by have:=q k (.head _);lia) λj a=>q j (.tail _ a)
theorem Cb: ∀(l:List Nat) (x:Nat),x<=l.foldl (λx k=>max x (pop k)) x/\∀k∈l,pop k<=l.foldl (λx k=>max x (pop k)) x
 |[],x=>⟨aj _,nofun⟩
 |k::l,x=>by
  obtain⟨c,b⟩:=Cb l (max x (pop k));refine⟨by show x<=l.foldl (λx k=>max x (pop k)) (max x (pop k));lia,λj a=>?_⟩
  rcases au.mp a with rfl|a
  ·show pop j<=l.foldl (λx k=>max x (pop k)) (max x (pop j));lia
  ·exact b j a
def N7{m d:Nat}{a:List Bool}(h: ∀k∈prd m a,pop k<=d):dg m a<=d:=Ca _ 0 (cb _) h
def IL{m k:Nat}{a:List Bool}(h:k∈prd m a):pop k<=dg m a:=(Cb _ 0).2 k h
def xM(n:Nat):par (n+1)= !par n:=by
 unfold par
 have:n % 2=0\/n % 2=1:=by lia
 rcases this with h|h
 ·rw[h,show(n+1) % 2=1 by lia];rfl
 ·rw[h,show(n+1) % 2=0 by lia];rfl
theorem Cc(p f g:Nat->Bool): ∀L:List Nat,par ((L.filter λo=>f o^^g o).countP p)=(par ((L.filter f).countP p)^^par ((L.filter g).countP p))
 |[]=>rfl
 |o::L=>by
  have a:=Cc p f g L;simp only[kz]
  cases c:f o<;>cases d:g o<;>cases b:p o<;>simp[ku,b,a,xM]
variable{m:Nat}{a b:List Bool}
def Fv(ga:cY m a)(gb:cY m b)(n:Nat):Wd (kP (pe (· ^^ ·) a b)) n=(Wd (kP a) n^^Wd (kP b) n):=by
 have c:cY m (pe (· ^^ ·) a b):=⟨ga.1,by simp[ga.2,gb.2]⟩
 unfold Wd;rw[IJ c,IJ ga,IJ gb, <-Cc]
 congr 2
 refine List.filter_congr λk d=>?_
 have hk:=zRd d;simp[List.getElem?_zipWith,ga.2,gb.2,hk]
def LS(ga:cY m a)(gb:cY m b):dg m (pe (· ^^ ·) a b)<=max (dg m a) (dg m b):=by
 refine N7 λk hk=>?_
 obtain⟨e,c⟩:=l8.mp hk;rw[Fv ga gb]at c
 cases d:Wd (kP a) k with
 |true=>have:=IL (m:=m) (a:=a) (l8.mpr ⟨e,d⟩);lia
 |false=>
  rw[d]at c
  have:=IL (m:=m) (a:=b) (l8.mpr ⟨e,by simpa using c⟩);lia
def LT(hm:m<=3)(la:a.length=2^m):wdL m (prd m a)=a:=eq_of_beq (D8 Px (show m<4 by lia) la)
theorem LU(hm:m<=3)(ga:cY m a): ∀(Us:List Nat) (d:Nat),(∀U∈Us,U<2^m/\pop U<=d)->dg m (pe (· && ·) a (wdL m Us))<=dg m a+d
 |[],d,_=>by
  have g:pe (· && ·) a (wdL m [])=(pw (2^m)).map λ_=>q4:=by
   apply lj
   ·simp[wdL,ga.2]
   ·intro i b l;simp[wdL,Wd,par]
  have b:dg m (pe (· && ·) a (wdL m []))=0:=by
   rw[g]
   have:m=0\/m=1\/m=2\/m=3:=by lia
   rcases this with rfl|rfl|rfl|rfl<;>rfl
  lia
 |U::Us,d,h=>by
  have o:=LU hm ga Us d λV f=>h V (.tail _ f)
  obtain⟨n,p⟩:=h U (.head _);have t:=zAd (D8 N6 (show m<4 by lia) ga.2) U (zPd n)
  rw[decide_eq_true_eq]at t
  have e:pe (· && ·) a (wdL m (U::Us))=pe (· ^^ ·) (pe (· && ·) a (mono m U)) (pe (· && ·) a (wdL m Us)):=by
   apply lj
   ·simp[wdL,mono,ga.2]
   ·intro i b l;simp only[List.getElem_zipWith,wdL,mono,List.getElem_map,jj]
    have w:Wd (U::Us) i=(sbs U i^^Wd Us i):=by
     unfold Wd;rw[ku]
     cases sbs U i<;>simp[xM]
    rw[w,Bool.and_xor_distrib_left]
  have j:cY m (pe (· && ·) a (mono m U)):=⟨ga.1,by simp[mono,ga.2]⟩
  have c:cY m (pe (· && ·) a (wdL m Us)):=⟨ga.1,by simp[wdL,ga.2]⟩
  rw[e]
  have:=LS j c
  lia
def LV(hm:m<=3)(ga:cY m a)(gb:cY m b):dg m (pe (· && ·) a b)<=dg m a+dg m b:=by
 have:=LU hm ga (prd m b) (dg m b) λU c=>⟨zRd (l8.mp c).1,IL c⟩
 rwa [LT hm gb.2]at this
noncomputable def IM:List D->List Nat->Bool
 |[],[]=>qz
 |.int i::ds,n::ns=>i==(n:Int)&&IM ds ns
 |_,_=>q4
theorem xN: ∀{ds:List D} {ns:List Nat},IM ds ns=qz->ds=cD ns
 |[],[],_=>rfl
 |[],_::_,h=>by simp[IM]at h
 |d::ds,[],h=>by cases d<;>simp[IM]at h
 |d::ds,n::ns,h=>by
  cases d<;>try (simp[IM]at h;done)
  simp only[IM,av,beq_iff_eq]at h;rw[h.1,xN h.2];rfl
def eqW(r:R)(l:List Nat):Bool:=match r with
 |.ow ds=>IM ds l
 |_=>q4
def N8:((pw 4).all λm=>(bB (2^m)).all λa=>eqW (cV [sw m a]) (prd m a)&&eqI (gY [sw m a]) (dg m a:Nat))=qz:=by kernel_rfl
def dQ{m:Nat}(hm:m<=3){a:List Bool}(g:cY m a):cV [sw m a]= .ow (cD (prd m a))/\gY [sw m a]= .ok (.int (dg m a:Nat)):=by
 have T:=D8 N8 (show m<4 by lia) g.2
 rw[av]at T;refine⟨?_,B8 T.2⟩;have h:=T.1;unfold eqW at h;split at h
 ·rename_i b e;rw[e,xN h]
 ·cases h
end SK.k78
namespace SK.k78
open SK PySem
def mQ:eM (p::h) y=if p.1=y then qv p.2 else eM h y:=by
 by_cases e:p.1=y<;>simp[eM,e]
def Ce(n:y∉h.map (·.1)):eM h y=qw:=by
 induction h with
 |nil=>rfl
 |cons p r a=>
  rw[mQ,if_neg (λe=>n (by simp[e])),a λm=>n (by simp[m])]
def xO(nd:(h.map (·.1)).Nodup)(m:p∈h):eM h p.1=qv p.2:=by
 induction h with
 |nil=>cases m
 |cons q r a=>
  rw[ny,mh]at nd;rw[mQ];rcases au.1 m with rfl|m
  ·simp
  ·have b: ¬q.1=p.1:=λe=>nd.1 (by rw[e];exact aq.2 ⟨p,m,rfl⟩)
   rw[if_neg b,a nd.2 m]
def IN:(h.any λp=>decide (p.1=x))=(eM h x).isSome:=by
 induction h with
 |nil=>rfl
 |cons q r a=>
  rw[n4,mQ,a]
  by_cases e:q.1=x<;>simp[e]
def IO(n:(eM h x).isSome=q4):m9 h x d=h++[(x,d)]:=by unfold m9;rw[IN,n];rfl
def cJ(e:g ρ b= .nx ρ' b'):eY g h ρ b=h ρ' b':=by simp[eY,e]
def pT(e:g ρ b= .rt x ρ' b'):eY g h ρ b= .rt x ρ' b':=by simp[eY,e]
def IP(e:g ρ b= .ex c b'):eY g h ρ b= .ex c b':=by simp[eY,e]
def k9(e:f ρ= .ok d):sL f ρ b= .nx ρ b:=by simp[sL,e,zJ]
def pU(e:f ρ= .ok d):HH i f ρ b= .nx (ρ.set (i+1) (.sh d)) b:=by simp[HH,e,zJ]
def N9(e:f ρ= .ok (.bl qz)):mIf f g h ρ b=g ρ b:=by simp[mIf,e]
def LW(e:f ρ= .ok (.bl q4)):mIf f g h ρ b=h ρ b:=by simp[mIf,e]
def Cf(e:f ρ= .ok d):xD f ρ b= .rt (.ok d) ρ b:=by simp[xD,e]
def Cg(e:f ρ= .ow xs):xD f ρ b= .rt (.ow xs) ρ b:=by simp[xD,e]
noncomputable def NM:List Str:=["a","b","u","w","c","d"]
noncomputable def WD:List Str:=["both","either","unlike"]
def Sw(d:D):Prop:= ∃m a,cY m a/\d=sw m a
def pV(hx:x∈NM):dB [.str x]= .ok .non:=by
 simp only[NM,au,k7,or_false]at hx;rcases hx with rfl|rfl|rfl|rfl|rfl|rfl<;>kernel_rfl
def LX(h:Sw d):aM [d]= .ok .non:=by
 obtain⟨m,a,g,rfl⟩:=h;exact mL (mO m a) (mM g)
def zL(r:Rk)(x:Str):R:=match eM r.held x with|some d=>.ok d|none=>.ex 7
def tG(r:Rk)(hx:x∈NM):aF r [.str x]= .pure (zL r x):=by
 unfold aF nE zL;show l7 426 (eY _ _ [.rk 426 r,.sh (.str x)] q4)=_;rw[cJ (k9 ((a9 (x:=.str x) rfl).trans (pV hx)))]
 cases e:eM r.held x with
 |none=>
  rw[IP (c:=7) (b':=q4)]
  ·rfl
  ·rw[N9]
   ·rfl
   ·show R.ok (.bl (qz != (eM r.held x).isSome))=_;rw[e];rfl
 |some d=>
  rw[cJ (ρ':=[.rk 426 r,.sh (.str x)]) (b':=q4)]
  ·rw[pT (Cf (d:=d) ?_)]
   ·rfl
   ·show(match eM r.held x with|some d=>R.ok d|none=>R.bad)=_
    rw[e]
  ·rw[LW]
   ·rfl
   ·show R.ok (.bl (qz != (eM r.held x).isSome))=_;rw[e];rfl
def IQ(r:Rk)(hv:qQ v=q4)(hl:r.held.length<LIM):e9 r [.str x,v]= .chg .non {r with held:=m9 r.held x v}:=by
 unfold e9 nE;show l7 426 (eY _ _ [.rk 426 r,.sh (.str x),.sh v] q4)=_;rw[cJ (ρ':=[.rk 426 {r with held:=m9 r.held x v},.sh (.str x),.sh v]) (b':=qz)]
 ·rfl
 ·rw[LW]
  ·rw[cJ (ρ':=[.rk 426 {r with held:=m9 r.held x v},.sh (.str x),.sh v]) (b':=qz)]
   ·rfl
   ·show(if r.held.length<LIM then setR 426 [.rk 426 r,.sh (.str x),.sh v] {r with held:=m9 r.held x v} else OutM.bad)=_
    rw[if_pos hl];rfl
  ·show R.ok (.bl (qQ v))=_;rw[hv]
def hZ(r:Rk)(w x:Str)(v:D):D:=.tup [.str w,.str x,(eM r.held x).getD .non,v]
def Oa(r:Rk)(hl:r.done.length<LIM)(hs:e9 ⟨r.held,r.done++[hZ r w x v],[]⟩ [.str x,v]= .chg .non ⟨k,r.done++[hZ r w x v],[]⟩):
  B0 r [.str w,.str x,v]= .chg .non ⟨k,r.done++[hZ r w x v],[]⟩:=by
 unfold B0 nE;show l7 426 (eY _ _ [.rk 426 r,.sh (.str w),.sh (.str x),.sh v] q4)=_;rw[cJ (ρ':=[.rk 426 {r with done:=r.done++[hZ r w x v]},.sh (.str w),.sh (.str x),.sh v]) (b':=qz)]
 ·rw[cJ (g:=xE 426) (ρ':=[.rk 426 ⟨r.held,r.done++[hZ r w x v],[]⟩,.sh (.str w),.sh (.str x),.sh v]) (b':=qz) (by rfl)]
  rw[cJ (ρ':=[.rk 426 ⟨k,r.done++[hZ r w x v],[]⟩,.sh (.str w),.sh (.str x),.sh v]) (b':=qz)]
  ·rfl
  ·show(match e9 ⟨r.held,r.done++[hZ r w x v],[]⟩ [.str x,v]with
    |.pure a=>zJ qz a λ_=>.nx [.rk 426 ⟨r.held,r.done++[hZ r w x v],[]⟩,.sh (.str w),.sh (.str x),.sh v] qz
    |.chg _ b=>OutM.nx [.rk 426 b,.sh (.str w),.sh (.str x),.sh v] qz)=_
   rw[hs]
 ·show(if r.done.length<LIM then setR 426 [.rk 426 r,.sh (.str w),.sh (.str x),.sh v] {r with done:=r.done++[hZ r w x v]} else OutM.bad)=_
  rw[if_pos hl];rfl
def Ch(r:Rk)(hv:qQ v=q4)(hl:r.done.length<LIM)(hk:r.held.length<LIM):B0 r [.str w,.str x,v]= .chg .non ⟨m9 r.held x v,r.done++[hZ r w x v],[]⟩:=Oa r hl (IQ ⟨r.held,_,[]⟩ hv hk)
def Sw.nn(h:Sw d):qQ d=q4:=by obtain⟨m,a,_,rfl⟩:=h;rfl
def u9{ρ ρ':Rho}(e0:ρ[0]? =qv (.rk 426 r))(ea:args fs ρ= .ok ds)(ed:B0 r ds= .chg .non r')(eρ:ρ.set 0 (.rk 426 r')=ρ'):sN 426 B0 fs ρ b= .nx ρ' qz:=by
 simp[sN,mUp,e0,NL,ea,ed,eρ]
section
variable (r:Rk) {x y z w:Str} {v v':D}
def LY(hx:x∈NM)(hv:Sw v)(hl:r.done.length<LIM)(hk:r.held.length<LIM):sY r [.str x,v]= .chg (.bl (eM r.held x).isSome) ⟨m9 r.held x v,r.done++[hZ r "put" x v],[]⟩:=by
 unfold sY nE;show l7 426 (eY _ _ [.rk 426 r,.sh (.str x),.sh v,.no] q4)=_;rw[cJ (k9 ((a9 (x:=v) rfl).trans (LX hv))),cJ (k9 ((a9 (x:=.str x) rfl).trans (pV hx)))];rw[cJ (ρ':=[.rk 426 r,.sh (.str x),.sh v,.sh (.bl (eM r.held x).isSome)]) (b':=q4)]
 ·rw[cJ (u9 rfl (ds:=[.str "put",.str x,v]) rfl (Ch r hv.nn hl hk) rfl)];rfl
 ·refine(pU (d:=.bl (eM r.held x).isSome) ?_).trans rfl;show R.ok (.bl (q4 != (eM r.held x).isSome))=_;simp
def IR{m:Nat}{a:List Bool}(g:cY m a)(hx:x∈NM)(hl:r.done.length<LIM)(hk:r.held.length<LIM)(e:eM r.held x=qv (sw m a)):iI r [.str x]= .chg (sw m (a.map (! ·))) ⟨m9 r.held x (sw m (a.map (! ·))),r.done++[hZ r "turn" x (sw m (a.map (! ·)))],[]⟩:=by
 unfold iI nE;show l7 426 (eY _ _ [.rk 426 r,.sh (.str x),.no] q4)=_;rw[cJ (ρ':=[.rk 426 r,.sh (.str x),.sh (sw m (a.map (! ·)))]) (b':=q4)]
 ·rw[cJ (u9 rfl (ds:=[.str "turn",.str x,sw m (a.map (! ·))]) rfl (Ch r rfl hl hk) rfl)]
  rfl
 ·refine(pU (d:=sw m (a.map (! ·))) ((a9 (x:=sw m a) ?_).trans (tD g))).trans rfl
  show(aF r [.str x]).told=_
  rw[tG r hx];unfold zL;rw[e];rfl
def IS(hx:x∈NM)(hl:r.done.length<LIM)(hk:r.held.length<LIM)(hv:qQ v=q4)(e:aB gX [aA 2,bJ 426 0 aF [aA 3],bJ 426 0 aF [aA 4]] [.rk 426 r,.sh (.str x),.sh (.str w),.sh (.str y),.sh (.str z),.no]= .ok v):
  iH r [.str x,.str w,.str y,.str z]= .chg v ⟨m9 r.held x v,r.done++[hZ r "join" x v],[]⟩:=by
 unfold iH nE;show l7 426 (eY _ _ [.rk 426 r,.sh (.str x),.sh (.str w),.sh (.str y),.sh (.str z),.no] q4)=_;rw[cJ (k9 ((a9 (x:=.str x) rfl).trans (pV hx)))];rw[cJ (ρ':=[.rk 426 r,.sh (.str x),.sh (.str w),.sh (.str y),.sh (.str z),.sh v]) (b':=q4) ((pU e).trans rfl)];rw[cJ (u9 rfl (ds:=[.str "join",.str x,v]) rfl (Ch r hv hl hk) rfl)];rfl
def LZ{s:Slot}{x' w':Slot}(hy:y∈NM)(hz:z∈NM):(bJ 426 0 aF [aA 3] [.rk 426 r,x',w',.sh (.str y),.sh (.str z),s]=zL r y)/\(bJ 426 0 aF [aA 4] [.rk 426 r,x',w',.sh (.str y),.sh (.str z),s]=zL r z):=by
 constructor
 ·show(aF r [.str y]).told=_
  rw[tG r hy];rfl
 ·show(aF r [.str z]).told=_
  rw[tG r hz];rfl
noncomputable def opB(w:Str):Bool->Bool->Bool:=if w="both" then(· && ·)else if w="either" then(· || ·)else(· ^^ ·)
def Ci{m:Nat}{a b:List Bool}(g:cY m a)(h:cY m b)(hw:w∈WD):gX [.str w,sw m a,sw m b]= .ok (sw m (pe (opB w) a b)):=by
 simp only[WD,au,k7,or_false]at hw;rcases hw with rfl|rfl|rfl
 ·exact aU (iU ((l9 (by kernel_rfl)).trans (aT ((dF (x:=sw m a) (y:=sw m b) rfl rfl).trans (IE g h)))))
 ·exact aU ((aH ((eT (by kernel_rfl)).trans rfl)).trans (iU ((l9 (by kernel_rfl)).trans (aT ((dF (x:=sw m a) (y:=sw m b) rfl rfl).trans (B6 g h))))))
 ·exact aU ((aH ((eT (by kernel_rfl)).trans rfl)).trans ((aH ((eT (by kernel_rfl)).trans rfl)).trans (iU ((l9 (by kernel_rfl)).trans (aT ((dF (x:=sw m a) (y:=sw m b) rfl rfl).trans (B7 g h)))))))
def Cj(hy:y∈NM)(hz:z∈NM){s x':Slot}(e1:eM r.held y=qv v)(e2:eM r.held z=qv v'):aB gX [aA 2,bJ 426 0 aF [aA 3],bJ 426 0 aF [aA 4]] [.rk 426 r,x',.sh (.str w),.sh (.str y),.sh (.str z),s]=gX [.str w,v,v']:=by
 obtain⟨a,b⟩:=LZ r (s:=s) (x':=x') (w':=.sh (.str w)) hy hz;refine eF rfl (a.trans ?_) (b.trans ?_)
 ·unfold zL;rw[e1]
 ·unfold zL;rw[e2]
end
noncomputable def tx(l:List Nat):D:=.str ⟨l.toArray⟩
def Sg(l:List Nat):Prop:=l.length<=900/\∀c∈l,c<0x110000
def xP(h:Sg l):plain (tx l)=qz:=by
 show(l.toArray.all (· <0x110000))=qz
 simp only[List.all_toArray,kj,decide_eq_true_eq];exact h.2
def L4{a b:List Nat}:((⟨a.toArray⟩:Str)==⟨b.toArray⟩)=decide (a=b):=by
 rw[m3];simp
def L5(a b:List Nat):deq (tx a) (tx b)=decide (a=b):=L4
def IT(h:Sg a)(k:Sg b):tQ (tx a) (tx b)=qz:=fO (xP h) (xP k) (by simp[tx,dep])
def Ob(h:Sg a)(k:Sg b):fC .NotEq (tx a) (tx b)= .ok (.bl (!decide (a=b))):=by rw[iV (IT h k),L5]
def L6(h:a.length<=LIM)(k:b.length<=LIM):mW .Add (tx a) (tx b)= .ok (tx (a++b)):=by
 have c:(⟨a.toArray⟩:Str).length<=LIM:=h
 have d:(⟨b.toArray⟩:Str).length<=LIM:=k
 show(if(⟨a.toArray⟩:Str).length<=LIM/\(⟨b.toArray⟩:Str).length<=LIM then R.ok (.str (⟨a.toArray⟩++⟨b.toArray⟩))else .bad)=_
 rw[if_pos ⟨c,d⟩];show R.ok (.str ⟨a.toArray++b.toArray⟩)=_;rw[jb];rfl
def Sg.app(h:Sg a)(k:Sg b)(l:a.length+b.length<=900):Sg (a++b):=⟨by simpa using l,λc m=>(md.1 m).elim (h.2 c) (k.2 c)⟩
def Ck(ls:List (List Nat)):oS (ls.map tx)=qv (ls.map λl=>(⟨l.toArray⟩:Str)):=by
 induction ls with
 |nil=>rfl
 |cons l r a=>show(oS (r.map tx)).map (⟨l.toArray⟩:: ·)=_;rw[a];rfl
noncomputable def jn(sep:List Nat):List (List Nat)->List Nat
 |[]=>[]
 |[x]=>x
 |x::r=>x++sep++jn sep r
theorem vA(sep:List Nat): ∀ls:List (List Nat),Str.join ⟨sep.toArray⟩ (ls.map λl=>(⟨l.toArray⟩:Str))=⟨(jn sep ls).toArray⟩
 |[]=>rfl
 |[x]=>rfl
 |x::y::r=>by
  show(⟨x.toArray⟩:Str)++⟨sep.toArray⟩++Str.join ⟨sep.toArray⟩ ((y::r).map λl=>(⟨l.toArray⟩:Str))=_
  rw[vA sep (y::r)]
  show(⟨x.toArray++sep.toArray++(jn sep (y::r)).toArray⟩:Str)=_
  rw[jb,jb];rfl
def IU(sep:List Nat)(ls:List (List Nat))(h:JoinOk ⟨sep.toArray⟩ (ls.map λl=>(⟨l.toArray⟩:Str))=qz):F4 ⟨sep.toArray⟩ (.lst (ls.map tx))= .ok (tx (jn sep ls)):=by
 show(match oS (ls.map tx)with|some ts=>if JoinOk ⟨sep.toArray⟩ ts then R.ok (.str (qq ⟨sep.toArray⟩ ts))else .bad|none=>.bad)=_
 rw[Ck]
 show(if JoinOk ⟨sep.toArray⟩ _ then R.ok (.str (qq ⟨sep.toArray⟩ _))else .bad)=_
 rw[if_pos h];rw[show ∀a b,qq a b=Str.join a b from StrLaws.glued_eq_join,vA];rfl
noncomputable def fb(b:Bool):Nat:=if b then 49 else 48
def stx(m:Nat)(bs:List Bool):List Nat:=(48+m)::58::bs.map fb
def sem:(ox "")=⟨([]:List Nat).toArray⟩:=by kernel_rfl
def Oc(b:Bool):fb b<0x110000:=by cases b<;>decide
def Fw(g:cY m bs):Sg (stx m bs):=by
 have:=oO g.1
 refine⟨by simp[stx,g.2];lia,λc k=>?_⟩
 simp only[stx,au,aq]at k;rcases k with rfl|rfl|⟨b,_,rfl⟩
 ·have:=g.1;lia
 ·decide
 ·exact Oc b
def Sg.lim(h:Sg x):x.length<=LIM:=by have:=h.1;unfold LIM;lia
def addR(h:a ρ= .ok (tx x))(k:b ρ= .ok (tx y))(hx:Sg x)(hy:Sg y):aR .Add a b ρ= .ok (tx (x++y)):=(aV h k).trans (L6 hx.lim hy.lim)
def IV(x:List Nat):eZ [tx x]= .ok .non:=by
 refine uY (ρ:=[.sh (tx x)]) ((eT ((pM (b:=qz) ((LG (x:=tx x) rfl) rfl)))).trans rfl)
noncomputable def eqS(r:R)(l:List Nat):Bool:=match r with
 |.ok (.str s)=>s.cps.toList==l
 |_=>q4
noncomputable def ON(r:R)(m:Nat)(a:List Bool):Bool:=match r with
 |.ok (.tup [.int k,.tup ds])=>k==(m:Int)&&IF ds a
 |_=>q4
def L7:((pw 4).all λm=>(bB (2^m)).all λa=>eqS (cN [sw m a]) (stx m a)&&ON (cO [tx (stx m a)]) m a)=qz:=by kernel_rfl
def dR(g:cY m a)(hm:m<=3):cN [sw m a]= .ok (tx (stx m a))/\cO [tx (stx m a)]= .ok (sw m a):=by
 have T:=D8 L7 (show m<4 by lia) g.2
 rw[av]at T;obtain⟨h,k⟩:=T;constructor
 ·unfold eqS at h;split at h
  ·rename_i s e;rw[e]
   have:s=⟨(stx m a).toArray⟩:=by
    obtain⟨c⟩:=s;rw[<-eq_of_beq h]
   rw[this];rfl
  ·cases h
 ·unfold ON at k;split at k
  ·rename_i i b e;rw[av,beq_iff_eq]at k;rw[e,k.1,xL k.2];rfl
  ·cases k
theorem L8{c:Nat}: ∀{p q r s:List Nat},c∉p->c∉q->p++c::r=q++c::s->p=q/\r=s
 |[],[],r,s,_,_,e=>by simp at e;exact⟨rfl,e⟩
 |[],y::q,r,s,_,hq,e=>by simp at e;exact absurd e.1 (λz=>hq (by simp[z]))
 |x::p,[],r,s,hp,_,e=>by simp at e;exact absurd e.1 (λz=>hp (by simp[z]))
 |x::p,y::q,r,s,hp,hq,e=>by
  simp only[lh,m4]at e;obtain⟨b,a⟩:=L8 (λm=>hp (.tail _ m)) (λm=>hq (.tail _ m)) e.2
  exact⟨by rw[e.1,b],a⟩
def mR:jn [c] (x::y::r)=x++c::jn [c] (y::r):=by simp[jn]
theorem Fx{c:Nat}: ∀{ls ks:List (List Nat)},ls≠[]->ks≠[]->(∀p∈ls,c∉p)->(∀p∈ks,c∉p)->jn [c] ls=jn [c] ks->ls=ks
 |[],_,h,_,_,_,_=>absurd rfl h
 |_,[],_,h,_,_,_=>absurd rfl h
 |[x],[y],_,_,_,_,e=>by simp only[jn]at e;rw[e]
 |[x],y::z::r,_,_,h,_,e=>by
  rw[mR]at e
  have e:x=y++c::jn [c] (z::r):=e
  exact absurd (by rw[e];simp) (h x (.head _))
 |x::z::r,[y],_,_,_,h,e=>by
  rw[mR]at e
  have e:x++c::jn [c] (z::r)=y:=e
  exact absurd (by rw[<-e];simp) (h y (.head _))
 |x::x'::r,y::y'::s,_,_,h,k,e=>by
  rw[mR,mR]at e;obtain⟨b,a⟩:=L8 (h x (.head _)) (k y (.head _)) e;rw[b,Fx (by simp) (by simp) (λp m=>h p (.tail _ m)) (λp m=>k p (.tail _ m)) a]
def Ee(x y:Str):ql x y≠[]:=by
 unfold ql;split
 ·simp
 ·split
  ·simp
  ·simp[fw]
def Ef(hn:ls≠[])(hf: ∀p∈ls,c∉p)(e:jn [c] ls=x):ql ⟨x.toArray⟩ ⟨#[c]⟩=ls.map λl=>(⟨l.toArray⟩:Str):=by
 have f:=StrLaws.split_free ⟨x.toArray⟩ c;have a:=StrLaws.join_split ⟨x.toArray⟩ ⟨#[c]⟩;have d:=Ee ⟨x.toArray⟩ ⟨#[c]⟩;generalize ql ⟨x.toArray⟩ ⟨#[c]⟩=S at f a d
 have b:S=(S.map λs=>s.cps.toList).map λl=>(⟨l.toArray⟩:Str):=by
  rw[pd];exact(List.map_id' S).symm.trans (i4 λs _=>rfl)
 have g:jn [c] (S.map λs=>s.cps.toList)=x:=by
  rw[b]at a
  have:=(vA [c] (S.map λs=>s.cps.toList)).symm.trans a
  simpa using congrArg (λs:Str=>s.cps.toList) this
 rw[b,Fx (ls:=S.map λs=>s.cps.toList) (ks:=ls) (by simpa using d) hn (λp m=>by obtain⟨s,h,rfl⟩:=aq.1 m;exact f s h) hf (g.trans e.symm)]
theorem xQ{c:Nat}: ∀ls:List (List Nat),jn [c] (ls++[[]])=ls.flatMap λl=>l++[c]
 |[]=>rfl
 |[x]=>by simp[jn]
 |x::y::r=>by
  have:=xQ (c:=c) (y::r)
  show jn [c] (x::(y::r++[[]]))=_;rw[show(y::r++[[]])=y::(r++[[]]) from rfl,mR,show y::(r++[[]])=y::r++[[]] from rfl,this]
  simp
def Eg(xs:List D)(d:D):zH (xs++[d]) qw (qv (-1))=xs:=by
 have h:cT (xs++[d]).length (xs++[d]).length (qv (-1))=xs.length:=by
  simp[cT];lia
 unfold zH;rw[h];simp[cT]
def Pz:(ox " = ")=⟨[32,61,32].toArray⟩:=by kernel_rfl
def IW(h:32∉lab):qU ⟨(lab++32::61::32::eU).toArray⟩ " = "=[tx lab,.str " = ",tx eU]:=by
 have a: ∀i,StrLaws.At ⟨(lab++32::61::32::eU).toArray⟩ ⟨[32,61,32].toArray⟩ (⟨(lab++32::61::32::eU).toArray⟩:Str).length i↔i+3<=lab.length+(eU.length+3)/\((lab++32::61::32::eU).drop i).take 3=[32,61,32]:=λi=>by
  unfold StrLaws.At;rw[StrLaws.subAt_eq];simp[Str.length]
 have c:=(a lab.length).2 ⟨by lia,by simp⟩
 unfold qU;rw[Pz];rcases StrLaws.occ_head ⟨(lab++32::61::32::eU).toArray⟩ ⟨[32,61,32].toArray⟩ 1 (aj _)with ⟨_,b⟩|⟨i,r,e,m,b⟩
 ·exact absurd c (b _)
 ·have d:i=lab.length:=by
   rcases Nat.lt_trichotomy i lab.length with z|z|z
   ·have:=((a i).1 m).2
    rw[List.drop_append_of_le_length (by lia)]at this
    have l:lab.drop i=lab[i]::lab.drop (i+1):=ew z
    rw[l]at this
    have j:lab[i]=32:=(List.cons.inj this).1
    exact absurd (by rw[<-j];exact lm z) h
   ·exact z
   ·exact absurd c (b _ z)
  rw[e,d];show [D.str (jf _ 0 lab.length),.str _,.str (jf _ (lab.length+3) _)]=_
  have f:jf ⟨(lab++32::61::32::eU).toArray⟩ 0 lab.length=⟨lab.toArray⟩:=by
   simp[jf]
  have g:jf ⟨(lab++32::61::32::eU).toArray⟩ (lab.length+3) (⟨(lab++32::61::32::eU).toArray⟩:Str).length=⟨eU.toArray⟩:=by
   simp only[jf,List.extract_toArray,List.extract_eq_drop_take]
   congr 2
   rw[<-List.drop_drop];simp[Str.length];exact List.take_of_length_le (by lia)
  rw[f,g];rfl
abbrev En:=List Nat×Nat×List Bool
noncomputable def lbl(e:En):Str:=⟨e.1.toArray⟩
noncomputable def val(e:En):D:=sw e.2.1 e.2.2
def ln(e:En):List Nat:=e.1++32::61::32::stx e.2.1 e.2.2
def Cl(e:En):Prop:=lbl e∈NM/\cY e.2.1 e.2.2/\e.2.1<=3
def txt(es:List En):List Nat:=es.flatMap λe=>ln e++[10]
def L9:(NM.all λs=> !s.cps.toList.contains 32&&(!s.cps.toList.contains 10&&(decide (s.cps.toList.length<=4)&&s.cps.toList.all λc=>decide (c<128))))=qz:=by kernel_rfl
def vB(h:Cl e):32∉e.1/\10∉e.1/\e.1.length<=4/\∀c∈e.1,c<128:=by
 have:=zAd L9 _ h.1
 simp only[av,Bool.not_eq_true',decide_eq_true_eq,kj]at this;obtain⟨b,a,f,d⟩:=this;refine⟨λm=>?_,λm=>?_,f,d⟩
 ·rw[il.mpr (show 32∈(lbl e).cps.toList from m)]at b;cases b
 ·rw[il.mpr (show 10∈(lbl e).cps.toList from m)]at a;cases a
def Ma:10∉stx m a:=by
 intro h;simp only[stx,au,aq]at h;rcases h with h|h|⟨b,_,h⟩
 ·lia
 ·lia
 ·unfold fb at h;split at h<;>lia
def IX(g:cY m a):(stx m a).length<=18:=by
 have:=oO g.1
 have b:=g.2;simp only[stx,bu,ao]
 lia
def Od(h:Cl e):10∉ln e:=by
 intro k;simp only[ln,md,au]at k;rcases k with k|k|k|k|k
 ·exact(vB h).2.1 k
 ·lia
 ·lia
 ·lia
 ·exact Ma k
def Eh(h:Cl e):Sg (ln e)/\(ln e).length<=25:=by
 have d:=(vB h).2.2.1;have b:=IX h.2.1
 have a:(ln e).length<=25:=by simp only[ln,bq,bu];lia
 refine⟨⟨by lia,λc m=>?_⟩,a⟩
 simp only[ln,md,au]at m;rcases m with k|k|k|k|k
 ·have:=(vB h).2.2.2 c k;lia
 ·lia
 ·lia
 ·lia
 ·exact(Fw h.2.1).2 c k
def Fy(h: ∀e∈es,Cl e)(hl:es.length<=30):Sg (txt es):=by
 have a: ∀es:List En,(∀e∈es,Cl e)->(txt es).length<=es.length*26:=by
  intro es
  induction es with
  |nil=>intro _;simp[txt]
  |cons e r b=>
   intro h;have g:=(Eh (h e (.head _))).2;have d:=b λe m=>h e (.tail _ m)
   simp only[txt,List.flatMap_cons,bq,bu,List.length_nil]at d ⊢
   lia
 refine⟨by have:=a es h;lia,λc m=>?_⟩
 obtain⟨e,f,k⟩:=List.mem_flatMap.1 m;rcases md.1 k with k|k
 ·exact(Eh (h e f)).1.2 c k
 ·rw[ji.1 k];decide
theorem Fz: ∀ls:List (List Nat),jn [] ls=ls.flatten
 |[]=>rfl
 |[x]=>by simp[jn]
 |x::y::r=>by
  show x++[]++jn [] (y::r)=_;rw[Fz (y::r)];simp
def Cn{ls:List (List Nat)}(h:ls.flatten.length<=900):JoinOk ⟨([]:List Nat).toArray⟩ (ls.map λl=>(⟨l.toArray⟩:Str))=qz:=by
 have e: ∀(l:List (List Nat)) (z:Nat),(l.map λl=>(⟨l.toArray⟩:Str)).foldl (λ(a:Nat) b=>a+b.length+(⟨([]:List Nat).toArray⟩:Str).length) z=z+l.flatten.length:=by
  intro l
  induction l with
  |nil=>intro z;rfl
  |cons c r d=>intro z;show qe _ (z+c.length+0) _=_;rw[d];simp;lia
 unfold JoinOk;rw[List.foldl_toArray',e];rw[List.length_flatten]at h;simp[Builtin.Str.tooLong,sizeLine];lia
 all_goals rfl
def jI(r:Rk)(hl:r.held.length<64):bM r []= .pure (.ow ((gC (r.held.map (·.1))).map D.str)):=by
 unfold bM nE;show l7 426 (eY _ _ [.rk 426 r] q4)=_
 have e:CY 426 0 [.rk 426 r]= .ow ((gC (r.held.map (·.1))).map D.str):=by
  show(if r.held.length<64 then R.ow ((gC (r.held.map (·.1))).map D.str)else .bad)=_
  rw[if_pos hl]
 rw[pT (Cg e)];rfl
def PB:(D.str "\n")=tx [10]:=by kernel_rfl
def PD:(D.str " = ")=tx [32,61,32]:=by kernel_rfl
def Oe:Sg [10]:=⟨by decide,λc m=>by rw[ji.1 m];decide⟩
def Mb:Sg [32,61,32]:=⟨by decide,λc m=>by simp at m;rcases m with rfl|rfl|rfl<;>decide⟩
def Co(h:ρ[i]? =qv (.rk A r))(k:M r []= .pure x):bJ A i M [] ρ=x:=by
 show yF A i (λr=>(M r []).told) ρ=x
 unfold yF;rw[h]
 show(if A=A then(M r []).told else .bad)=x
 rw[if_pos rfl,k];rfl
def Cp(h:ρ[i]? =qv (.rk A r))(hf:f ρ= .ok d)(k:M r [d]= .pure x):bJ A i M [f] ρ=x:=by
 show yF A i (λr=>mX [f] ρ λa=>(M r a).told) ρ=x
 unfold yF;rw[h]
 show(if A=A then mX [f] ρ (λa=>(M r a).told)else .bad)=x
 rw[if_pos rfl];simp[mX,args,hf,RA.cons,RA.then,k,RM.told]
def kM(hs:gC (r.held.map (·.1))=es.map lbl)(hl:r.held.length<64)(he: ∀e∈es,Cl e/\eM r.held (lbl e)=qv (val e))(hn:es.length<=30):bT r []= .pure (.ok (tx (txt es))):=by
 have p:aO 0 [0] (bJ 426 0 bM []) qw (aR .Add (aR .Add (aR .Add (aA 0) (rK (.str " = "))) (aB cN [bJ 426 1 aF [aA 0]])) (rK (.str "\n"))) [.rk 426 r]= .ow (es.map λe=>tx (ln e++[10])):=by
  refine jH (L:=es) (h:=λe=>D.str (lbl e)) (.inr (.inr ((Co rfl (jI r hl)).trans (by rw[hs,pd];rfl)))) λe q=>?_
  obtain⟨ok,l⟩:=he e q
  have b:bJ 426 1 aF [aA 0] (.sh (.str (lbl e))::jK [0] [.rk 426 r])= .ok (val e):=by
   refine Cp (r:=r) rfl rfl ((tG r ok.1).trans ?_);unfold zL;rw[l]
  have i:Sg e.1:=⟨by have:=(vB ok).2.2.1;lia,λc m=>by have:=(vB ok).2.2.2 c m;lia⟩
  have n:=(vB ok).2.2.1;have j:=addR (ρ:=.sh (.str (lbl e))::jK [0] [.rk 426 r]) (a:=aA 0) (x:=e.1) rfl (show rK (.str " = ") _= .ok (tx [32,61,32]) from congrArg R.ok PD) i Mb
  have g:=addR j ((a9 b).trans (dR ok.2.1 ok.2.2).1) (i.app Mb (by simp;lia)) (Fw ok.2.1)
  have d:e.1++[32,61,32]++stx e.2.1 e.2.2=ln e:=by simp[ln]
  rw[d]at g;exact addR g (show rK (.str "\n") _= .ok (tx [10]) from congrArg R.ok PB) (Eh ok).1 Oe
 have o:Af "" (aO 0 [0] (bJ 426 0 bM []) qw (aR .Add (aR .Add (aR .Add (aA 0) (rK (.str " = "))) (aB cN [bJ 426 1 aF [aA 0]])) (rK (.str "\n")))) [.rk 426 r]= .ok (tx (txt es)):=by
  show(aO _ _ _ _ _ _).bind (F4 "")=_
  rw[p,sem]
  have f:(es.map λe=>ln e++[10]).flatten=txt es:=by simp[txt,List.flatMap]
  have:=IU [] (es.map λe=>ln e++[10]) (Cn (by rw[f];exact(Fy (λe m=>(he e m).1) hn).1))
  rw[Fz,f,pd]at this;exact this
 unfold bT nE;show l7 426 (eY _ _ [.rk 426 r] q4)=_;rw[pT (Cf o)];rfl
def IY(h:g (ds.map Slot.sh++ak (N-ds.length) .no)= .nx ρ)(hr:ρ[i]? =qv (.rk A r)):Jl A N g i ds= .rk r:=by simp[Jl,h,hr,Mz]
def Ei(h:ρ[i]? =qv (.rk A r))(hg:g ρ= .ok y)(hf:f ρ= .ok (.str q))(hl:r.held.length<LIM):zB A i f g ρ= .nx (ρ.set i (.rk A {r with held:=m9 r.held q y})):=by
 simp[zB,hg,hf,f8,h,hl]
def rdB:FS:=(aS (f9 3 (Ag (aA 2) (rK (.str " = "))))
  (aS (sIf (iZ (aB fG [rIx (aI 3) (rK (.int 0))]))
  (eE 5)
  (bN))
  (zB 426 1 (rIx (aI 3) (rK (.int 0))) (aB cO [rIx (aI 3) (rK (.int 2))]))))
def jJ(hx:x∈NM):fG [.str x]= .ok (.bl qz):=by
 simp only[NM,au,k7,or_false]at hx;rcases hx with rfl|rfl|rfl|rfl|rfl|rfl<;>kernel_rfl
noncomputable def pr(e:En):Str×D:=(lbl e,val e)
def Mc(ok:Cl e)(hh:(eM acc (lbl e)).isSome=q4)(hl:acc.length<LIM):
  rdB [.sh T,.rk 426 ⟨acc,[],[]⟩,.sh (tx (ln e)),s3]= .nx [.sh T,.rk 426 ⟨acc++[pr e],[],[]⟩,.sh (tx (ln e)),.sh (.tup [tx e.1,.str " = ",tx (stx e.2.1 e.2.2)])]:=by
 have b:Ag (aA 2) (rK (.str " = ")) [.sh T,.rk 426 ⟨acc,[],[]⟩,.sh (tx (ln e)),s3]= .ok (.tup [tx e.1,.str " = ",tx (stx e.2.1 e.2.2)]):=by
  show(if((ox " = ").length==0)=q4/\(⟨(ln e).toArray⟩:Str).length<=LIM then R.ok (.tup (qU ⟨(ln e).toArray⟩ " = "))else .bad)=_
  rw[if_pos ⟨by kernel_rfl,(Eh ok).1.lim⟩,show ln e=e.1++32::61::32::stx e.2.1 e.2.2 from rfl,IW (vB ok).1]
 refine(aH (eP b)).trans ?_
 have a:rIx (aI 3) (rK (.int 0)) [.sh T,.rk 426 ⟨acc,[],[]⟩,.sh (tx (ln e)),.sh (.tup [tx e.1,.str " = ",tx (stx e.2.1 e.2.2)])]= .ok (.str (lbl e)):=(iG (x:=.tup [tx e.1,.str " = ",tx (stx e.2.1 e.2.2)]) (y:=.int ((0:Nat):Int)) rfl rfl).trans (u6 rfl)
 have d:rIx (aI 3) (rK (.int 2)) [.sh T,.rk 426 ⟨acc,[],[]⟩,.sh (tx (ln e)),.sh (.tup [tx e.1,.str " = ",tx (stx e.2.1 e.2.2)])]= .ok (tx (stx e.2.1 e.2.2)):=(iG (x:=.tup [tx e.1,.str " = ",tx (stx e.2.1 e.2.2)]) (y:=.int ((2:Nat):Int)) rfl rfl).trans (u6 rfl)
 have c:aB cO [rIx (aI 3) (rK (.int 2))] [.sh T,.rk 426 ⟨acc,[],[]⟩,.sh (tx (ln e)),.sh (.tup [tx e.1,.str " = ",tx (stx e.2.1 e.2.2)])]= .ok (val e):=by
  exact(a9 d).trans (dR ok.2.1 ok.2.2).2
 refine(aH ((eT ((pM ((a9 a).trans (jJ ok.1))).trans rfl)).trans rfl)).trans ?_;refine(Ei (r:=⟨acc,[],[]⟩) rfl c a hl).trans ?_;rw[IO hh];rfl
def Ej(h:t d ρ=qv ρ1)(k:b ρ1= .nx ρ2):hX t b (d::ds) ρ=hX t b ds ρ2:=by simp only[hX,h,k]
theorem FA{T:D}: ∀(es:List En) (acc:List (Str×D)) (s2 s3:Slot),(∀e∈es,Cl e)->((acc++es.map pr).map (·.1)).Nodup->acc.length+es.length<=1000->
  ∃s2' s3',hX (yE [2] qz) rdB (es.map λe=>tx (ln e)) [.sh T,.rk 426 ⟨acc,[],[]⟩,s2,s3]= .nx [.sh T,.rk 426 ⟨acc++es.map pr,[],[]⟩,s2',s3']
 |[],acc,s2,s3,_,_,_=>⟨s2,s3,by simp[hX]⟩
 |e::es,acc,s2,s3,h,nd,hl=>by
  have a:(eM acc (lbl e)).isSome=q4:=by
   rw[Ce]
   ·rfl
   ·intro m;rw[List.map_append,List.nodup_append]at nd;exact nd.2.2 _ m _ (by simp[pr]) rfl
  obtain⟨s2',s3',k⟩:=FA (T:=T) es (acc++[pr e]) (.sh (tx (ln e))) (.sh (.tup [tx e.1,.str " = ",tx (stx e.2.1 e.2.2)])) (λx m=>h x (.tail _ m)) (by simpa using nd) (by simp at hl ⊢;lia)
  refine⟨s2',s3',(Ej (ρ1:=[.sh T,.rk 426 ⟨acc,[],[]⟩,.sh (tx (ln e)),s3]) rfl (Mc (h e (.head _)) a (by unfold LIM;simp at hl;lia))).trans ?_⟩
  rw[k];simp
def tH(he: ∀e∈es,Cl e)(nd:(es.map lbl).Nodup)(hs:gC (es.map lbl)=es.map lbl)(hn:es.length<=30):eS [tx (txt es)]= .rk ⟨es.map pr,[],[]⟩:=by
 have f:=Fy he hn
 have keys:(es.map pr).map (·.1)=es.map lbl:=by rw[pd];rfl
 have j:t9 (qT (aA 0) (rK (.str "\n"))) qw (qv (Ml (rK (.int 1)))) [.sh (tx (txt es)),.rk 426 ⟨[],[],[]⟩,.no,.no]= .ow (es.map λe=>tx (ln e)):=by
  have c:qT (aA 0) (rK (.str "\n")) [.sh (tx (txt es)),.rk 426 ⟨[],[],[]⟩,.no,.no]= .ow ((es.map λe=>tx (ln e))++[tx []]):=by
   show(if(ox "\n").length=1/\(⟨(txt es).toArray⟩:Str).length<=LIM then R.ow ((ql ⟨(txt es).toArray⟩ "\n").map D.str)else .bad)=_
   have d:(ox "\n")=⟨#[10]⟩:=by kernel_rfl
   have a:ql ⟨(txt es).toArray⟩ ⟨#[10]⟩=(es.map ln++[[]]).map λ(l:List Nat)=>(⟨l.toArray⟩:Str):=by
    refine Ef (by simp) (λp m=>?_) (by rw[xQ];simp[txt,List.flatMap_map])
    rcases md.1 m with m|m
    ·obtain⟨e,b,rfl⟩:=aq.1 m;exact Od (he e b)
    ·rw[ji.1 m];simp
   rw[if_pos ⟨by kernel_rfl,f.lim⟩,d,a]
   simp[tx,Function.comp_def]
  unfold t9;rw[c];show R.ow (zH ((es.map λe=>tx (ln e))++[tx []]) qw (qv (-1)))=_
  rw[Eg]
 obtain⟨g,i,n⟩:=FA (T:=tx (txt es)) es [] .no .no he (by rw[q8,keys];exact nd) (by simp;lia)
 have q:bT ⟨es.map pr,[],[]⟩ []= .pure (.ok (tx (txt es))):=kM (by rw[show((⟨es.map pr,[],[]⟩:Rk).held.map (·.1))=es.map lbl from keys];exact hs) (by simp;lia) (λe b=>⟨he e b,xO (h:=es.map pr) (by rw[keys];exact nd) (List.mem_map_of_mem b)⟩) hn
 have o:bH .NotEq (bJ 426 1 bT []) (aA 0) [.sh (tx (txt es)),.rk 426 ⟨es.map pr,[],[]⟩,g,i]= .ok (.bl q4):=by
  refine(bP (Co (r:=⟨es.map pr,[],[]⟩) rfl q) (show aA 0 _= .ok (tx (txt es)) from rfl)).trans ((Ob f f).trans ?_)
  simp
 exact IY (ρ:=[.sh (tx (txt es)),.rk 426 ⟨es.map pr,[],[]⟩,g,i]) ((aH (eJ ((a9 (x:=tx (txt es)) rfl).trans (IV _)))).trans ((aH (ρ':=[.sh (tx (txt es)),.rk 426 ⟨[],[],[]⟩,.no,.no]) rfl).trans ((aH ((Iw (.inr (.inr j))).trans n)).trans ((aH ((eT o).trans rfl)).trans rfl)))) rfl
def pW(h:a ρ=r)(k:b ρ=r)(p:rPl r=qz):bH .NotEq a b ρ= .ok (.bl q4):=by
 cases r with
 |ok d=>
  have p:plain d=qz/\dep d<=60:=by simpa[rPl]using p
  rw[bP h k,iV (fO p.1 p.1 p.2),fP _ p.1];rfl
 |ow e=>
  have p:plain (.lst e)=qz/\dep (.lst e)<=60:=by simpa[rPl]using p
  rw[pL h k,iV (fO p.1 p.1 p.2),fP _ p.1];rfl
 |ex c=>cases p
 |bad=>cases p
def lA(h:a ρ= .ok x):aB f [aB g [a]] ρ=aB f [aB g [aA 0]] [.sh x]:=by simp[aB,mX,args,h,aA,RA.cons,RA.then]
def xR(hm:m<=3)(la:a.length=2^m):mes m a=due m a:=by
 rcases(show m=0\/m=1\/m=2\/m=3 by lia)with rfl|rfl|rfl|rfl
 ·exact ki.1 t0 a (dW la)
 ·exact ki.1 t1 a (dW la)
 ·exact ki.1 t2 a (dW la)
 ·match a,la with
  |[b0,b1,b2,b3,b4,b5,b6,b7],_=>
   have h:[b4,b5,b6,b7]∈bB 4:=dW rfl
   cases b0<;>cases b1<;>cases b2<;>cases b3
   ·exact ki.1 Pm _ h
   ·exact ki.1 Pv _ h
   ·exact ki.1 Pq _ h
   ·exact ki.1 N2 _ h
   ·exact ki.1 Po _ h
   ·exact ki.1 N0 _ h
   ·exact ki.1 Pt _ h
   ·exact ki.1 N4 _ h
   ·exact ki.1 Pn _ h
   ·exact ki.1 Pw _ h
   ·exact ki.1 Pr _ h
   ·exact ki.1 N3 _ h
   ·exact ki.1 Pp _ h
   ·exact ki.1 N1 _ h
   ·exact ki.1 Pu _ h
   ·exact ki.1 N5 _ h
def PF:((pw 4).all λm=>([]::TT m).all λl=>l.all λr=>match r with|.ok .non=>qz|r=>rPl r)=qz:=by kernel_rfl
theorem pX{α:Type}: ∀{L:List (List α)} {i:Nat},L.getD i []∈[]::L
 |[],i=>by simp
 |x::L,0=>by simp
 |x::L,i+1=>by
  have h:=pX (L:=L) (i:=i);rcases au.1 h with h|h
  ·rw[List.getD_cons_succ,h];simp
  ·rw[List.getD_cons_succ];exact .tail _ (.tail _ h)
def Of(hm:m<=3)(la:a.length=2^m)(mr:r∈mes m a)(hr:r≠ .ok .non):rPl r=qz:=by
 have t:=zAd (zAd PF m (zPd (by lia))) _ (pX (L:=TT m) (i:=cl m (tF a)))
 rw[xR hm la]at mr;have b:=zAd t r mr;split at b
 ·exact absurd rfl hr
 ·exact b
def Md(hm:m<=3):chk m=qz:=by
 rcases(show m=0\/m=1\/m=2\/m=3 by lia)with rfl|rfl|rfl|rfl
 ·exact k0
 ·exact k1
 ·exact k2
 ·exact k3
def keep(hm:m<=3)(la:a.length=2^m)(ho:o∈oP m)(lt:t.length=m):mes m (mvB m a o t)=mes m a:=by
 have h:=zAd (zAd (zAd (Md hm) o ho) t (dW lt)) a (dW la)
 have e:mvB m a o t=(pos m o t).map λi=>a.getD i q4:=by
  simp[mvB,pos,Function.comp_def]
 rw[xR hm (a:=mvB m a o t) Ft,xR hm la];unfold due;rw[e,Nat.eq_of_beq_eq_true h]
def PH(x y:Bool):fC .NotEq (.bl x) (.bl y)= .ok (.bl (x != y)):=by cases x<;>cases y<;>rfl
theorem tJ: ∀x y:List Bool,p7 (x.map bD) (y.map bD)=decide (x=y)
 |[],[]=>rfl
 |[],_::_=>by simp[p7]
 |_::_,[]=>by simp[p7]
 |b::x,c::y=>by
  simp only[ny,p7,tJ x y,m4]
  cases b<;>cases c<;>simp[bD,deq,b2i]
def Cq{l k:List Nat}(nd:l.Nodup)(up:k.Pairwise (· < ·))(h: ∀x,x∈l↔x∈k):kO (l.map λ(i:Nat)=>(i:Int))=k.map λ(i:Nat)=>(i:Int):=by
 have p:l.Perm k:=(List.perm_ext_iff_of_nodup nd (up.imp λh=>by lia)).2 h
 have q:(k.map λ(i:Nat)=>(i:Int)).Pairwise (· <= ·):=kf.2 (up.imp λh=>by lia)
 exact(nX (p.map _).symm q).symm
def Ek(h:l.length<64):iM [.lst (cD l)]= .ow ((kO (l.map λ(i:Nat)=>(i:Int))).map D.int):=by
 have e:cD l=(l.map λ(i:Nat)=>(i:Int)).map D.int:=by simp[cD]
 rw[e];show kR ((l.map λ(i:Nat)=>(i:Int)).map D.int)=_
 unfold kR;rw[mB]
 show(if(l.map λ(i:Nat)=>(i:Int)).length<64 then _ else _)=_
 rw[if_pos (by simpa using h)]
def Cr(l:List Nat)(k:Nat):fC .In (.int (k:Nat)) (.lst (cD l))= .ok (.bl (l.contains k)):=by
 have b:zG (.int k) (cD l)=qz:=by
  unfold zG;rw[kj];intro y a;obtain⟨i,_,rfl⟩:=aq.1 a;rfl
 have f:((cD l).any λy=>deq y (.int k))=l.contains k:=by
  rw[m3,List.any_eq_true,il];constructor
  ·rintro⟨y,a,e⟩;obtain⟨i,d,rfl⟩:=aq.1 a
   have:(i:Int)=(k:Int):=by simpa[deq]using e
   have:i=k:=by lia
   exact this▸d
  ·intro c;exact⟨_,aq.2 ⟨k,c,rfl⟩,by simp[deq]⟩
 simp[fC,items,b,f]
def Cs(l:List Nat):fC .NotEq (.lst (cD l)) (.lst (cD l))= .ok (.bl q4):=by
 have p:plain (.lst (cD l))=qz:=Ed l
 have b:nL (cD l)=0:=jE λx a=>by obtain⟨i,_,rfl⟩:=aq.1 a;rfl
 rw[iV (fO p p (by simp[dep,b])),fP _ p];rfl
def FD:(prd m a).Pairwise (· < ·):=List.pairwise_lt_range.filter _
def Ct:(prd m a).length<=2^m:=by
 have:=List.length_filter_le (Wd (kP a)) (pw (2^m))
 simpa[prd,odW]using this
def j5:k∈prd m a↔k<2^m/\Wd (kP a) k=qz:=by simp[prd,odW]
def IZ(ga:cY m a)(gb:cY m b):kO (((prd m a++prd m b).filter λk=>(prd m a).contains k != (prd m b).contains k).map λ(i:Nat)=>(i:Int))=(prd m (pe (· ^^ ·) a b)).map λ(i:Nat)=>(i:Int):=by
 have j: ∀{c:List Bool},(prd m c).Nodup:=FD.imp λh=>by lia
 have d: ∀{c:List Bool} {k:Nat},k<2^m->(prd m c).contains k=Wd (kP c) k:=λ{c k} hk=>by
  rw[m3,il,j5];exact⟨λh=>h.2,λh=>⟨hk,h⟩⟩
 refine Cq ?_ FD λx=>?_
 ·rw[List.filter_append];refine List.nodup_append.2 ⟨j.sublist List.filter_sublist,j.sublist List.filter_sublist,λx g y n e=>?_⟩
  subst e;obtain⟨p,q1⟩:=l8.1 g;obtain⟨l,_⟩:=l8.1 n;rw[il.2 p,il.2 l]at q1;cases q1
 ·rw[l8,j5,Fv ga gb];constructor
  ·rintro⟨g,q⟩
   have f:x<2^m:=by
    rcases md.1 g with z|z
    ·exact(j5.1 z).1
    ·exact(j5.1 z).1
   rw[d f,d f]at q;exact⟨f,by simpa using q⟩
  ·rintro⟨f,q⟩;refine⟨?_,by rw[d f,d f];simpa using q⟩
   rw[md,j5,j5]
   cases o:Wd (kP a) x with
   |true=>exact .inl ⟨f,rfl⟩
   |false=>rw[o]at q;exact .inr ⟨f,by simpa using q⟩
def zF(h:n<50):n<LIM:=by unfold LIM;lia
def I0(h1:plain d=qz)(h2:dep d<=60):fC .NotEq d d= .ok (.bl q4):=by
 rw[iV (fO h1 h1 h2),fP _ h1];rfl
def Me(m:Nat)(a b:List Bool):fC .Eq (sw m a) (sw m b)= .ok (.bl (decide (a=b))):=by
 rw[jZ (fO (mO m a) (mO m b) (mP m b))];show R.ok (.bl (decide ((m:Int)=(m:Int))&&(p7 (a.map bD) (b.map bD)&&qz)))=_;rw[tJ];simp
def Cu(e0:ρ[i]? =qv (.rk A r))(ea:args fs ρ= .ok ds)(em:M r ds= .pure (.ow xs))(eg:g ρ= .ow ys)(ec:fC op (.lst xs) (.lst ys)= .ok (.bl b)):y8 A i M fs op g ρ k=k b ρ:=by simp[y8,jC,e0,ea,em,f8,eg,ec,Jj]
def lB(e0:ρ[i]? =qv (.rk A r))(ea:args fs ρ= .ok ds)(em:M r ds= .chg d r')(eg:g (ρ.set i (.rk A r'))= .ok d2)(ec:fC op d d2= .ok (.bl b)):y8 A i M fs op g ρ k=k b (ρ.set i (.rk A r')):=by simp[y8,jC,e0,ea,em,f8,eg,ec,Jj]
def El(e:f ρ= .ok (.bl b)):BP f ρ k=k b ρ:=by simp[BP,e,f8,Jj]
def lC(e0:ρ[i]? =qv (.rk A r))(ea:args fs ρ= .ok ds)(em:M r ds= .chg d r'):Ff A i M fs ρ= .nx (ρ.set i (.rk A r')):=by simp[Ff,jC,e0,ea,em]
def tK(e0:ρ[i]? =qv (.rk A r))(ea:args fs ρ= .ok ds)(em:M r ds= .chg d r'):zA j A i M fs ρ= .nx ((ρ.set i (.rk A r')).set j (.sh d)):=by simp[zA,jC,e0,ea,em]
def Cv(h: ∀k,c ρ k=k q4 ρ'):DU c a b ρ=b ρ':=by unfold DU;rw[h];rfl
def FE(hx:x∈NM)(hv:Sw v)(hl:dn.length<50)(e:m9 h x v=h')(hk:Nat.blt h.length 50=qz): ∃d,d.length=dn.length+1/\sY ⟨h,dn,[]⟩ [.str x,v]= .chg (.bl (eM h x).isSome) ⟨h',d,[]⟩:=⟨dn++[hZ ⟨h,dn,[]⟩ "put" x v],by simp,by rw[<-e];exact LY ⟨h,dn,[]⟩ hx hv (zF hl) (zF (im hk))⟩
def pY(hx:x∈NM)(g:cY m a)(hl:dn.length<50)(e0:eM h x=qv (sw m a))(ec:a.map (! ·)=b)(e:m9 h x (sw m b)=h')(hk:Nat.blt h.length 50=qz): ∃d,d.length=dn.length+1/\iI ⟨h,dn,[]⟩ [.str x]= .chg (sw m b) ⟨h',d,[]⟩:=⟨dn++[hZ ⟨h,dn,[]⟩ "turn" x (sw m b)],by simp,by rw[<-e, <-ec];exact IR ⟨h,dn,[]⟩ g hx (zF hl) (zF (im hk)) e0⟩
def pZ(hx:x∈NM)(hy:y∈NM)(hz:z∈NM)(hw:w∈WD)(g:cY m a)(g2:cY m b)(hl:dn.length<50)(e1:eM h y=qv (sw m a))(e2:eM h z=qv (sw m b))(ec:pe (opB w) a b=c)(e:m9 h x (sw m c)=h')(hk:Nat.blt h.length 50=qz):
  ∃d,d.length=dn.length+1/\iH ⟨h,dn,[]⟩ [.str x,.str w,.str y,.str z]= .chg (sw m c) ⟨h',d,[]⟩:=⟨dn++[hZ ⟨h,dn,[]⟩ "join" x (sw m c)],by simp,by rw[<-e, <-ec];exact IS ⟨h,dn,[]⟩ hx (zF hl) (zF (im hk)) rfl ((Cj ⟨h,dn,[]⟩ hy hz e1 e2).trans (Ci g g2 hw))⟩
def Cw(h:a ρ= .ow x)(k:b ρ= .ow y):gN [a,b] ρ= .ok (.tup [.lst x,.lst y]):=by simp[gN,mX,args,h,k,RA.cons,RA.then]
def Cy{α:Type}{L:List α}{lb:α->Str}{p:α->Bool}(hi:it ρ= .ok (.lst (L.map λe=>D.str (lb e)))\/it ρ= .ok (.tup (L.map λe=>D.str (lb e)))\/it ρ= .ow (L.map λe=>D.str (lb e)))(h: ∀e∈L,c (.sh (.str (lb e))::jK cs ρ)= .ok (.bl (p e))):
  aO 0 cs it (qv c) (aA 0) ρ= .ow ((L.filter p).map λe=>D.str (lb e)):=by
 refine k8 hi ?_;rw[hW (p:=p) (q:=λe=>D.str (lb e)) λe a=>?_]
 have:=h e a
 simp only[dG,tgt,lh,q8,this]
 cases p e<;>rfl
theorem xS: ∀{a b:List Bool},a.length=b.length->pe (· ^^ ·) (pe (· ^^ ·) a b) b=a
 |[],[],_=>rfl
 |x::a,y::b,h=>by
  have:=xS (a:=a) (b:=b) (by simpa using h)
  simp[this]
 |[],_::_,h=>by cases h
 |_::_,[],h=>by cases h
theorem FF: ∀{a b:List Bool},pe (· || ·) (a.map (! ·)) (b.map (! ·))=(pe (· && ·) a b).map (! ·)
 |[],_=>by simp
 |_::_,[]=>by simp
 |x::a,y::b=>by
  have:=FF (a:=a) (b:=b)
  simp[this]
def xT(a:List Bool):(a.map (! ·)).map (! ·)=a:=by
 rw[pd];exact(i4 λb _=>Bool.not_not b).trans (List.map_id _)
def opU:opB "unlike"=(· ^^ ·):=by kernel_rfl
def opC:opB "both"=(· && ·):=by kernel_rfl
def opD:opB "either"=(· || ·):=by kernel_rfl
def nA:("a":Str)∈NM:=.head _
def nB:("b":Str)∈NM:=.tail _ (.head _)
def nU:("u":Str)∈NM:=.tail _ (.tail _ (.head _))
def nW:("w":Str)∈NM:=.tail _ (.tail _ (.tail _ (.head _)))
def nC:("c":Str)∈NM:=.tail _ (.tail _ (.tail _ (.tail _ (.head _))))
def nD:("d":Str)∈NM:=.tail _ (.tail _ (.tail _ (.tail _ (.tail _ (.head _)))))
def wU:("unlike":Str)∈WD:=.tail _ (.tail _ (.head _))
def wC:("both":Str)∈WD:=.head _
def wD:("either":Str)∈WD:=.tail _ (.head _)
def Mf(ns:List Int): ∃m:Nat,m<=3/\fS [Sc ns,.int ((0:Nat):Int)]= .ok (.int m):=by
 obtain⟨p,e,l⟩:=dC ns 0 (m:=7) (by decide)
 have a:aB aK [aA 0,aA 1,rK (.int 7)] [.sh (Sc ns),.sh (.int ((0:Nat):Int))]= .ok (.int p):=(eF (y:=.int ((0:Nat):Int)) (z:=.int ((7:Nat):Int)) rfl rfl rfl).trans e
 have:p=0\/p=1\/p=2\/p=3\/p=4\/p=5\/p=6:=by lia
 rcases this with rfl|rfl|rfl|rfl|rfl|rfl|rfl
 ·exact⟨0,by lia,aU (aT ((jD rfl a).trans (dO rfl)))⟩
 ·exact⟨1,by lia,aU (aT ((jD rfl a).trans (dO rfl)))⟩
 ·exact⟨2,by lia,aU (aT ((jD rfl a).trans (dO rfl)))⟩
 ·exact⟨2,by lia,aU (aT ((jD rfl a).trans (dO rfl)))⟩
 ·exact⟨2,by lia,aU (aT ((jD rfl a).trans (dO rfl)))⟩
 ·exact⟨3,by lia,aU (aT ((jD rfl a).trans (dO rfl)))⟩
 ·exact⟨3,by lia,aU (aT ((jD rfl a).trans (dO rfl)))⟩
section
variable{m:Nat}{a b x c d e:List Bool}
noncomputable abbrev H2(A B:D):List (Str×D):=[("a",A),("b",B)]
noncomputable abbrev H3(A B X:D):List (Str×D):=[("a",A),("b",B),("u",X)]
noncomputable abbrev H5(A B X W C:D):List (Str×D):=[("a",A),("b",B),("u",X),("w",W),("c",C)]
noncomputable abbrev H4(A B X W:D):List (Str×D):=[("a",A),("b",B),("u",X),("w",W)]
noncomputable abbrev H6(A B X W C E:D):List (Str×D):=[("a",A),("b",B),("u",X),("w",W),("c",C),("d",E)]
noncomputable abbrev L3(a b x:List Bool):List (Str×List Bool):=[("a",a),("b",b),("u",x)]
noncomputable def vC(a b x:List Bool):List D:=((L3 a b x).filter λe=>decide (e.2=a)).map λe=>D.str e.1
noncomputable abbrev k4(m:Nat)(a b x:List Bool):List (Str×D):=H4 (sw m a) (sw m b) (sw m x) (sw m a)
noncomputable abbrev k6(m:Nat)(a b x c d:List Bool):List (Str×D):=H6 (sw m a) (sw m b) (sw m x) (sw m a) (sw m c) (sw m d)
def Ja:oN ⟨k4 m a b x,dn,[]⟩ [.str "w"]= .pure (.ow (vC a b x)):=by
 have j:bJ 426 0 aF [aA 1] [.rk 426 ⟨k4 m a b x,dn,[]⟩,.sh (.str "w"),.no]= .ok (sw m a):=by
  refine Cp (r:=⟨k4 m a b x,dn,[]⟩) rfl rfl ((tG _ nW).trans ?_);unfold zL;rw[show eM (k4 m a b x) "w"=qv (sw m a) from by kernel_rfl]
 have g:aO 0 [1,0,2] (bJ 426 0 bM []) (qv (iK (bH .NotEq (aA 0) (aA 1)) (bH .Eq (qY 426 2 (aA 0)) (aA 3)))) (aA 0) [.rk 426 ⟨k4 m a b x,dn,[]⟩,.sh (.str "w"),.sh (sw m a)]= .ow (vC a b x):=by
  refine(Cy (L:=L3 a b x++[(("w":Str),a)]) (lb:=(·.1)) (p:=λe=>decide (e.1≠("w":Str))&&decide (e.2=a)) (.inr (.inr ((Co rfl (jI _ (by show 4<64;decide))).trans ?_))) λe c=>?_).trans ?_
  ·rw[show gC ((k4 m a b x).map (·.1))=(["a","b","u","w"]:List Str) from by kernel_rfl];rfl
  ·have f: ∀ (l:Str) (w:List Bool),decide (l≠("w":Str))=qz->fC .NotEq (.str l) (.str "w")= .ok (.bl qz)->eM (k4 m a b x) l=qv (sw m w)->
     iK (bH .NotEq (aA 0) (aA 1)) (bH .Eq (qY 426 2 (aA 0)) (aA 3)) [.sh (.str l),.sh (.str "w"),.rk 426 ⟨k4 m a b x,dn,[]⟩,.sh (sw m a)]= .ok (.bl (decide (l≠("w":Str))&&decide (w=a))):=λl w o i h=>by
    refine(mC ((bP (x:=.str l) (y:=.str "w") rfl rfl).trans i)).trans ((bP (x:=sw m w) (y:=sw m a) ?_ rfl).trans ((Me m w a).trans (by rw[o];rfl)))
    show(match eM (k4 m a b x) l with|some d=>R.ok d|none=>R.bad)=_
    rw[h]
   simp only[lh,q8,au,k7,or_false]at c;rcases c with rfl|rfl|rfl|rfl
   ·exact f "a" a (by kernel_rfl) (by kernel_rfl) (by kernel_rfl)
   ·exact f "b" b (by kernel_rfl) (by kernel_rfl) (by kernel_rfl)
   ·exact f "u" x (by kernel_rfl) (by kernel_rfl) (by kernel_rfl)
   ·refine(sR (b:=bH .Eq (qY 426 2 (aA 0)) (aA 3)) ((bP (x:=.str "w") (y:=.str "w") rfl rfl).trans (by kernel_rfl))).trans ?_
    simp
  ·have q:((L3 a b x++[(("w":Str),a)]).filter λe=>decide (e.1≠("w":Str))&&decide (e.2=a))=(L3 a b x).filter λe=>decide (e.2=a):=by
    have n: ∀e∈L3 a b x,decide (e.1≠("w":Str))=qz:=λe c=>by
     simp only[au,k7,or_false]at c;rcases c with rfl|rfl|rfl<;>kernel_rfl
    rw[List.filter_append,List.filter_congr (q:=λe=>decide (e.2=a)) (λe c=>by rw[n e c];rfl)]
    simp
   rw[q];rfl
 unfold oN nE;show l7 426 (eY _ _ [.rk 426 _,.sh (.str "w"),.no] q4)=_;rw[cJ (ρ':=[.rk 426 ⟨k4 m a b x,dn,[]⟩,.sh (.str "w"),.sh (sw m a)]) (b':=q4) ((pU j).trans rfl),pT (Cg g)];rfl
def Em(h2:ρ[2]? =qv (.rk 426 ⟨k4 m a b x,dn,[]⟩))(h3:ρ[3]? =qv (.sh (sw m a))):
  aO 0 [3,2] (gN [rK (.str "a"),rK (.str "b"),rK (.str "u")]) (qv (bH .Eq (bJ 426 2 aF [aA 0]) (aA 1))) (aA 0) ρ= .ow (vC a b x):=by
 have c:jK [3,2] ρ=[.sh (sw m a),.rk 426 ⟨k4 m a b x,dn,[]⟩]:=by simp[jK,h2,h3]
 refine Cy (L:=L3 a b x) (lb:=(·.1)) (.inr (.inl rfl)) λe f=>?_
 rw[c]
 have d: ∀(l:Str) (w:List Bool),l∈NM->eM (k4 m a b x) l=qv (sw m w)->
   bH .Eq (bJ 426 2 aF [aA 0]) (aA 1) [.sh (.str l),.sh (sw m a),.rk 426 ⟨k4 m a b x,dn,[]⟩]= .ok (.bl (decide (w=a))):=λl w h g=>by
  refine(bP (x:=sw m w) (y:=sw m a) (Cp (r:=⟨k4 m a b x,dn,[]⟩) rfl rfl ((tG _ h).trans ?_)) rfl).trans (Me m w a);unfold zL;rw[show eM _ l=qv (sw m w) from g]
 simp only[au,k7,or_false]at f;rcases f with rfl|rfl|rfl
 ·exact d "a" a nA (by kernel_rfl)
 ·exact d "b" b nB (by kernel_rfl)
 ·exact d "u" x nU (by kernel_rfl)
def Eo:fC .NotEq (.lst (vC a b x)) (.lst (vC a b x))= .ok (.bl q4):=by
 have p:plain (.lst (vC a b x))=qz:=eL.2 λy d=>by
  obtain⟨e,c,rfl⟩:=aq.1 d;have c:=(l8.1 c).1;simp only[au,k7,or_false]at c;rcases c with rfl|rfl|rfl<;>kernel_rfl
 have q:nL (vC a b x)=0:=jE λy d=>by obtain⟨e,_,rfl⟩:=aq.1 d;rfl
 exact I0 p (by simp[dep,q])
def Ep(ga:cY m a)(gb:cY m b)(hm:m<=3)(h6:ρ[6]? =qv (.sh (.lst (cD (prd m a)))))(h7:ρ[7]? =qv (.sh (.lst (cD (prd m b)))))(h5:aA 5 ρ= .ok (sw m (pe (· ^^ ·) a b))):
  bH .NotEq (aB cV [aA 5]) (aB iM [aO 0 [6,7] (aR .Add (aA 6) (aA 7)) (qv (bH .NotEq (bH .In (aA 0) (aA 1)) (bH .In (aA 0) (aA 2)))) (aA 0)]) ρ= .ok (.bl q4):=by
 have q:=oO (show m<=4 by lia)
 have l:=Ct (m:=m) (a:=a);have o:=Ct (m:=m) (a:=b)
 have p:2^m<=8:=Nat.pow_le_pow_right (n:=2) (by decide) hm
 have h:aA 6 ρ= .ok (.lst (cD (prd m a))):=by simp[aA,h6]
 have j:aA 7 ρ= .ok (.lst (cD (prd m b))):=by simp[aA,h7]
 have d:aR .Add (aA 6) (aA 7) ρ= .ow (cD (prd m a++prd m b)):=by
  refine(aV h j).trans ?_
  show(if(cD (prd m a)).length+(cD (prd m b)).length<=LIM then R.ow (cD (prd m a)++cD (prd m b))else .bad)=_
  rw[if_pos (by simp only[cD,ao,LIM];lia)]
  simp[cD]
 have c:jK [6,7] ρ=[.sh (.lst (cD (prd m a))),.sh (.lst (cD (prd m b)))]:=by simp[jK,h6,h7]
 have f:aO 0 [6,7] (aR .Add (aA 6) (aA 7)) (qv (bH .NotEq (bH .In (aA 0) (aA 1)) (bH .In (aA 0) (aA 2)))) (aA 0) ρ= .ow (cD ((prd m a++prd m b).filter λk=>(prd m a).contains k != (prd m b).contains k)):=by
  refine Ec (.inr d) λk _=>?_
  rw[c];exact(bP ((bP rfl rfl).trans (Cr (prd m a) k)) ((bP rfl rfl).trans (Cr (prd m b) k))).trans (PH _ _)
 have g:((prd m a++prd m b).filter λk=>(prd m a).contains k != (prd m b).contains k).length<64:=by
  have:=List.length_filter_le (λk=>(prd m a).contains k != (prd m b).contains k) (prd m a++prd m b)
  rw[bq]at this
  lia
 have e:=(cR f).trans (Ek g);rw[IZ ga gb]at e;refine(pL ((a9 h5).trans (dQ hm (ga.zip _ gb)).1) e).trans ?_
 have:((prd m (pe (· ^^ ·) a b)).map λ(i:Nat)=>(i:Int)).map D.int=cD (prd m (pe (· ^^ ·) a b)):=by simp[cD]
 rw[this];exact Cs _
def PJ{x y:Int}(h:x<=y):fC .Gt (.int x) (.int y)= .ok (.bl q4):=by
 show R.ok (.bl (decide (y<x)))=_;rw[decide_eq_false (by lia)]
def PM:((pw 4).all λm=>([]::TT m).all λl=>(l.take 3).all λ(r:R)=>match r with|.ok .non=>q4|_=>qz)=qz:=by kernel_rfl
def PN:((pw 3).all λm=>([]::TT m).all λ(l:List R)=>match(l[3]? :Option R)with|some (R.ok D.non)=>q4|_=>qz)=qz:=by kernel_rfl
def Og:((pw 3).all λm=>(oP m).all λo=>(bB m).all λt=>(bB (2^m)).all λa=>eqB (jG [sw m a,sw m (mvB m a o t)]))=qz:=by kernel_rfl
def Mg(hm:m<3)(g:cY m a)(ho:o∈oP m)(lt:t.length=m):jG [sw m a,sw m (mvB m a o t)]= .ok (.bl qz):=
 IH (zAd (Fs Og hm ho lt) a (dW g.2))
def kept(hm:m<=3)(la:a.length=2^m)(le:e.length=2^m)(k:mes m e=mes m a)(h3:aA 3 ρ= .ok (sw m a))(h10:aA 10 ρ= .ok (sw m e)):
  bH .NotEq (aB iB [aB gZ [aA 10]]) (aB iB [aB gZ [aA 3]]) ρ= .ok (.bl q4)/\bH .NotEq (aB cW [aA 10]) (aB cW [aA 3]) ρ= .ok (.bl q4)/\
  bH .NotEq (aB iB [aB mE [aA 10]]) (aB iB [aB mE [aA 3]]) ρ= .ok (.bl q4)/\(m<3->bH .NotEq (aB cI [aA 3]) (aB cI [aA 10]) ρ= .ok (.bl q4)):=by
 have b: ∀r∈mes m a,r≠ .ok .non->rPl r=qz:=λr c j=>Of hm la c j
 have d:=xR hm la;have f:=k;simp only[mes,m4,and_true]at f;obtain⟨k1,k2,k3,k4⟩:=f
 have nn: ∀r∈(due m a).take 3,r≠ .ok .non:=λr c=>by
  have t:=zAd (zAd PM m (zPd (by lia))) _ (pX (L:=TT m) (i:=cl m (tF a)))
  have:=zAd t r c
  rintro rfl;cases this
 refine⟨pW ((lA h10).trans k3) (lA h3) (b _ (by simp[mes]) ?_),pW ((a9 h10).trans k1) (a9 h3) (b _ (by simp[mes]) ?_),pW ((lA h10).trans k2) (lA h3) (b _ (by simp[mes]) ?_),λh=>?_⟩
 ·exact nn _ (by rw[<-d];simp[mes])
 ·exact nn _ (by rw[<-d];simp[mes])
 ·exact nn _ (by rw[<-d];simp[mes])
 ·rw[if_pos h,if_pos h]at k4;refine pW (a9 h3) ((a9 h10).trans k4) (b _ (by simp[mes,h]) ?_)
  have g:(due m a)[3]? =qv (cI [sw m a]):=by rw[<-d];simp[mes,h]
  have t:=zAd (zAd PN m (zPd h)) _ (pX (L:=TT m) (i:=cl m (tF a)));intro q;rw[q]at g;rw[show(TT m).getD (cl m (tF a)) []=due m a from rfl,g]at t
  cases t
end
abbrev st(ns:List Int)(m:Nat)(r:Rk)(a b:List Bool)(s5 s6 s7 s8 s9 s10 s11:Slot):Rho:=[.sh (Sc ns),.sh (.int (m:Nat)),.rk 426 r,.sh (sw m a),.sh (sw m b),s5,s6,s7,s8,s9,s10,s11]
noncomputable def es(m:Nat)(a b x c d:List Bool):List En:=[([97],m,a),([98],m,b),([99],m,c),([100],m,d),([117],m,x),([119],m,a)]
def Oh(hm:m<=3)(ga:cY m a)(gb:cY m b)(gx:cY m x)(gc:cY m c)(gd:cY m d): ∀e∈es m a b x c d,Cl e/\eM (k6 m a b x c d) (lbl e)=qv (val e):=λe f=>by
 simp only[es,au,k7,or_false]at f;rcases f with rfl|rfl|rfl|rfl|rfl|rfl
 ·exact⟨⟨by rw[show lbl ([97],m,a)="a" from by kernel_rfl];exact nA,ga,hm⟩,by kernel_rfl⟩
 ·exact⟨⟨by rw[show lbl ([98],m,b)="b" from by kernel_rfl];exact nB,gb,hm⟩,by kernel_rfl⟩
 ·exact⟨⟨by rw[show lbl ([99],m,c)="c" from by kernel_rfl];exact nC,gc,hm⟩,by kernel_rfl⟩
 ·exact⟨⟨by rw[show lbl ([100],m,d)="d" from by kernel_rfl];exact nD,gd,hm⟩,by kernel_rfl⟩
 ·exact⟨⟨by rw[show lbl ([117],m,x)="u" from by kernel_rfl];exact nU,gx,hm⟩,by kernel_rfl⟩
 ·exact⟨⟨by rw[show lbl ([119],m,a)="w" from by kernel_rfl];exact nW,ga,hm⟩,by kernel_rfl⟩
def Cz:(es m a b x c d).map lbl=(["a","b","c","d","u","w"]:List Str):=by kernel_rfl
def vD:gC ((k6 m a b x c d).map (·.1))=(es m a b x c d).map lbl:=by kernel_rfl
def Oi:gC ((es m a b x c d).map lbl)=(es m a b x c d).map lbl:=by rw[Cz];kernel_rfl
def Oj:(["a","b","c","d","u","w"]:List Str).Nodup:=by decide+kernel
def Er(hm:m<=3)(ga:cY m a)(gb:cY m b)(gx:cY m x)(gc:cY m c)(gd:cY m d):
  aS (Il 11 426 eS [bJ 426 2 bT []]) (bX (bH .Eq (aO 0 [11] (bJ 426 2 bM []) qw (bJ 426 1 aF [aA 0])) (aO 0 [2] (bJ 426 2 bM []) qw (bJ 426 1 aF [aA 0]))))
   (st ns m ⟨k6 m a b x c d,dn,[]⟩ a b s5 s6 s7 s8 s9 s10 .no)= .rt (.ok (.bl qz)):=by
 have ok:=Oh hm ga gb gx gc gd;have j: ∀e∈es m a b x c d,Cl e:=λe f=>(ok e f).1
 have l:((es m a b x c d).map lbl).Nodup:=by rw[Cz];exact Oj
 have n:bJ 426 2 bT [] (st ns m ⟨k6 m a b x c d,dn,[]⟩ a b s5 s6 s7 s8 s9 s10 .no)= .ok (tx (txt (es m a b x c d))):=
  Co rfl (kM (r:=⟨k6 m a b x c d,dn,[]⟩) vD (by show 6<64;decide) ok (by show 6<=30;decide))
 have o:Il 11 426 eS [bJ 426 2 bT []] (st ns m ⟨k6 m a b x c d,dn,[]⟩ a b s5 s6 s7 s8 s9 s10 .no)= .nx (st ns m ⟨k6 m a b x c d,dn,[]⟩ a b s5 s6 s7 s8 s9 s10 (.rk 426 ⟨(es m a b x c d).map pr,[],[]⟩)):=by
  simp only[Il,args,n,RA.cons];rw[tH j l Oi (by show 6<=30;decide)]
  rfl
 refine(aH o).trans ?_
 have g:bJ 426 2 bM [] (st ns m ⟨k6 m a b x c d,dn,[]⟩ a b s5 s6 s7 s8 s9 s10 (.rk 426 ⟨(es m a b x c d).map pr,[],[]⟩))= .ow ((es m a b x c d).map λe=>D.str (lbl e)):=by
  refine(Co rfl (jI _ (by show 6<64;decide))).trans ?_
  rw[vD,pd];rfl
 have s:aO 0 [11] (bJ 426 2 bM []) qw (bJ 426 1 aF [aA 0]) (st ns m ⟨k6 m a b x c d,dn,[]⟩ a b s5 s6 s7 s8 s9 s10 (.rk 426 ⟨(es m a b x c d).map pr,[],[]⟩))= .ow ((es m a b x c d).map val):=
  jH (h:=λe=>D.str (lbl e)) (.inr (.inr g)) λe f=>Cp (r:=⟨(es m a b x c d).map pr,[],[]⟩) rfl rfl ((tG _ (j e f).1).trans (by
   unfold zL;rw[show eM _ (lbl e)=qv (val e) from xO (h:=(es m a b x c d).map pr) (by rw[pd];exact l) (List.mem_map_of_mem f)]))
 have t:aO 0 [2] (bJ 426 2 bM []) qw (bJ 426 1 aF [aA 0]) (st ns m ⟨k6 m a b x c d,dn,[]⟩ a b s5 s6 s7 s8 s9 s10 (.rk 426 ⟨(es m a b x c d).map pr,[],[]⟩))= .ow ((es m a b x c d).map val):=
  jH (h:=λe=>D.str (lbl e)) (.inr (.inr g)) λe f=>Cp (r:=⟨k6 m a b x c d,dn,[]⟩) rfl rfl ((tG _ (j e f).1).trans (by
   unfold zL;rw[show eM _ (lbl e)=qv (val e) from(ok e f).2]))
 refine aT ((pL s t).trans ?_)
 have p:plain (.lst ((es m a b x c d).map val))=qz:=eL.2 λy i=>by obtain⟨e,_,rfl⟩:=aq.1 i;exact mO _ _
 have q:dep (.lst ((es m a b x c d).map val))<=60:=by
  have:=mP m a;have:=mP m b;have:=mP m c;have:=mP m d;have:=mP m x
  have z: ∀v:List Bool,dep (sw m v)=2:=λv=>by
   have:=jE λy i=>(j4 (xJ v y i)).2
   simp[sw,dep,nL,this]
  simp[es,val,dep,nL,z]
 rw[jZ (fO p p q),fP _ p]
def Mh:fC .NotEq (.lst [.str "a",.str "b",.str "c",.str "d",.str "u",.str "w"]) (.lst [.str "a",.str "b",.str "c",.str "d",.str "u",.str "w"])= .ok (.bl q4):=by kernel_rfl
noncomputable abbrev aX(a b:List Bool):=pe (· ^^ ·) a b
noncomputable abbrev aC(a b:List Bool):=pe (· && ·) a b
noncomputable abbrev aN(a:List Bool):=a.map (! ·)
noncomputable abbrev q3(m:Nat)(a b:List Bool):List (Str×D):=H3 (sw m a) (sw m b) (sw m (aX a b))
noncomputable abbrev q5(m:Nat)(a b p q:List Bool):List (Str×D):=H5 (sw m p) (sw m q) (sw m (aX a b)) (sw m a) (sw m (aC a b))
abbrev q6(m:Nat)(a b p q:List Bool):List (Str×D):=H6 (sw m p) (sw m q) (sw m (aX a b)) (sw m a) (sw m (aC a b)) (sw m (aN (aC a b)))
abbrev s7(ns:List Int)(m:Nat)(h:List (Str×D))(dn:List D)(a b:List Bool)(s8 s9 s10:Slot):Rho:=st ns m ⟨h,dn,[]⟩ a b (.sh (sw m (aX a b))) (.sh (.lst (cD (prd m a)))) (.sh (.lst (cD (prd m b)))) s8 s9 s10 .no
def law_true(ns:List Int):NX [.lst (ns.map D.int)]= .ok (.bl qz):=by
 obtain⟨m,g,en⟩:=Mf ns;obtain⟨a,e,U⟩:=xK ns 10 (m:=m) (by lia)
 obtain⟨b,f,eb⟩:=xK ns 50 (m:=m) (by lia)
 obtain⟨o,t,w,I,lt,em⟩:=Eb ns 100 g
 have G:a.length=b.length:=by rw[e.2,f.2]
 have S:cY m (aX a b):=e.zip _ f;have u:cY m (aC a b):=e.zip _ f;have gd:cY m (aN (aC a b)):=u.not;have ge:cY m (mvB m a o t):=⟨e.1,Ft⟩;obtain⟨L,i,q1⟩:=FE (h:=[]) (h':=[("a",sw m a)]) (dn:=[]) nA ⟨m,a,e,rfl⟩ (by decide) (by kernel_rfl) rfl
 obtain⟨P,j,q2⟩:=FE (h:=[("a",sw m a)]) (h':=H2 (sw m a) (sw m b)) (dn:=L) nB ⟨m,b,f,rfl⟩ (by rw[i];decide) (by kernel_rfl) rfl
 obtain⟨N,l,H⟩:=pZ (h:=H2 (sw m a) (sw m b)) (h':=q3 m a b) (c:=aX a b) (dn:=P) nU nA nB wU e f (by rw[j,i];decide) (by kernel_rfl) (by kernel_rfl) (by rw[opU]) (by kernel_rfl) rfl
 obtain⟨s,n,Y⟩:=pZ (h:=q3 m a b) (h':=k4 m a b (aX a b)) (c:=a) (dn:=N) nW nU nB wU S f (by simp[l,j,i]) (by kernel_rfl) (by kernel_rfl) (by rw[opU];exact xS G) (by kernel_rfl) rfl
 obtain⟨Q,p,A⟩:=pZ (h:=k4 m a b (aX a b)) (h':=q5 m a b a b) (c:=aC a b) (dn:=s) nC nA nB wC e f (by simp[n,l,j,i]) (by kernel_rfl) (by kernel_rfl) (by rw[opC]) (by kernel_rfl) rfl
 obtain⟨O,v,B⟩:=pY (h:=q5 m a b a b) (h':=q5 m a b (aN a) b) (b:=aN a) (dn:=Q) nA e (by simp[p,n,l,j,i]) (by kernel_rfl) rfl (by kernel_rfl) rfl
 obtain⟨M,E,q7⟩:=pY (h:=q5 m a b (aN a) b) (h':=q5 m a b (aN a) (aN b)) (b:=aN b) (dn:=O) nB f (by simp[v,p,n,l,j,i]) (by kernel_rfl) rfl (by kernel_rfl) rfl
 obtain⟨C,J,W⟩:=pZ (h:=q5 m a b (aN a) (aN b)) (h':=q6 m a b (aN a) (aN b)) (c:=aN (aC a b)) (dn:=M) nD nA nB wD e.not f.not (by simp[E,v,p,n,l,j,i]) (by kernel_rfl) (by kernel_rfl) (by rw[opD];exact FF) (by kernel_rfl) rfl
 obtain⟨K,X,q9⟩:=pY (h:=q6 m a b (aN a) (aN b)) (h':=q6 m a b a (aN b)) (b:=a) (dn:=C) nA e.not (by simp[J,E,v,p,n,l,j,i]) (by kernel_rfl) (xT a) (by kernel_rfl) rfl
 obtain⟨d,_,q0⟩:=pY (h:=q6 m a b a (aN b)) (h':=q6 m a b a b) (b:=b) (dn:=K) nB f.not (by simp[X,J,E,v,p,n,l,j,i]) (by kernel_rfl) (xT b) (by kernel_rfl) rfl
 refine aU ?_
 show(aS _ _) [.sh (Sc ns),.no,.no,.no,.no,.no,.no,.no,.no,.no,.no,.no]=_
 have p1:DY 1 2 426 (aB fS [aA 0,rK (.int 0)]) [.sh (Sc ns),.no,.no,.no,.no,.no,.no,.no,.no,.no,.no,.no]= .nx [.sh (Sc ns),.sh (.int (m:Nat)),.rk 426 ⟨[],[],[]⟩,.no,.no,.no,.no,.no,.no,.no,.no,.no]:=by
  show f8 _ _ _=_;rw[(dF (x:=Sc ns) (y:=.int ((0:Nat):Int)) rfl rfl).trans en];rfl
 refine(aH p1).trans ((aH (ρ':=st ns m ⟨[],[],[]⟩ a b .no .no .no .no .no .no .no) (sQ (ds:=[sw m a,sw m b]) (uZ ((eF (x:=Sc ns) (y:=.int ((10:Nat):Int)) (z:=.int (m:Nat)) rfl rfl rfl).trans U) ((eF (x:=Sc ns) (y:=.int ((50:Nat):Int)) (z:=.int (m:Nat)) rfl rfl rfl).trans eb)) rfl)).trans ?_);refine(aH (lC (r:=⟨[],[],[]⟩) rfl (ds:=[.str "a",sw m a]) rfl q1)).trans ((aH (lC (r:=⟨[("a",sw m a)],L,[]⟩) rfl (ds:=[.str "b",sw m b]) rfl q2)).trans ?_);refine(aH (tK (r:=⟨H2 (sw m a) (sw m b),P,[]⟩) rfl (ds:=[.str "u",.str "unlike",.str "a",.str "b"]) rfl H)).trans ?_;refine(aH (ρ':=st ns m ⟨k4 m a b (aX a b),s,[]⟩ a b (.sh (sw m (aX a b))) .no .no .no .no .no .no) ((Cv λk=>(lB (r:=⟨q3 m a b,N,[]⟩) rfl (ds:=[.str "w",.str "unlike",.str "u",.str "b"]) rfl Y rfl (D7 rfl)).trans rfl).trans rfl)).trans ?_
 refine(aH ((Cv λk=>Cu (r:=⟨k4 m a b (aX a b),s,[]⟩) rfl (ds:=[.str "w"]) rfl Ja (Em rfl rfl) Eo).trans rfl)).trans ?_
 refine(aH (ρ':=s7 ns m (k4 m a b (aX a b)) s a b .no .no .no) (sQ (ds:=[.lst (cD (prd m a)),.lst (cD (prd m b))]) (Cw ((a9 (x:=sw m a) rfl).trans (dQ g e).1) ((a9 (x:=sw m b) rfl).trans (dQ g f).1)) rfl)).trans ?_;refine(aH ((eT (Ep e f g rfl rfl rfl)).trans rfl)).trans ?_;refine(aH (tK (r:=⟨k4 m a b (aX a b),s,[]⟩) rfl (ds:=[.str "c",.str "both",.str "a",.str "b"]) rfl A)).trans ?_;refine(aH (lC (r:=⟨q5 m a b a b,Q,[]⟩) rfl (ds:=[.str "a"]) rfl B)).trans ((aH (lC (r:=⟨q5 m a b (aN a) b,O,[]⟩) rfl (ds:=[.str "b"]) rfl q7)).trans ?_)
 have Z:dg m (aC a b)<=dg m a+dg m b:=LV g e f
 refine(aH (ρ':=s7 ns m (q6 m a b (aN a) (aN b)) C a b (.sh (sw m (aC a b))) .no .no) ((Cv λk=>?_).trans rfl)).trans ?_
 ·unfold cOr;rw[lB (r:=⟨q5 m a b (aN a) (aN b),M,[]⟩) rfl (ds:=[.str "d",.str "either",.str "a",.str "b"]) rfl W ((a9 (x:=sw m (aC a b)) rfl).trans (tD u)) (D7 rfl),if_neg (by decide)]
  exact El ((bP ((a9 (x:=sw m (aC a b)) rfl).trans (dQ g u).2) ((aV ((a9 (x:=sw m a) rfl).trans (dQ g e).2) ((a9 (x:=sw m b) rfl).trans (dQ g f).2)).trans rfl)).trans (PJ (by lia)))
 refine(aH (ρ':=s7 ns m (q6 m a b a b) d a b (.sh (sw m (aC a b))) .no .no) ((Cv λk=>?_).trans rfl)).trans ?_
 ·unfold cOr;rw[lB (r:=⟨q6 m a b (aN a) (aN b),C,[]⟩) rfl (ds:=[.str "a"]) rfl q9 rfl (D7 rfl),if_neg (by decide)]
  exact(lB (r:=⟨q6 m a b a (aN b),K,[]⟩) rfl (ds:=[.str "b"]) rfl q0 rfl (D7 rfl)).trans rfl
 refine(aH ((Cv λk=>Cu (r:=⟨q6 m a b a b,d,[]⟩) rfl (ds:=[]) rfl ((jI _ (by show 6<64;decide)).trans (by rw[vD (d:=aN (aC a b)),Cz];rfl)) rfl Mh).trans rfl)).trans ?_
 have q:aB fH [aA 0,rK (.int 100),aA 1] (s7 ns m (q6 m a b a b) d a b (.sh (sw m (aC a b))) .no .no)= .ok (mvD o t w):=(eF (x:=Sc ns) (y:=.int ((100:Nat):Int)) (z:=.int (m:Nat)) rfl rfl rfl).trans em
 refine(aH (eP (d:=mvD o t q4) (LR ((iG q rfl).trans rfl) ((iG q rfl).trans rfl) rfl))).trans ((aH (eP ((dF (x:=sw m a) (y:=mvD o t q4) rfl rfl).trans (Ea g e I lt)))).trans ?_);obtain⟨k1,k2,k3,k4⟩:=kept g e.2 ge.2 (keep g e.2 I lt) (ρ:=s7 ns m (q6 m a b a b) d a b (.sh (sw m (aC a b))) (.sh (mvD o t q4)) (.sh (sw m (mvB m a o t)))) rfl rfl;refine(aH ((eT ?_).trans rfl)).trans ((aH ((eT ((BW k1).trans k2)).trans rfl)).trans ((aH ((eT k3).trans rfl)).trans (Er g e f S u gd)))
 by_cases T:m<3
 ·exact(mC ((bP (x:=.int (m:Nat)) (y:=.int 3) rfl rfl).trans (by show R.ok (.bl (decide ((m:Int)<3)))=_;rw[decide_eq_true (by lia)]))).trans ((BW ((bP ((dF (x:=sw m a) (y:=sw m (mvB m a o t)) rfl rfl).trans (Mg T e I lt)) (y:=.bl qz) rfl).trans rfl)).trans (k4 T))
 ·exact sR ((bP (x:=.int (m:Nat)) (y:=.int 3) rfl rfl).trans (by show R.ok (.bl (decide ((m:Int)<3)))=_;rw[decide_eq_false (by lia)]))
open PySem.Spec PyProof.Rows L2 PySem.W
abbrev KK(w:World):og:=kK w.params
set_option maxHeartbeats 0 in
def tN{l:mo}{ad:Ad}(w:World):AU l.prog w (KK w) ad 284 [("0",.int 0),("1",.int 1),("2",.int 2),("3",.int 3),("4",.int 4)]:=by
 refine⟨by decide,[("0",.int 0 530),("1",.int 1 532),("2",.int 2 534),("3",.int 3 536),("4",.int 4 538)],⟨_,_,_,rfl,⟨rfl,rfl,rfl⟩,rfl,λe a=>?_,?_,by decide+kernel⟩,?_⟩
 ·simp only[List.mem_toArray,au,k7,or_false]at a;rcases a with rfl|rfl|rfl|rfl|rfl<;>exact⟨_,rfl,rfl⟩
 ·repeat (first|exact .nil|refine .cons rfl rfl ?_)
 ·refine .cons ⟨rfl,.int 0,⟨_,rfl⟩,λG=>by unfold Rep;rfl⟩ ?_
  refine .cons ⟨rfl,.int 1,⟨_,rfl⟩,λG=>by unfold Rep;rfl⟩ ?_
  refine .cons ⟨rfl,.int 2,⟨_,rfl⟩,λG=>by unfold Rep;rfl⟩ ?_
  refine .cons ⟨rfl,.int 3,⟨_,rfl⟩,λG=>by unfold Rep;rfl⟩ ?_
  refine .cons ⟨rfl,.int 4,⟨_,rfl⟩,λG=>by unfold Rep;rfl⟩ ?_
  exact .nil
set_option maxHeartbeats 0 in
def all_mk{l:mo}(X:(KK w).In h)(G:h.Ns mainGlobals mg)(hfa:mg "law"=qv (.ref fa)):
  ∃fd:FuncData,(∀(s:Shared) (v:Value),BindsTo s fd ⟨[v],[]⟩ [("_law_script",v)])/\∀base:Heap,(KK w).In base->base.Ns mainGlobals mg->FnOk l.prog w (KK w) mg base (CXe l.prog w) 93 fa fd ["_law_script"] (DW (KK w)):=by
 cases hfa.symm.trans (oe X G (n:="law") (v:=.ref 607) (by kernel_rfl))
 refine⟨ou "law" "law" (defArgs (top 89)) (defBody (top 89)) (defScope (top 89)) .none .none .none (.str "law_switchkinds_k78_whole_racks_and_function" 886) qw (.ref 606) .none,λs v=>.of_eq rfl,λbase _ _=>?_⟩
 have t:PQ l.prog w (KK w) mg base h (HF [31,44,56,68,80,92,104,116] 31 [125,132,137,144,151,158,165,172,177,182,187,194,201,208,215,220,225,230,235,240,247,254,261,266,271,276,283,291,296,301,306,313,320,449,456,463,468,475,482,487,494,499,504,509,516,524,529,536,541,546,551,556,563,570,580,585,575,592,597,602,607]) 0 [] []:=.nil X G (HG (by kernel_rfl) (by kernel_rfl))
 have t:=t.int "MOST_NAMES" 4 328;have t:=t.int "MOST_NAMES_LISTED" 3 330;have t:=t.int "LONGEST_LABEL" 4 566;have t:=t.val "BETWEEN" (d:=.str " = ") (u:=.str " = " 568) (v:=.str " = ") ⟨_,rfl⟩ (λG=>by unfold Rep;rfl)
 have t:=t.val "PARTS" (u:=.ref 517) (v:=.ref 517) rfl (λG=>BJ (ds:=[.int 0,.int 1,.non]) (vs:=[.int 0,.int 1,.non]) rfl rfl rfl rfl (by decide) (by repeat (first|exact .nil|refine .cons ⟨_,rfl⟩ ?_|refine .cons rfl ?_)) (by repeat (first|exact aJ.nil|refine aJ.cons (by unfold Rep;rfl) ?_)))
 have t:=t.tbl "FIGURES" 284 (tN w);have t:=t.exc "SwitchError" 0;have t:=t.exc "NoSwitch" 1;have t:=t.exc "NoName" 2;have t:=t.exc "NoMove" 3;have t:=t.exc "Unlike" 4;have t:=t.exc "NoText" 5;have t:=t.exc "NoTerm" 6;have t:=t.exc "NoLabel" 7;have t:=t.verr;have t:=t.py .len;have t:=t.py .range;have t:=t.py .enum;have t:=t.py .zip;have t:=t.py .isin;have t:=t.py .int;have t:=t.py .bool;have t:=t.py .str;have t:=t.py .tuple;have t:=t.py .list;have t:=t.py .sum;have t:=t.py .all;have t:=t.py .any;have t:=t.py .sorted;have t:=t.py .min;have t:=t.py .max;have t:=t.add "is_whole" (top 13) 125 ["thing"] 1 oJ rfl;have t:=t.add "is_whole_below" (top 14) 132 ["thing","bound"] 2 aZ rfl;have t:=t.add "are_whole_below" (top 15) 137 ["things","bound"] 2 dP rfl;have t:=t.add "is_many" (top 16) 144 ["thing"] 1 fF rfl;have t:=t.add "is_many_listed" (top 17) 151 ["thing"] 1 eB rfl;have t:=t.add "is_row" (top 18) 158 ["thing","length","bound"] 3 jF rfl;have t:=t.add "all_rows" (top 19) 165 ["length"] 1 oK rfl;have t:=t.add "how_many_settings" (top 20) 172 ["many"] 1 bL rfl;have t:=t.add "setting_at" (top 21) 177 ["many","number"] 2 gI rfl;have t:=t.add "number_of" (top 22) 182 ["setting"] 1 fQ rfl;have t:=t.add "all_settings" (top 23) 187 ["many"] 1 dU rfl;have t:=t.add "how_many_ones" (top 24) 194 ["number"] 1 eR rfl;have t:=t.add "is_switch" (top 26) 201 ["thing"] 1 fR rfl;have t:=t.add "check_switch" (top 27) 208 ["thing"] 1 aM rfl;have t:=t.add "check_alike" (top 28) 215 ["one","other"] 2 cM rfl;have t:=t.add "ones" (top 29) 220 ["switch"] 1 mE rfl;have t:=t.add "turned" (top 30) 225 ["switch"] 1 kZ rfl;have t:=t.add "both" (top 31) 230 ["one","other"] 2 BZ rfl;have t:=t.add "either" (top 32) 235 ["one","other"] 2 pO rfl;have t:=t.add "unlike" (top 33) 240 ["one","other"] 2 pP rfl;have t:=t.add "is_order" (top 35) 247 ["many","thing"] 2 oM rfl;have t:=t.add "is_move" (top 36) 254 ["many","thing"] 2 sT rfl;have t:=t.add "check_move" (top 37) 261 ["many","thing"] 2 gJ rfl;have t:=t.add "led" (top 38) 266 ["setting","move"] 2 D1 rfl;have t:=t.add "moved" (top 39) 271 ["switch","move"] 2 pQ rfl;have t:=t.add "all_orders" (top 40) 276 ["many"] 1 kC rfl;have t:=t.add "all_moves" (top 41) 283 ["many"] 1 mF rfl;have t:=t.add "check_text" (top 44) 291 ["thing"] 1 eZ rfl;have t:=t.add "switch_text" (top 45) 296 ["switch"] 1 cN rfl;have t:=t.add "read_switch" (top 46) 301 ["text"] 1 cO rfl;have t:=t.add "is_label" (top 50) 306 ["thing"] 1 fG rfl;have t:=t.add "check_label" (top 51) 313 ["thing"] 1 dB rfl;have t:=t.add "joined" (top 52) 320 ["word","one","other"] 3 gX rfl;have t:=t.add "check_listed" (top 57) 449 ["many"] 1 fA rfl;have t:=t.add "check_one" (top 58) 456 ["switch"] 1 mG rfl;have t:=t.add "check_two" (top 59) 463 ["one","other"] 2 mH rfl;have t:=t.add "all_led" (top 60) 468 ["switch"] 1 mI rfl;have t:=t.add "least_form" (top 61) 475 ["switch"] 1 cI rfl;have t:=t.add "are_kin" (top 62) 482 ["one","other"] 2 jG rfl;have t:=t.add "odd_within" (top 64) 487 ["many","numbers"] 2 kF rfl;have t:=t.add "products" (top 65) 494 ["switch"] 1 cV rfl;have t:=t.add "degree" (top 66) 499 ["switch"] 1 gY rfl;have t:=t.addR "summed" (top 68) 504 ["numbers"] 1 xI 12 rfl;have t:=t.add "sums" (top 69) 509 ["switch"] 1 Fp rfl;have t:=t.add "by_weights" (top 70) 516 ["switch"] 1 cW rfl;have t:=t.add "is_part" (top 73) 524 ["thing"] 1 sU rfl;have t:=t.add "is_term" (top 74) 529 ["many","thing"] 2 sV rfl;have t:=t.add "check_term" (top 75) 536 ["many","thing"] 2 kG rfl;have t:=t.add "held_at" (top 76) 541 ["term"] 1 sW rfl;have t:=t.add "all_terms" (top 77) 546 ["many"] 1 mJ rfl;have t:=t.add "widened" (top 78) 551 ["term"] 1 sX rfl;have t:=t.add "primes" (top 79) 556 ["switch"] 1 gZ rfl;have t:=t.add "_law_cell" (top 81) 563 ["_law_script","_law_k"] 2 g9 rfl;have t:=t.add "_law_pick" (top 82) 570 ["_law_script","_law_k","_law_many"] 3 aK rfl;have t:=t.add "_law_setting" (top 84) 580 ["_law_many","_law_number"] 2 aW rfl;have t:=t.add "_law_odd" (top 85) 585 ["_law_one","_law_other"] 2 gK rfl;have t:=t.add "_law_switch" (top 83) 575 ["_law_script","_law_at","_law_many"] 3 dZ rfl;have t:=t.add "_law_names" (top 86) 592 ["_law_script","_law_at"] 2 fS rfl;have t:=t.addR "_law_orders" (top 87) 597 ["_law_many"] 1 kH 12 rfl;have t:=t.add "_law_move" (top 88) 602 ["_law_script","_law_at","_law_many"] 3 fH rfl;have t:=t.rack 426 (BR (by kernel_rfl) (by kernel_rfl) (by kernel_rfl) (by kernel_rfl) (by kernel_rfl) (by kernel_rfl) (by kernel_rfl))
 have t:=t.met "set_to" "Rack.set_to" (met 53 1) 341 "self" ["label","switch"] 2 e9 rfl rfl;have t:=t.met "do" "Rack.do" (met 53 2) 348 "self" ["word","label","switch"] 3 B0 rfl rfl;have t:=t.met "put" "Rack.put" (met 53 3) 355 "self" ["label","switch"] 2 sY rfl rfl;have t:=t.met "switch_of" "Rack.switch_of" (met 53 4) 362 "self" ["label"] 1 aF rfl rfl;have t:=t.met "join" "Rack.join" (met 53 6) 376 "self" ["label","word","one","other"] 4 iH rfl rfl;have t:=t.met "turn" "Rack.turn" (met 53 7) 383 "self" ["label"] 1 iI rfl rfl;have t:=t.met "labels" "Rack.labels" (met 53 8) 390 "self" [] 0 bM rfl rfl;have t:=t.met "like" "Rack.like" (met 53 9) 395 "self" ["label"] 1 oN rfl rfl;have b:=lK (K:=KK w) (x:="__init__") (qual:="Rack.__init__") (st:=met 53 0) (f:=334) rfl (by kernel_rfl) (by kernel_rfl)
 have a:=b.binds (ps:=["self"]) (by intro _ _ _ _ _ _ g i;rcases g with _|⟨u0,_|⟨u1,g⟩⟩<;>first|rfl|(simp at i))
 have t:=t.rfn "rack_text" (top 54) 435 "rack" bT rfl rfl;have t:=t.rmk (λA c e=>by cases (show(qv (SK.Gl.cls 426 [("like",1,oN),("labels",0,bM),("turn",1,iI),("join",4,iH),("switch_of",1,aF),("put",2,sY),("do",3,B0),("set_to",2,e9)]):Option SK.Gl)=qv (SK.Gl.cls A c) from e);exact⟨334,1,_,_,by decide,⟨by kernel_rfl,by kernel_rfl,by kernel_rfl,by kernel_rfl⟩,Fj (k:=0) (self:="self") (BR (by kernel_rfl) (by kernel_rfl) (by kernel_rfl) (by kernel_rfl) (by kernel_rfl) (by kernel_rfl) (by kernel_rfl)) b (by kernel_rfl) (by kernel_rfl),a⟩) "read_rack" (top 55) 442 ["text"] 1 426 eS rfl
 exact Ie (Ir (ps:=["_law_script"]) t.B t.t (λA c e=>by cases (show(qv (SK.Gl.cls 426 [("like",1,oN),("labels",0,bM),("turn",1,iI),("join",4,iH),("switch_of",1,aF),("put",2,sY),("do",3,B0),("set_to",2,e9)]):Option SK.Gl)=qv (SK.Gl.cls A c) from e);exact⟨334,1,_,_,by decide,⟨by kernel_rfl,by kernel_rfl,by kernel_rfl,by kernel_rfl⟩,Fj (k:=0) (self:="self") (BR (by kernel_rfl) (by kernel_rfl) (by kernel_rfl) (by kernel_rfl) (by kernel_rfl) (by kernel_rfl) (by kernel_rfl)) b (by kernel_rfl) (by kernel_rfl),a⟩) (lK (x:="law") (st:=top 89) (f:=607) rfl (by kernel_rfl) (by kernel_rfl)) rfl (by kernel_rfl)) law_true
end SK.k78
open PySem PySem.W PyProof.Rows
set_option maxRecDepth 100000 in
set_option maxHeartbeats 0 in
theorem PySem.Challenge.cw_switchkinds_k78_whole_racks_and_function_holds : PySem.Challenge.rw_switchkinds_k78_whole_racks_and_function.Holds := by
 w_on
 refine PySem.W.holds_law SK.k78.sd λb=>?_
 refine PySem.W.holds_open (q:=SK.k78.kq) (loose:=["FIGURES"]) (Xt:=λs=>PySem.W.xlAt SK.k78.kq [] s&&PySem.W.recOk (ip (gm dt.row)) s) (XP:=PySem.W.XL SK.k78.kq []) (Yf:=oh.obs (nr SK.k78.kK SK.k78.kas (λ_=>by kernel_rfl))) (Ya:=oh.val (nr SK.k78.kK SK.k78.kas (λ_=>by kernel_rfl))) (YP:=oh.says (nr SK.k78.kK SK.k78.kas (λ_=>by kernel_rfl))) (N:=8806) SK.k78.left (oh.of (nr SK.k78.kK SK.k78.kas (λ_=>by kernel_rfl))) (oh.keeps (nr SK.k78.kK SK.k78.kas (λ_=>by kernel_rfl))) (λs e=>PySem.W.xl_of s (io.mp e).1) PySem.W.XL.keeps (by rfl) (by rfl) (by rfl) (λs e=>PySem.W.recFacts_of (io.mp e).2) (by rfl) (by first|assumption|decide+kernel) (by decide+kernel) ⟨rfl,rfl,rfl,rfl,rfl,by decide+kernel⟩ ?hw ?hc
 (case hw=>w_witness2)
 refine SK.walk (l:=dt) 93 rfl rfl ⟨rfl,by decide,by decide⟩ (λw h Y=>PySem.W.kIn_of Y) ?F
 case F=>
  intro w f d h c G a;exact SK.k78.all_mk c G a
