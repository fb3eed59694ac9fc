import PyProof.Rows.All
import Wide.All
import OpenK.AllK
import Wide.FinOn
import Lean
import PyProof.EqAt
import PyProof.EqKinds
import PyProof.TupleCall
import PyProof.AttrMissHeap
import KE.KDictOf
import PyProof.Rows.MinMaxN
import KE.KMinBuiltin
import PyProof.Rows.CallKwBuiltin
import KE.KUnpack
import PySem.Challenge.RW_firnfall_k33_sums_so_far
set_option Elab.async false
set_option linter.all false
set_option maxRecDepth 100000
set_option maxHeartbeats 0
open And renaming intro->fN
open Array renaming length_toList->bJ,getElem?_eq_getElem->dC,getElem?_setIfInBounds_ne->ib,getD_eq_getD_getElem?->iM,getElem?_toList->mJ,getD->oj,forIn_toList->oo,toList_map->pw,mk->rh
open Bool renaming false_ne_true->au,and_eq_true->bh,false_eq_true->cp,eq_iff_iff->eQ,true_and->fb
open False renaming elim->bH
open ForIn renaming forIn->sU
open ForInStep renaming yield->c7
open Int renaming toNat_natCast->bb,emod_lt_of_pos->cZ,zero_add->d5,emod_nonneg->dH,le_refl->lA,zero_mul->mn,ediv_eq_zero_of_lt->mq,mul_one->mR,mul_nonneg->ni,zero_ediv->nU,natCast_nonneg->oC,le_trans->pe
open LawfulBEq renaming eq_of_beq->sy
open List renaming length_map->aa,getElem?_eq_getElem->ae,getD_eq_getElem?_getD->ak,map_append->aq,length_append->aw,size_toArray->ax,mem_of_getElem?->ay,mem_cons_of_mem->az,getElem?_map->aB,mem_append_right->aE,length_take->aF,mem_cons_self->aG,range->aK,map_cons->aO,Nodup->aR,take_length->aS,take_add_one->aT,mem_map_of_mem->aX,length_cons->b7,append_nil->bc,length_replicate->bg,length_singleton->bj,take_of_length_le->bp,map_map->bz,length_range->bF,length_filter_le->bG,lookup_cons->bO,getElem_mem->bP,filter_append->bT,replicate->bX,all_eq_true->bY,getElem?_append_right->cn,range_succ->cv,getElem?_append_left->cx,getElem?_zipWith->cE,sum_cons->cG,zipWith->cK,filter_cons_of_neg->cM,filter_cons_of_pos->cN,reverse->cS,sum_append->cV,mem_append_left->d6,drop_eq_getElem_cons->dA,mem_of_mem_take->dN,mem_of_mem_drop->dO,mem_cons->dW,map_congr_left->dZ,length_zipWith->ee,getElem?_replicate->eA,length_drop->eB,not_mem_nil->eE,getElem_map->eG,lookup->eK,find?_cons->eW,reverse_reverse->fk,filter->fm,replicate_succ'->fq,getElem?_range->fD,any_cons->fF,pairwise_singleton->fM,map_nil->fU,all_map->fZ,length_pos_of_mem->i0,ext_getElem?->i5,append_assoc->i6,getElem?_set->i9,of_mem_zip->iC,length_set->iD,forIn_cons->iE,filterMap_cons->iI,length_reverse->iL,take_zero->iZ,nodup_nil->l3,getElem?_take->l9,getElem?_zip_eq_some->lg,reverse_cons->lx,flatten_cons->lB,map_take->lI,ext_getElem->lP,filter_cons->lT,getElem?_set_self->lW,drop_of_length_le->me,find?_cons_of_pos->mj,find?_cons_of_neg->ml,drop_eq_nil_of_le->mm,mem_filter->mC,filter_nil->mE,take_range->mF,take_append_drop->mL,getElem?_eq_none->mM,getElem?_set_ne->mP,length->mS,map_id->n9,getElem?_append->nj,all_cons->nN,take_nil->nQ,drop_nil->nR,getElem?_drop->oh,find?->oA,pairwise_cons->oB,toArray->oR,getElem_take->oZ,map_snd_zip->px,zipIdx_cons->pA,map_reverse->pH,zipIdx_nil->pU,length_nil->pV,forIn_nil->rV,drop_zero->rX,map_drop->sx,map->t6
open List.Pairwise renaming nil->fV
open List.Perm renaming refl->mZ,cons_inv->ou
open List.cons renaming inj->sv
open MonadExcept renaming tryCatch->t8
open Nat renaming le_refl->ar,ne_of_lt->aD,le_trans->aI,lt_of_lt_of_le->aJ,zero_le->aQ,lt_succ_of_lt->bE,lt_of_le_of_lt->bS,ne_of_gt->c5,lt_irrefl->cc,le_of_lt->cJ,lt_succ_self->cX,le_succ->dM,le_add_right->eF,succ_le_succ->eJ,min_eq_left->eX,le_succ_of_le->ly,zero_add->mh,not_lt_zero->mB,le_of_eq->oG,min_eq_right->pI
open Ne renaming symm->cA
open Option renaming toList_some->dw,isSome_some->ow,isSome_map->oY,getD_none->pq
open Option.some renaming inj->aM
open Or renaming inl->aW,inr->dz
open Prod renaming fst->sV,snd->sW
open PyProof.Rows renaming seqObj->bu,boot_list->bM,callWith_type1->cj,boot_isinstance->cw,listUpdate_at->d4,boot_tuple->de,IntsAre->dm,get?_update_seq->eV,seqEpoch_at->fi,boot_sum->i7,boot_bool->i8,slot_tuple_getitem->ia,boot_int->ie,AllBare->ip,subscriptTail->iq,envOfC->lC,boot_max->lS,Subscript_->m7,subscriptTail_builtinR->m9,listItems_at->mf,entry_list_sort->my,boot_str->mK,slot_list_sort->mY,boot_sorted->n5,preSum_getD->n6,size_push'->om,plain_sorted->oP,entry_sorted->oQ,boot_all->p0,kind_sorted->pO,list_sort_plain->pS,boot_range->rE,SortKind->rN,args_list_sort->rP,failedOf->rR,tail_any->sS,boot_min->t9,Call_->tf
open PyProof.Rows.KeyOrd renaming kle_refl->dj,kle_of_klt->fY,kle_trans->il,kle_antisymm->iK
open PySem renaming wpAny_bind->af,Value->ah,wpAny->aC,model->aH,starEach->aN,World->b8,wpAny_mono->b9,boot_len->ba,Around->br,sizeLine_eq->bN,wpAny_holding->bR,wpAny_field->bW,wpAny_truthy_bool->c0,wpAny_newObj_type->c3,wpAny_loadPart'->c8,rawInt->cg,Paired->ck,backTo->cz,foldedSetIterable->cB,compareOp->cD,wpAny_standAt->cF,wpAny_seqItems->cH,codeAny->cO,bindArgs->cP,mem_of_lookup->cT,wpAny_Call_Name_kw->cY,wpAny_pyIter_list->d8,wpAny_callSpecial?_slot->d9,letOwnedTupleGo->dh,wpAny_call_entry->dr,wpAny_setField_rec->dv,importedModules->dE,wpAny_passesOwn->dG,keywordEach->dI,codeAny_mono->dJ,wpAny_comprehension_free->dQ,plainId_quiet->dR,IsPair->dU,holding->dY,NameKind->ez,sysModules->eL,assignEach->eN,codeAny_builtin->eS,behindInMarks->eZ,Builtin->ff,standAt->fg,wpAny_letGo->fj,assign->fB,attributeBase->fE,wpAny_newList->fH,wpAny_rule->fI,tupleKind_room_in1->fJ,sliceBounds->fL,bootBuiltins->fP,pyNext->fQ,backToKw->fS,newFunctionEnv->fW,codeAny_compStart_list->fX,wpAny_setField->i4,swapsWith->ig,getMethod->ij,cellsFrom->ik,binaryOp->iu,wpAny_updateSeq_pair->iA,wpAny_execs_nil->iB,PyData->iH,noteFrame->iO,wpAny_newFunctionEnv_cells->iS,wpAny_newTuple->iV,IsZip->iX,wpAny_tryCatch->iY,wpAny_assign_Name->lp,getItem->lq,evalPart_none->lE,wpAny_getItem_list_slice->lF,wpAny_onRaise->lH,wpAny_eqBool_int->lJ,tupleKind->lK,wpAny_execs_cons->lL,callWith->lO,builtinsNs->lV,wpAny_pyNext_list_item->lX,Result->lY,wpAny_call->lZ,Keyword->m6,seqIndex_neg->m8,wpAny_getItem_list_neg->ma,theTreesLotGoes->mx,wpAny_updateSeq->mD,wpAny_isTrue_Compare1->mG,wpAny_pyNext_list_end->mH,exec_Assign_Name_used->mI,pyIter->mQ,seqIndex_of->mT,subscripted->mU,compEnvC->mV,wpAny_newFunctionEnv->mW,ZipApart->nc,leaving->nu,callerA->nv,newList->nA,valueAt->nB,argBest->nE,pushCells->nH,evalPart_some->nM,wpAny_attempt->nO,wpAny_pyIter_tuple->o8,wpAny_pyIter_range->o9,call_meets->oa,closureFor->og,wpAny_evalAll_cons->oq,getattributeRaised->oz,Within->oE,codeAny_loop->oN,compTurn->oO,wpAny_typeOf->oS,wpAny_evalAll_nil->oU,wpAny_pyIter_enum->oV,seqItems?->pz,wpAny_pyIter_zip->pE,IsRangeIter->pK,wpAny_Slice->pM,wpAny_noted->pN,wpAny_of_eq->pQ,atKey->pR,OsState->pX,BindsTo->pY,relabel->pZ,Params->rg,wpAny_Name->rA,CmpOp->rC,bindL->rG,bindC->rH,IsPart->rJ,typeLookup->rK,compPost->rM,checkCount->rO,field->rS,firstArgMember->rT,rangeSize_one->rZ,intBits_le_64->se,call_list_seq->sf,eval_ListComp->si,comprehension->sj,call_sum_walk->su,setItem->sG,typeOf->sH,cellOf->sI,stored->sJ,GenState->sO,Model->sQ,Operator->sR
open PySem.Around renaming under_plainId->d7,under->oJ
open PySem.Builtin.Dict renaming updateFrom->lR
open PySem.Builtin.List renaming listTooLong->fG
open PySem.Builtin.Range renaming rangeSize->lN
open PySem.Builtin.Slice renaming slicePlaces->dB,sliceAdjust->fA,sliceApplied->iW
open PySem.Builtin.SmallTypes renaming nextOf->bA,ownedTupleIsFree->cI,ownedTupleHandOut->fC
open PySem.Builtin.Tuple renaming tupleExact->dS
open PySem.Calls renaming evalArgs_plain->iz,Name_function_global->iP,spliced_cons->iR,call_function_entry->lh,callWith_builtin->md,spliced_nil->oM
open PySem.Code renaming isFrame->oK
open PySem.Data renaming fields->fK,cell->lM,seq->t7
open PySem.EntryCells renaming newEntry->nK
open PySem.Env renaming kindOf->iU
open PySem.F renaming excBase_ValueError->bD,slot_list_append->bU,type_list_append->bV,plainAttrs_list->bZ,slot_tuple_iterator_next->du,plain_max_loop->eI,slot_dict_get->ic,args_tuple_iterator_next_1->iF,slot_zip_next->iG,entry_tuple_iterator_next->iN,args_dict_get_3->lQ,entry_dict_get->mi,slot_list_lt->mX,args_zip_next_1->oX,entry_zip_next->pC,entry_max_loop->pG
open PySem.Fin renaming done->rQ
open PySem.Heap renaming get?_push_of_some->ai,lt_size->av,get?_push_size->aA,get?_update_other->bB,size_push->bK,get?_update_ne->cf,get?_push_ne->cR,get?_update_self->cW,size_update->eC,SameBut->eM,MadeExcOf->nh
open PySem.Heap.DictOf renaming new->pW
open PySem.Heap.IsSliceOf renaming new->iT
open PySem.Heap.SameBut renaming update->nJ
open PySem.IsRange renaming new->pL
open PySem.NameKind renaming free->aP,cell->bC
open PySem.Obj renaming mapSeq->aZ,data_mapFields->eP,isFreed_of_fields->fe,mapFields->ir,cls_mapFields->oW
open PySem.Paired renaming length->aY,snoc->cU
open PySem.PassesOwn renaming never->bI
open PySem.SeqAt.EqAt renaming int_str->nX,str_int->nZ
open PySem.Str renaming ofString->ao
open PySem.Value renaming ref->aV,none->b0,type->dP,int->eY,isInt_shape->fO,bool->lU,str->nk,isStrOf_shape->nI,float->pJ,isStrOf->rY
open PySem.W renaming Frag->aj,nsIn->aU,mg_none_of->bf,mg_of->bw,kitOne->bx,fnOf->bL,findIn->bQ,keepIn->c6,kia_one->cu,emptyDict->cC,codeIn->cQ,instObj->df,excIn->dq,boot_heap->ef,callWith_K->eO,methodCall_KW->fc,plainGet->ft,hasDictIn->fR,cellsFrom_some->fT,plainGet_of->iJ,lookIn->iQ,methodObj->lj,plainOver->lu,takerIn->mr,makesIn->mw,namesBound->nW,isFn->oF,kitx_list->oH,kitx_dict->oI,staticsOk->pf,kmHook->ph,handedIn->pj,OpenLaw->pT,kas_rev->rf,boot_drawn->rj,tabObj->rm,gensDone->rn,laidKept->rp,funFrames_hide->rW,kas_tail3->sD,topStub->sF,openSeen->sL,openGood->sM,openEnds->sP,kas_sort->sX,kas_item->sY,kat_snds->sZ
open PySem.W.Looks renaming of_pure->sr
open PySem.W.OpenLaw renaming row->mO
open PySem.Walks renaming list->oi
open StateT renaming run_pure->mz
open Sum renaming inr->bo,inl->dX
open Sum.inl renaming inj->fh
open True renaming intro->di
open PySem PySem.Spec PyProof.Rows
local macro_rules | `(∅)=>`(by omega)
local macro_rules | `(⋯)=>`(by decide)
section
namespace HO
open PySem PySem.W PyProof.Rows PySem.Calls PySem.Spec
def view:Program:={ PySem.Challenge.pw_firnfall_k33_sums_so_far with main:={ PySem.Challenge.pw_firnfall_k33_sums_so_far.main with body:=(PySem.Challenge.pw_firnfall_k33_sums_so_far.main.body).drop 67 } }
def loose:List Str:=[ao "_wall",ao "FirnError",ao "BadValley",ao "BadRound",ao "BadWeather",ao "BadYear",ao "BadSurge",ao "NoLane",ao "NoPlace",ao "MOST_REACHES",ao "MOST_HEIGHTS",ao "GREATEST_HEIGHT",ao "MOST_LANES",ao "LONGEST_LANE",ao "is_valley",ao "is_reach",ao "leads_on",ao "fits",ao "lanes",ao "way_down",ao "way_of",ao "count_places",ao "heights",ao "HIGHEST_LINE",ao "MOST_HANDS",ao "MOST_ROWS",ao "is_weather",ao "is_round",ao "change",ao "LAST_TOLD",ao "LAST_ASKED",ao "GREATEST_SURGE",ao "check_told",ao "check_asked",ao "check_round",ao "Ice",ao "settled",ao "course",ao "so_far",ao "total",ao "_law_box",ao "_law_mixed",ao "_law_take",ao "_law_whole",ao "_law_alike",ao "_law_weather",ao "_law_round",ao "_law_ground_drawn",ao "_law_reaches",ao "_law_roads",ao "_law_ground",ao "_law_year",ao "_law_scene",ao "_law_made",ao "_law_row",ao "_law_wish",ao "_law_ride",ao "_law_marks",ao "_law_news",ao "_law_depths"]
section
local macro_rules | `(tactic| o_head $H)=>`(tactic| (have hook:=$H;assumption))
theorem frag (hyp:(mO PySem.Challenge.rw_firnfall_k33_sums_so_far).Holds):(mO PySem.Challenge.rw_firnfall_k33_sums_so_far).Holds:=by
 k_head
end
def asL:List Addr:=[2,3,15,17,18,20,21,22,29,30,31,32,35,42,43,44,47,54,55,56,59,66,67,68,71,78,79,80,83,90,91,92,95,102,103,104,107,114,115,116,119,122,123,124,127,128,129,131,132,134,135,136,139,140,141,144,145,146,148,149,151,152,153,155,156,158,159,160,163,164,165,168,169,170,172,173,175,176,177,180,181,182,184,185,187,188,189,191,192,194,195,196,198,199,201,202,203,205,206,208,209,217,220,221,222,224,225,227,228,229,231,232,234,235,236,238,239,241,242,243,245,246,248,249,250,252,253,255,256,257,259,260,262,263,264,266,267,269,270,271,273,274,276,277,278,280,281,283,284,285,287,288,290,291,292,294,295,297,298,299,301,302,304,305,306,309,310,311,314,315,316,318,319,321,322,323,325,326,328,329,330,332,333,335,336,337,338,339,340,341,344,347,348,349,352,353,354,357,358,359,362,363,364,366,367,369,370,371,373,374,376,377,378,380,381,383,384,385,387,388,390,391,392,395,396,397,399,400,402,403,404,407,408,409,412,413,414,417,418,419,422,423,424,426,427,429,430,431,433,434,436,437,438,441,442,443,445,446,448,449,450,452,453,455,456,457,459,460,462,463,464,467,468,469,472,473,474,476,477,479,480,481,484,485,486,489,490]
theorem asE (P:rg):asL=(frag.heap_1 P).map (·.1):=by kernel_rfl
noncomputable def top (w:b8) (os:pX):Option Shared:=PySem.W.Fast.tw14082659384304107361 PySem.W.Fast.tw14364793385576792824 PySem.Challenge.pw_firnfall_k33_sums_so_far w (ef w.params).objs.size ((ef w.params).nsMap mainGlobals "__annotations__") 9000 ⟨ef w.params,rh [],rj,boot_toks,os⟩ (sF PySem.Challenge.pw_firnfall_k33_sums_so_far)
def xt (s:Shared):Bool:=xlAt view [] s && recOk (RowW.records (OpenRow.toRowW (mO PySem.Challenge.rw_firnfall_k33_sums_so_far))) s
theorem ran2 (w:b8) (os:pX):(top w os).map (λs=>(asL.map s.heap.get?,[142].map s.heap.get?))=some ((frag.heap_1 w.params).map λp=>some p.2,[142].map λ_=>some (rm #[])):=by kernel_rfl
theorem ws:OpenLaw.wellSaid PySem.Challenge.rw_firnfall_k33_sums_so_far=true:=by kernel_rfl
theorem ran1 (w:b8) (os:pX):(top w os).map (λs=>sL view loose (dE PySem.Challenge.pw_firnfall_k33_sums_so_far.main.body) xt true s)=some (sM view loose):=by kernel_rfl
theorem ran0 (w:b8) (os:pX):(top w os).map (λs=>pf (dE PySem.Challenge.pw_firnfall_k33_sums_so_far.main.body) (ef w.params) s.heap && nW PySem.Challenge.pw_firnfall_k33_sums_so_far s.heap && rn s && rp (ef w.params) s.heap)=some true:=by kernel_rfl
theorem WQ (w:b8) (os:pX):topRun treeTable PySem.Challenge.pw_firnfall_k33_sums_so_far w (ef w.params).objs.size ((ef w.params).nsMap mainGlobals "__annotations__") 9000 ⟨ef w.params,rh [],rj,boot_toks,os⟩ (sF PySem.Challenge.pw_firnfall_k33_sums_so_far)=top w os:=by
 rw [PySem.W.Fast.te14082659384304107361,PySem.W.Fast.te14364793385576792824]
 rfl
theorem We (w:b8):((ef w.params).isNs mainGlobals && (rh []:Array sO).size == 0)=true:=by kernel_rfl
theorem JA {tb:String->Option ff}{p:Program}{w:b8}{N:Nat}{s:Shared}{h:Heap}{gs d k os}(hb:(h.isNs mainGlobals && gs.size == 0)=true) (hr:topRun tb p w h.objs.size (h.nsMap mainGlobals "__annotations__") N ⟨h,gs,d,k,os⟩ (sF p)=some s) (hl:(pf (dE p.main.body) h s.heap && nW p s.heap && rn s && rp h s.heap)=true):topFrom tb p w N ⟨h,gs,d,k,os⟩=some s:=by
 unfold topFrom
 rw [hb]
 show ((topRun tb p w h.objs.size (h.nsMap mainGlobals "__annotations__") N ⟨h,gs,d,k,os⟩ (sF p)).bind _)=_
 rw [hr]
 show (match pf (dE p.main.body) h s.heap && nW p s.heap && rn s && rp h s.heap with | true=>some s | false=>none)=_
 rw [hl]
theorem Yz {tb:String->Option ff}{p:Program}{w:b8}{N:Nat}{s₀ s:Shared}(a:fencedOpening tb p w N=some s₀) (t:topFrom tb p w N s₀=some s):sP tb p w N=some s:=by
 unfold sP
 rw [a]
 exact t
theorem left:LeftO (mO PySem.Challenge.rw_firnfall_k33_sums_so_far).prog view loose xt (Hook.obs (ph frag.heap_1 asL asE [142])) (Hook.val (ph frag.heap_1 asL asE [142])) 9000:=λw=>by
 obtain ⟨⟨h,gs,d,k,os⟩,a,b⟩:=Option.map_eq_some_iff.mp (boot_open (p:=PySem.Challenge.pw_firnfall_k33_sums_so_far) (N:=9000) (by kernel_rfl) ⋯ (λs=>by kernel_rfl) w)
 obtain ⟨rfl,rfl,rfl,rfl⟩:h=ef w.params/\gs=rh []/\d=rj/\k=boot_toks:=by simpa using b
 have h0:=ran0 w os
 have h1:=ran1 w os
 have h2:=ran2 w os
 cases e:top w os with
 | none=>rw [e] at h1;cases h1
 | some s =>
  rw [e] at h0 h1 h2
  have l1:(pf (dE PySem.Challenge.pw_firnfall_k33_sums_so_far.main.body) (ef w.params) s.heap && nW PySem.Challenge.pw_firnfall_k33_sums_so_far s.heap && rn s && rp (ef w.params) s.heap)=true:=aM h0
  have l2:sL view loose (dE PySem.Challenge.pw_firnfall_k33_sums_so_far.main.body) xt true s=sM view loose:=aM h1
  obtain ⟨m1,m2⟩:=Prod.mk.inj (aM h2)
  have m5:asL.map s.heap.get? = (frag.heap_1 w.params).map λp=>some p.2:=m1
  have t:=Yz a (JA (We w) ((WQ w os).trans e) l1)
  show (sP treeTable PySem.Challenge.pw_firnfall_k33_sums_so_far w 9000).map _=_
  rw [t]
  show some (sL view loose (dE PySem.Challenge.pw_firnfall_k33_sums_so_far.main.body) xt true s,(asL.map s.heap.get?,[142].map s.heap.get?))=some (sM view loose,_)
  rw [l2,m5,m2]
  rfl
end HO
end
noncomputable section
namespace L2
noncomputable abbrev Key:=Sum Int Str
noncomputable def gX:Key->ah->Bool
 | .inl k,v=>Value.isInt k v
 | .inr x,v=>rY x v
noncomputable def keyH (w:b8):Key->Int
 | .inl k=>hashInt k
 | .inr x=>hashStr w x
theorem qt:∀{k:Key}{v:ah},gX k v=true->(∃i t,k=dX i/\v=eY i t)\/(∃x t,k=bo x/\v=nk x t)
 | .inl i,v,h=>by
  obtain ⟨t,e⟩:=fO (k:=i) (v:=v) h
  exact .inl ⟨i,t,rfl,e⟩
 | .inr x,v,h=>by
  obtain ⟨t,e⟩:=nI (x:=x) (v:=v) h
  exact .inr ⟨x,t,rfl,e⟩
theorem ZC (i:Int) (t:Tok):gX (.inl i) (.int i t)=true:=by simp [gX,Value.isInt]
theorem Yk (x:Str) (t:Tok):gX (.inr x) (.str x t)=true:=by simp [gX,rY]
theorem WG (a b:Int):decide ((dX a:Key)=dX b)=(a == b):=by
 by_cases e:a=b
 ·subst e;simp
 ·have h:¬(dX a:Key)=dX b:=λq=>e (fh q)
  rw [decide_eq_false h]
  exact (beq_eq_false_iff_ne.mpr e).symm
theorem Wf (a b:Str):decide ((bo a:Key)=bo b)=decide (a=b):=by
 by_cases e:a=b
 ·subst e;simp
 ·have h:¬(bo a:Key)=bo b:=λq=>e (Sum.inr.inj q)
  rw [decide_eq_false h,decide_eq_false e]
theorem Wv (a:Int) (b:Str):decide ((dX a:Key)=bo b)=false:=decide_eq_false (λq=>nomatch q)
theorem WU (a:Str) (b:Int):decide ((bo a:Key)=dX b)=false:=decide_eq_false (λq=>nomatch q)
noncomputable def jD (prog:Program) (w:b8):PySem.KeyKind prog w Key where
 is:=gX
 hash:=keyH w
 inj:=λv a b ha hb=>by
  rcases qt ha with ⟨i,t,rfl,rfl⟩ | ⟨x,t,rfl,rfl⟩
  ·rcases qt hb with ⟨j,u,rfl,e⟩ | ⟨y,u,rfl,e⟩
   ·injection e with e1 _;rw [e1]
   ·exact nomatch e
  ·rcases qt hb with ⟨j,u,rfl,e⟩ | ⟨y,u,rfl,e⟩
   ·exact nomatch e
   ·injection e with e1 _;rw [e1]
 byValue:=λk v h=>by
  rcases qt h with ⟨i,t,rfl,rfl⟩ | ⟨x,t,rfl,rfl⟩ <;> rfl
 pyHash:=λhv h=>by
  rcases qt hv with ⟨i,t,rfl,rfl⟩ | ⟨x,t,rfl,rfl⟩
  ·exact wpAny_pyHash_int h
  ·exact wpAny_pyHash_str h
 eqBool:=λhu hv h=>by
  rcases qt hu with ⟨i,t,rfl,rfl⟩ | ⟨x,t,rfl,rfl⟩
  ·rcases qt hv with ⟨j,u,rfl,rfl⟩ | ⟨y,u,rfl,rfl⟩
   ·rw [WG] at h;exact lJ h
   ·rw [Wv] at h;exact nX i t y u _ _ _ _ h
  ·rcases qt hv with ⟨j,u,rfl,rfl⟩ | ⟨y,u,rfl,rfl⟩
   ·rw [WU] at h;exact nZ x t j u _ _ _ _ h
   ·rw [Wf] at h;exact wpAny_eqBool_str h
 «strs»:=λk x t v h=>by
  rcases qt h with ⟨i,u,rfl,e⟩ | ⟨y,u,rfl,e⟩
  ·exact nomatch e
  ·injection e with e1 _
   subst e1
   cases v <;> rfl
theorem Qt (prog:Program) (w:b8) (i:Int) (t:Tok):(jD prog w).is (.inl i) (.int i t)=true:=ZC i t
theorem Qg (prog:Program) (w:b8) (x:Str) (t:Tok):(jD prog w).is (.inr x) (.str x t)=true:=Yk x t
end L2
namespace L2
inductive V where
 | non | bl (b:Bool) | int (i:Int) | str (x:Str) | byt (b:Array UInt8) | flt (b:UInt64) | ref (a:Addr) | ty (n:String)
 deriving DecidableEq
noncomputable def jx:V->ah->Prop
 | .non,u=>u=b0
 | .bl b,u=>u=lU b
 | .int i,u=>∃t,u=eY i t
 | .str x,u=>∃t,u=nk x t
 | .byt b,u=>∃t,u=Value.bytes b t
 | .flt b,u=>∃t,u=pJ b t
 | .ref a,u=>u=aV a
 | .ty n,u=>u=dP n
noncomputable abbrev jB:List V->List ah->Prop:=ck jx
theorem jB.length {xs:List V}{us:List ah}(r:jB xs us):xs.length=us.length:=aY r
theorem jB.get:∀{xs:List V}{us:List ah}{i:Nat}{x:V},jB xs us->xs[i]? = some x->∃u,us[i]? = some u/\jx x u
 | _,_,_,_,.nil,e=>by simp at e
 | _,_,0,_,.cons r _,e=>by simp at e;subst e;exact ⟨_,rfl,r⟩
 | _,_,i+1,x,.cons _ t,e=>by
  obtain ⟨u,h1,h2⟩:=jB.get (i:=i) (x:=x) t (by simpa using e)
  exact ⟨u,by simpa using h1,h2⟩
theorem jB.set {x:V}{u:ah}(r:jx x u):∀{xs:List V}{us:List ah}(i:Nat),jB xs us->jB (xs.set i x) (us.set i u)
 | _,_,_,.nil=>.nil
 | _,_,0,.cons _ t=>.cons r t
 | _,_,i+1,.cons q t=>.cons q (jB.set r i t)
theorem jB.append:∀{xs ys:List V}{us ws:List ah},jB xs us->jB ys ws->jB (xs++ys) (us++ws)
 | _,_,_,_,.nil,s=>s
 | _,_,_,_,.cons r t,s=>.cons r (jB.append t s)
theorem jB.take:∀{xs:List V}{us:List ah}(n:Nat),jB xs us->jB (xs.take n) (us.take n)
 | _,_,0,_=>.nil
 | _,_,_+1,.nil=>.nil
 | _,_,n+1,.cons r t=>.cons r (jB.take n t)
theorem jB.drop:∀{xs:List V}{us:List ah}(n:Nat),jB xs us->jB (xs.drop n) (us.drop n)
 | _,_,0,r=>r
 | _,_,_+1,.nil=>.nil
 | _,_,n+1,.cons _ t=>jB.drop n t
noncomputable def yz:Option V->Option ah->Prop
 | some v,some u=>jx v u
 | none,none=>True
 | _,_=>False
noncomputable def KV {κ:Type}:List (κ×V)->List (κ×ah)->Prop:=ck λ(p:κ×V) (q:κ×ah)=>p.1=q.1/\jx p.2 q.2
noncomputable def kV:Key->V
 | .inl i=>.int i
 | .inr x=>.str x
inductive HO where
  | lst (xs:List V)
  | tup (xs:List V)
  | dK (kvs:List (Key×V)) | dT (kvs:List (List Key×V))
  | set (S:Int->Bool) (n:Nat)
  | ins (C dx:Addr) (fs:List (Str×V))
  | own (x:Addr)
  | xd (fs:List (Str×V))
  | met (f x:Addr)
  | rng (lo hi:Int)
  | frz (o:Obj) (u:HO)
  | tbl (ps:Array ah)
  | ext (φ:Heap->Prop)
noncomputable abbrev Hp:=Addr->Option HO
noncomputable def upd (H:Hp) (a:Addr) (o:HO):Hp:=λb=>if b=a then some o else H b
theorem j4 {H:Hp}{a:Addr}{o:HO}:upd H a o a=some o:=by unfold upd;rw [if_pos rfl]
theorem j5 {H:Hp}{a b:Addr}{o:HO}(h:b≠a):upd H a o b=H b:=by unfold upd;rw [if_neg h]
theorem jk {H:Hp}{a b:Addr}{o u:HO}(h:H a=some o) (h':H b=some u) (d:o≠u):a≠b:=by
 intro e;subst e;rw [h] at h';exact d (aM h')
theorem j1 {H:Hp}{a b:Addr}{o:HO}(h:H a=some o) (h':H b=none):a≠b:=by
 intro e;subst e;rw [h] at h';cases h'
section
variable (P:Program) (w:b8)
noncomputable def qg (H:Hp) (h:Heap) (a:Addr):HO->Prop
 | .lst xs=>xs.length<=sizeLine/\∃(its:List ah) (n:Nat),jB xs its/\h.get? a=some { cls:=.type "list",data:=.seq its.toArray n }
 | .tup xs=>xs.length<=sizeLine/\∃its:List ah,jB xs its/\IsTup h a its.toArray
 | .dK kvs=>kvs.length<=sizeLine/\(a == eL)=false/\∃vs,KV kvs vs/\h.DictOf (jD P w) a vs
 | .dT kvs=>kvs.length<=sizeLine/\(a == eL)=false/\∃xs:List (List Key×Addr×ah),
   ck (λ(p:List Key×V) (q:List Key×Addr×ah)=>p.1=q.1/\H q.2.1=some (.tup (p.1.map kV))/\jx p.2 q.2.2) kvs xs /\
   ∃o es ep,h.get? a=some o/\o.ExactDict/\o.data = .dict es ep/\es.toList=xs.map (entryOfKey (lK (jD P w)))/\(xs.map (·.1)).Nodup
 | .set S n=>h.SetOf (intKind P w) a S n
 | .ins C dx fs=>H dx=some (.own a)/\fs.length<=1000/\dx≠a/\h.get? a=some (df C dx) /\
   ∃mA,h.Ns1 dx mA/\(∀f,yz (fs.lookup f) (mA f))/\oE mA (fs.map (·.1))
 | .own _=>∃o,h.get? a=some o
 | .xd fs=>∃mA,h.Ns1 a mA/\∀f,yz (fs.lookup f) (mA f)
 | .rng lo hi=>∃t u v,h.get? a=some { cls:=.type "range",data:=.fields #[.int lo t,.int hi u,.int 1 v] }
 | .frz o u=>h.get? a=some o/\qg H h a u
 | .tbl ps=>h.get? a=some { cls:=.none,data:=.fields ps }
 | .met f x=>h.get? a=some (lj (.ref f) (.ref x))
 | .ext φ=>φ h/\(∃o,h.get? a=some o)/\∀h1 h2:Heap,φ h1->(∀o,h1.get? a=some o->h2.get? a=some o)->φ h2
noncomputable def HOk (H:Hp) (h:Heap):Prop:=∀a o,H a=some o->qg P w H h a o
end
section
variable {P:Program}{w:b8}{H H':Hp}{h h':Heap}{a:Addr}{o:HO}
theorem qg.lt (x:qg P w H h a o):a<h.objs.size:=by
 cases o with
 | lst xs=>obtain ⟨_,_,_,_,e⟩:=x;exact av e
 | tup xs=>obtain ⟨_,_,_,p⟩:=x;exact p.lt
 | dK kvs=>obtain ⟨_,_,_,_,o,_,_,e,_⟩:=x;exact av e
 | dT kvs=>obtain ⟨_,_,_,_,o,_,_,e,_⟩:=x;exact av e
 | set S n=>obtain ⟨o,_,_,_,e,_⟩:=x;exact av e
 | ins C dx fs=>obtain ⟨_,_,_,e,_⟩:=x;exact av e
 | own y=>obtain ⟨_,e⟩:=x;exact av e
 | xd fs=>obtain ⟨_,⟨_,_,_,e,_⟩,_⟩:=x;exact av e
 | rng lo hi=>obtain ⟨_,_,_,e⟩:=x;exact av e
 | frz ob u=>obtain ⟨e,_⟩:=x;exact av e
 | tbl ps=>exact av (show h.get? a=some _ from x)
 | met f y=>exact av (show h.get? a=some _ from x)
 | ext φ=>obtain ⟨_,⟨_,e⟩,_⟩:=x;exact av e
theorem Paired.mapP {α β:Type}{F G:α->β->Prop}:∀{l₁:List α}{l₂:List β},ck F l₁ l₂->(∀a b,F a b->G a b)->ck G l₁ l₂
 | _,_,.nil,_=>.nil
 | _,_,.cons r t,f=>.cons (f _ _ r) (Paired.mapP t f)
theorem qg.stay (x:qg P w H h a o) (k:∀b u,(b=a\/H b=some (.own a))->h.get? b=some u->h'.get? b=some u)
  (ho:∀b,H b=some (.own a)->H' b=some (.own a)) (ht:∀b xs,H b=some (.tup xs)->H' b=some (.tup xs)):qg P w H' h' a o:=by
 induction o with
 | lst xs=>obtain ⟨z,its,n,r,e⟩:=x;exact ⟨z,its,n,r,k _ _ (.inl rfl) e⟩
 | tup xs=>obtain ⟨z,its,r,ob,e,c⟩:=x;exact ⟨z,its,r,ob,k _ _ (.inl rfl) e,c⟩
 | dK kvs=>obtain ⟨z,y,vs,r,ob,es,ep,e,c⟩:=x;exact ⟨z,y,vs,r,ob,es,ep,k _ _ (.inl rfl) e,c⟩
 | dT kvs =>
  obtain ⟨z,y,xs,r,ob,es,ep,e,c⟩:=x
  exact ⟨z,y,xs,Paired.mapP r λp q z=>⟨z.1,ht _ _ z.2.1,z.2.2⟩,ob,es,ep,k _ _ (.inl rfl) e,c⟩
 | set S n=>obtain ⟨ob,es,ep,t,e,c⟩:=x;exact ⟨ob,es,ep,t,k _ _ (.inl rfl) e,c⟩
 | ins C dx fs =>
  obtain ⟨d,z,ne,e,mA,⟨od,es,ep,e2,c⟩,r⟩:=x
  exact ⟨ho _ d,z,ne,k _ _ (.inl rfl) e,mA,⟨od,es,ep,k _ _ (.inr d) e2,c⟩,r⟩
 | own y=>obtain ⟨ob,e⟩:=x;exact ⟨ob,k _ _ (.inl rfl) e⟩
 | xd fs=>obtain ⟨mA,⟨od,es,ep,e,c⟩,r⟩:=x;exact ⟨mA,⟨od,es,ep,k _ _ (.inl rfl) e,c⟩,r⟩
 | rng lo hi=>obtain ⟨t,u,v,e⟩:=x;exact ⟨t,u,v,k _ _ (.inl rfl) e⟩
 | frz ob u ih=>obtain ⟨e,q⟩:=x;exact ⟨k _ _ (.inl rfl) e,ih q⟩
 | tbl ps =>
  have e:h.get? a=some { cls:=.none,data:=.fields ps }:=x
  show h'.get? a=some { cls:=.none,data:=.fields ps }
  exact k a _ (.inl rfl) e
 | met f y =>
  have e:h.get? a=some (lj (.ref f) (.ref y)):=x
  show h'.get? a=some (lj (.ref f) (.ref y))
  exact k a _ (.inl rfl) e
 | ext φ=>obtain ⟨p,⟨o,e⟩,st⟩:=x;exact ⟨st _ _ p λo q=>k _ _ (.inl rfl) q,⟨o,k _ _ (.inl rfl) e⟩,st⟩
theorem HOk.lt (x:HOk P w H h) (e:H a=some o):a<h.objs.size:=(x a o e).lt
theorem HOk.fresh (x:HOk P w H h) (e:h.objs.size<=a):H a=none:=by
 cases q:H a with
 | none=>rfl
 | some u=>exact absurd (aJ (x.lt q) e) (cc _)
theorem HOk.kept (x:HOk P w H h) (k:∀b u,h.get? b=some u->h'.get? b=some u):HOk P w H h':=λa o e =>
 (x a o e).stay (λb u _ q=>k b u q) (λ_ q=>q) λ_ _ q=>q
theorem HOk.laid (x:HOk P w H h) (k:∀b u,h.get? b=some u->h'.get? b=some u) (hp:h.objs.size<=a) (new:qg P w (upd H a o) h' a o):HOk P w (upd H a o) h':=λb u e=>by
 have hn:=x.fresh hp
 by_cases hb:b=a
 ·subst hb;rw [j4] at e;cases e;exact new
 ·rw [j5 hb] at e
  exact (x b u e).stay (λc v _ q=>k c v q) (λc q=>by rw [j5 (j1 q hn)];exact q) λc xs q=>by rw [j5 (j1 q hn)];exact q
end
noncomputable def Rd (H:Hp) (a:Addr) (u:HO):Prop:=H a=some u\/∃o,H a=some (.frz o u)
theorem Rd.ok {P:Program}{w:b8}{H:Hp}{h:Heap}{a:Addr}{u:HO}(r:Rd H a u) (x:HOk P w H h):qg P w H h a u:=by
 rcases r with r | ⟨o,r⟩
 ·exact x a u r
 ·obtain ⟨_,q⟩:=x a _ r
  exact q
noncomputable def Mut:Option HO->Prop
 | some (.lst _)=>True
 | some (.dK _)=>True
 | some (.dT _)=>True
 | some (.set _ _)=>True
 | some (.ins _ _ _)=>True
 | some (.ext _)=>True
 | _=>False
section
variable {P:Program}{w:b8}{H:Hp}{h h':Heap}{x e:Addr}{o':HO}
theorem HOk.write (ok:HOk P w H h) (mu:Mut (H x)) (he:e=x\/H e=some (.own x)) (k:∀b u,b≠e->h.get? b=some u->h'.get? b=some u) (heo:∃u,h'.get? e=some u)
  (new:qg P w (upd H x o') h' x o'):HOk P w (upd H x o') h':=λb u q=>by
 have nown:∀c y,H c=some (.own y)->c≠x:=λc y r z=>by subst z;rw [r] at mu;exact mu
 have ntup:∀c xs,H c=some (.tup xs)->c≠x:=λc xs r z=>by subst z;rw [r] at mu;exact mu
 by_cases hb:b=x
 ·subst hb;rw [j4] at q;cases q;exact new
 ·rw [j5 hb] at q
  by_cases hbe:b=e
  ·have q':H b=some (.own x):=by
    rcases he with z | z
    ·exact absurd (hbe.trans z) hb
    ·rw [hbe];exact z
   rw [q] at q';cases q'
   obtain ⟨v,hv⟩:=heo
   exact ⟨v,by rw [hbe];exact hv⟩
  ·refine (ok b u q).stay (λc v hc r=>k c v ?_ r) (λc r=>by rw [j5 (nown c b r)];exact r) λc xs r=>by rw [j5 (ntup c xs r)];exact r
   rcases hc with rfl | hc
   ·exact hbe
   ·rintro rfl
    rcases he with z | z
    ·exact nown c b hc z
    ·rw [hc] at z;cases z;exact hb rfl
end
structure Un (fs ex:List Addr) (H H':Hp) (h h':Heap):Prop where
 keep:∀b o,h.get? b=some o->H b=none->b∉fs->b∉ex->h'.get? b=some o
 slot:∀b o,h.get? b=some o->H b=none->b∈fs->b∉ex->∃sl,h'.get? b=some { o with slots:=sl }
 free:∀b o,h.get? b=some o->H b=none->b∉ex->H' b=none
 there:∀b o,h.get? b=some o->b∉ex->∃o',h'.get? b=some o'
 tups:∀b xs,H b=some (.tup xs)->H' b=some (.tup xs)
 frzs:∀b o u,H b=some (.frz o u)->H' b=some (.frz o u)
 tbls:∀b ps,H b=some (.tbl ps)->∃more,H' b=some (.tbl (ps++more))
section
variable {fs fs' ex ex':List Addr}{H H1 H2:Hp}{h h1 h2 h':Heap}{a x e:Addr}{o:HO}
theorem Un.any (u:Un fs ex H H1 h h1) {b:Addr}{ob:Obj}(q:h.get? b=some ob) (n:H b=none) (hx:b∉ex):∃sl,h1.get? b=some { ob with slots:=sl }:=by
 by_cases hb:b∈fs
 ·exact u.slot b ob q n hb hx
 ·exact ⟨ob.slots,u.keep b ob q n hb hx⟩
theorem Un.kept (k:∀b u,h.get? b=some u->h'.get? b=some u):Un fs ex H H h h' :=
 ⟨λb ob q _ _ _=>k b ob q,λb ob q _ _ _=>⟨ob.slots,k b ob q⟩,λ_ _ _ n _=>n,λb ob q _=>⟨ob,k b ob q⟩,λ_ _ q=>q,λ_ _ _ q=>q,λ_ ps q=>⟨#[],by rw [q];simp⟩⟩
theorem Un.refl:Un fs ex H H h h:=Un.kept λ_ _ q=>q
theorem Un.laid (k:∀b u,h.get? b=some u->h'.get? b=some u) (hp:h.objs.size<=a) (hn:H a=none):Un fs ex H (upd H a o) h h' where
 keep:=λb u q _ _ _=>k b u q
 slot:=λb u q _ _ _=>⟨u.slots,k b u q⟩
 free:=λb u q n _=>by rw [j5 (aD (aJ (av q) hp))];exact n
 there:=λb u q _=>⟨u,k b u q⟩
 tups:=λb xs q=>by rw [j5 (j1 q hn)];exact q
 frzs:=λb u xs q=>by rw [j5 (j1 q hn)];exact q
 tbls:=λb ps q=>⟨#[],by rw [j5 (j1 q hn),q];simp⟩
theorem Un.write (mu:Mut (H x)) (he:e=x\/H e=some (.own x)) (k:∀b u,b≠e->h.get? b=some u->h'.get? b=some u) (heo:∃u,h'.get? e=some u):Un fs ex H (upd H x o) h h':=by
 have hx:∀b,H b=none->b≠x:=λb n z=>by subst z;rw [n] at mu;exact mu
 have hb:∀b,H b=none->b≠e:=λb n z=>by
  subst z
  rcases he with r | r
  ·exact hx b n r
  ·rw [n] at r;cases r
 have hm:∀b u,H b=some u->¬Mut (some u)->b≠x:=λb u q nm z=>by subst z;rw [q] at mu;exact nm mu
 refine ⟨λb u q n _ _=>k b u (hb b n) q,λb u q n _ _=>⟨u.slots,k b u (hb b n) q⟩,λb u q n _=>by rw [j5 (hx b n)];exact n,λb u q _=>?_,
  λb xs q=>by rw [j5 (hm b _ q λz=>z)];exact q,λb u xs q=>by rw [j5 (hm b _ q λz=>z)];exact q,λb ps q=>⟨#[],by rw [j5 (hm b _ q λz=>z),q];simp⟩⟩
 by_cases hbe:b=e
 ·subst hbe;exact heo
 ·exact ⟨u,k b u hbe q⟩
end
noncomputable def trk (h:Heap) (H:Hp):List Addr:=(aK h.objs.size).filter λa=>(H a).isSome
noncomputable def hU (h:Heap) (H:Hp):Heap:=PySem.W.hideAll h (trk h H)
theorem Y9 (h:Heap) (H:Hp):(hU h H).objs.size=h.objs.size:=PySem.W.hideAll_size _ _
theorem Vf {h:Heap}{H:Hp}{b:Addr}{o:Obj}(e:h.get? b=some o) (n:H b=none):(hU h H).get? b=some o :=
 PySem.W.hideAll_get _ e λhm=>by
  have q:(H b).isSome=true:=(List.mem_filter.mp hm).2
  rw [n] at q;simp at q
theorem Uy {h:Heap}{H:Hp}{b:Addr}{o:Obj}(e:(hU h H).get? b=some o):h.get? b=some o/\H b=none:=by
 have e':h.get? b=some o:=PySem.W.of_hideAll (trk h H) e
 refine ⟨e',?_⟩
 cases q:H b with
 | none=>rfl
 | some x =>
  have hm:b∈trk h H:=List.mem_filter.mpr ⟨List.mem_range.mpr (av e'),by simp [q]⟩
  have z:(hU h H).get? b=none:=PySem.W.hideAll_none (trk h H) hm
  rw [z] at e;cases e
noncomputable def Uh (g h:Heap) (L:Addr):List (Addr×Obj):=(aK h.objs.size).filterMap λa=>if a=L\/(g.get? a).isSome=true then none else (h.get? a).map λo=>(a,o)
noncomputable def vC (g h:Heap) (L d:Addr):List (Addr×Obj):=(Uh g h L).filter λp=>decide (p.1≠d)
end L2
namespace L2
structure Mod (K:aj) (mg:Str->Option ah) (base:Heap):Prop where
 kin:K.In base
 glob:base.Ns mainGlobals mg
 blt:∃mb,base.Ns lV mb/\∀x:Str,x ≠ "__name__" -> mb x=fP x
 nolimit:base.NoLimit
structure Cx where
 prog:Program
 w:b8
 K:aj
 mg:Str->Option ah
 base:Heap
 A:br
 N:List Str
 s₀:Shared
 H₀:Hp
 env:Env
 outer:List Env
 stack:List Env
 ex:List Addr
 fn:Str->Bool
 calm:Bool
 pn:List (Addr×Obj)
 xe:ah->Shared->Prop
noncomputable def frs (l:List Env):List Addr:=l.filterMap (·.frame)
noncomputable abbrev Cx.fs (X:Cx):List Addr:=frs X.outer
noncomputable def Vis (sc:Scope) (x:Str):Prop:=sc.names.lookup x=some .local\/sc.names.lookup x=some .cell\/sc.names.lookup x=some .free
noncomputable def Loc (sc:Scope) (x:Str):Prop:=sc.names.lookup x=some .local\/sc.names.lookup x=some .cell
noncomputable def Look (env:Env) (h:Heap) (m:Str->Option ah) (x:Str) (u:ah):Prop :=
 (env.kindOf x=some .local/\m x=some u)\/((env.kindOf x=some .cell\/env.kindOf x=some .free)/\∃c,env.cells.lookup x=some c/\h.IsCell c (some u))
structure Cx.Ok (X:Cx):Prop where
 mod:Mod X.K X.mg X.base
 kind:X.env.scope.kind = .function
 glob:X.env.globals=mainGlobals
 blt:X.env.builtins=lV
 above:X.s₀.heap.objs.size<=X.env.locals
 inj:∀x y c,X.env.cells.lookup x=some c->X.env.cells.lookup y=some c->x=y
 has:∀x,(X.env.kindOf x=some .cell\/X.env.kindOf x=some .free)->∃c,X.env.cells.lookup x=some c
 cab:∀x c,X.fn x=true->X.env.cells.lookup x=some c->X.s₀.heap.objs.size<=c
 hd:X.calm=true->X.A.handled=none
 frames:X.A.frames=some X.stack
 stk:X.stack=X.outer\/(X.stack=X.env::X.outer/\X.env.frame=some X.env.locals)
 exf:∀b∈X.ex,b≠X.env.locals/\∀x c,X.env.cells.lookup x=some c->c≠b
 bs:∀b o,X.base.get? b=some o->X.s₀.heap.get? b=some o/\X.H₀ b=none
 bsz:X.base.objs.size<=X.s₀.heap.objs.size
 noex:∀b o,X.base.get? b=some o->b∉X.ex
 exfs:∀b∈X.ex,b∉X.fs
 funs:X.s₀.heap.FunFrames X.base X.outer
 frf:∀b∈X.fs,X.H₀ b=none
structure Inv (X:Cx) (pins:List (Addr×Obj)) (σ:List (Option V)) (H:Hp) (s:Shared):Prop where
 ok:X.Ok
 os:s.os=X.s₀.os
 bare:ip s.gens
 base:Un X.fs X.ex X.H₀ H X.s₀.heap s.heap
 loc:∃m,s.heap.Ns X.env.locals m/\∀(i:Nat) (x:Str) (v:V),X.N[i]? = some x->σ[i]? = some (some v)->Vis X.env.scope x->∃u,jx v u/\Look X.env s.heap m x u
 cell:∀x c,X.env.cells.lookup x=some c->∃v,s.heap.IsCell c v
 free:H X.env.locals=none
 freeC:∀x c,X.env.cells.lookup x=some c->H c=none
 pin:∀p∈X.pn++pins,s.heap.get? p.1=some p.2/\H p.1=none/\p.1≠X.env.locals/\p.1∉X.fs/\∀v,p.2.data≠.cell v
 hok:HOk X.prog X.w H s.heap
 len:σ.length=X.N.length
section
variable {X:Cx}{pins:List (Addr×Obj)}{σ:List (Option V)}{H H':Hp}{s:Shared}{h':Heap}
theorem Cx.Ok.nofr (ok:X.Ok) {b:Addr}{o:Obj}(e:X.base.get? b=some o):b∉X.fs:=λhb=>by
 have:=(ok.funs.mem hb).1
 rw [e] at this;cases this
theorem Inv.bs (I:Inv X pins σ H s):∀b o,X.base.get? b=some o->s.heap.get? b=some o/\H b=none:=λb o e =>
 ⟨I.base.keep b o (I.ok.bs b o e).1 (I.ok.bs b o e).2 (I.ok.nofr e) (I.ok.noex b o e),I.base.free b o (I.ok.bs b o e).1 (I.ok.bs b o e).2 (I.ok.noex b o e)⟩
theorem Inv.bk (I:Inv X pins σ H s):∀b o,X.base.get? b=some o->s.heap.get? b=some o:=λb o e=>(I.bs b o e).1
theorem Inv.mod (I:Inv X pins σ H s):Mod X.K X.mg X.base:=I.ok.mod
theorem Inv.kIn (I:Inv X pins σ H s):X.K.In s.heap:=I.ok.mod.kin.keeps I.bk
theorem Inv.lt (I:Inv X pins σ H s):X.env.locals<s.heap.objs.size:=let ⟨_,hn,_⟩:=I.loc;hn.lt
theorem Inv.sz (I:Inv X pins σ H s):X.s₀.heap.objs.size<=s.heap.objs.size:=aI I.ok.above (cJ I.lt)
theorem Inv.nofs (I:Inv X pins σ H s) {a:Addr}(h:s.heap.objs.size<=a):a∉X.fs:=λhb=>by
 obtain ⟨_,o,ho,_⟩:=I.ok.funs.mem hb
 exact absurd (aJ (av ho) (aI I.sz h)) (cc _)
theorem Inv.cne (I:Inv X pins σ H s):∀x c,X.env.cells.lookup x=some c->c≠X.env.locals:=λx c e z=>by
 obtain ⟨v,o,ho,hd⟩:=I.cell x c e
 obtain ⟨m,⟨o',es,ep,ho',hd',_⟩,_⟩:=I.loc
 rw [z,ho'] at ho;cases ho;rw [hd'] at hd;cases hd
theorem Inv.funs (I:Inv X pins σ H s):s.heap.FunFrames X.base X.outer:=by
 have all:∀(l:List Env),(∀b∈frs l,b∈X.fs)->X.s₀.heap.FunFrames X.base l->s.heap.FunFrames X.base l:=by
  intro l
  induction l with
  | nil=>intro _ _;trivial
  | cons env r ih =>
   intro hs hl
   obtain ⟨hk,⟨L,o,hf,hn,ho,hd⟩,hr⟩:=hl
   have hL:L∈X.fs:=hs L (by unfold frs;rw [iI,hf];exact aG)
   obtain ⟨sl,e⟩:=I.base.slot L o ho (I.ok.frf L hL) hL λz=>I.ok.exfs L z hL
   exact ⟨hk,⟨L,_,hf,hn,e,hd⟩,ih (λb hb=>hs b (by unfold frs;rw [iI,hf];exact az _ hb)) hr⟩
 exact all X.outer (λ_ hb=>hb) I.ok.funs
theorem Inv.stack (I:Inv X pins σ H s):s.heap.FunFrames X.base X.stack:=by
 rcases I.ok.stk with e | ⟨e,hf⟩
 ·rw [e];exact I.funs
 ·rw [e]
  obtain ⟨m,hn,_⟩:=I.loc
  refine .cons (by rw [I.ok.kind];decide) hf hn ?_ I.funs
  exact Heap.get?_none_of_le (aI I.ok.bsz I.ok.above)
theorem Inv.stkSub (I:Inv X pins σ H s):∀b∈frs X.stack,b∈X.env.locals::X.fs:=λb hb=>by
 rcases I.ok.stk with e | ⟨e,hf⟩
 ·rw [e] at hb;exact az _ hb
 ·rw [e] at hb
  unfold frs at hb
  rw [iI,hf] at hb
  exact hb
theorem Inv.stkFree (I:Inv X pins σ H s):∀b∈frs X.stack,H b=none:=λb hb=>by
 rcases List.mem_cons.mp (I.stkSub b hb) with e | hb
 ·rw [e];exact I.free
 ·obtain ⟨_,o,ho,_⟩:=I.ok.funs.mem hb
  exact I.base.free b o ho (I.ok.frf b hb) λz=>I.ok.exfs b z hb
theorem Inv.step {g':Array sO}{t':Nat}{d':Drawn}{ch:List Addr}(I:Inv X pins σ H s)
  (hch:∀b∈ch,(b∈X.ex\/X.s₀.heap.objs.size<=b)/\b≠X.env.locals/\(∀x c,X.env.cells.lookup x=some c->c≠b)/\∀p∈X.pn++pins,p.1≠b)
  (keep:∀b o,b≠X.env.locals->b∉X.fs->b∉ch->s.heap.get? b=some o->H b=none->h'.get? b=some o)
  (slot:∀b o,b≠X.env.locals->b∈X.fs->b∉ch->s.heap.get? b=some o->H b=none->∃sl,h'.get? b=some { o with slots:=sl }) (free:∀b o,b∉ch->s.heap.get? b=some o->H b=none->H' b=none)
  (there:∀b o,b∉ch->s.heap.get? b=some o->∃o',h'.get? b=some o')
  (tups:∀b xs,H b=some (.tup xs)->H' b=some (.tup xs)) (frzs:∀b o u,H b=some (.frz o u)->H' b=some (.frz o u)) (tbls:∀b ps,H b=some (.tbl ps)->∃more,H' b=some (.tbl (ps++more)))
  (ns:∀m,s.heap.Ns X.env.locals m->h'.Ns X.env.locals m) (hok:HOk X.prog X.w H' h') (hg:ip g') :
  Inv X pins σ H' { s with heap:=h',gens:=g',drawn:=d',toks:=t' }:=by
 have neL:∀b o,X.s₀.heap.get? b=some o->b≠X.env.locals:=λb o e=>aD (aJ (av e) I.ok.above)
 have neC:∀b o,X.s₀.heap.get? b=some o->b∉X.ex->b∉ch:=λb o e hx hb=>by
  rcases (hch b hb).1 with z | z
  ·exact hx z
  ·exact absurd (aJ (av e) z) (cc _)
 have cellK:∀x c,X.env.cells.lookup x=some c->∀v,s.heap.IsCell c v->h'.IsCell c v:=λx c e v ⟨o,ho,hd⟩=>by
  have nch:c∉ch:=λz=>(hch c z).2.2.1 x c e rfl
  by_cases hc:c∈X.fs
  ·obtain ⟨sl,q⟩:=slot c o (I.cne x c e) hc nch ho (I.freeC x c e)
   exact ⟨_,q,hd⟩
  ·exact ⟨o,keep c o (I.cne x c e) hc nch ho (I.freeC x c e),hd⟩
 refine ⟨I.ok,I.os,hg,⟨λb o e n hb hx=>?_,λb o e n hb hx=>?_,λb o e n hx=>?_,λb o e hx=>?_,λb xs e=>tups b xs (I.base.tups b xs e),λb o xs e=>frzs b o xs (I.base.frzs b o xs e),λb ps e=>?_⟩,?_,λx c e=>?_,?_,λx c e=>?_,λp hp=>?_,hok,I.len⟩
 ·exact keep b o (neL b o e) hb (neC b o e hx) (I.base.keep b o e n hb hx) (I.base.free b o e n hx)
 ·obtain ⟨sl,e1⟩:=I.base.slot b o e n hb hx
  obtain ⟨sl',e2⟩:=slot b _ (neL b o e) hb (neC b o e hx) e1 (I.base.free b o e n hx)
  exact ⟨sl',e2⟩
 ·obtain ⟨o',e1⟩:=I.base.there b o e hx
  exact free b o' (neC b o e hx) e1 (I.base.free b o e n hx)
 ·obtain ⟨o',e1⟩:=I.base.there b o e hx
  exact there b o' (neC b o e hx) e1
 ·obtain ⟨m1,e1⟩:=I.base.tbls b ps e
  obtain ⟨m2,e2⟩:=tbls b _ e1
  exact ⟨m1++m2,by rw [e2,Array.append_assoc]⟩
 ·obtain ⟨m,hn,hl⟩:=I.loc
  refine ⟨m,ns m hn,λi x v e1 e2 e3=>?_⟩
  obtain ⟨u,r,l⟩:=hl i x v e1 e2 e3
  refine ⟨u,r,?_⟩
  rcases l with l | ⟨k,c,e,z⟩
  ·exact .inl l
  ·exact .inr ⟨k,c,e,cellK x c e _ z⟩
 ·obtain ⟨v,z⟩:=I.cell x c e
  exact ⟨v,cellK x c e v z⟩
 ·obtain ⟨m,⟨o,_,_,ho,_⟩,_⟩:=I.loc
  exact free _ o (λz=>(hch _ z).2.1 rfl) ho I.free
 ·obtain ⟨v,o,ho,hd⟩:=I.cell x c e
  exact free c o (λz=>(hch c z).2.2.1 x c e rfl) ho (I.freeC x c e)
 ·obtain ⟨e,n,ne,nf,d⟩:=I.pin p hp
  have nch:p.1∉ch:=λz=>(hch p.1 z).2.2.2 p hp rfl
  exact ⟨keep p.1 p.2 ne nf nch e n,free p.1 p.2 nch e n,ne,nf,d⟩
theorem Inv.un {t':Nat}(I:Inv X pins σ H s) (u:Un X.fs [] H H' s.heap h') (hok:HOk X.prog X.w H' h'):Inv X pins σ H' { s with heap:=h',toks:=t' }:=by
 obtain ⟨m,⟨o,es,ep,ho,r⟩,_⟩:=id I.loc
 obtain ⟨sl,hL⟩:=u.any ho I.free (by simp)
 exact I.step (g':=s.gens) (d':=s.drawn) (ch:=[]) (λ_ z=>nomatch z) (λb o _ hb _ e n=>u.keep b o e n hb (by simp)) (λb o _ hb _ e n=>u.slot b o e n hb (by simp)) (λb o _ e n=>u.free b o e n (by simp)) (λb o _ e=>u.there b o e (by simp)) u.tups u.frzs u.tbls (λm' hm=>by
  obtain ⟨o',es',ep',ho',r'⟩:=hm
  rw [ho] at ho';cases ho'
  exact ⟨_,es',ep',hL,r'⟩) hok I.bare
theorem Inv.call {g':Array sO}{t':Nat}{d':Drawn}{ch:List Addr}(I:Inv X pins σ H s) (u:Un (frs X.stack) ch H H' s.heap h') (hok:HOk X.prog X.w H' h') (hg:ip g')
  (hch:∀b∈ch,(b∈X.ex\/X.s₀.heap.objs.size<=b)/\b≠X.env.locals/\(∀x c,X.env.cells.lookup x=some c->c≠b)/\∀p∈X.pn++pins,p.1≠b) :
  Inv X pins σ H' { s with heap:=h',gens:=g',drawn:=d',toks:=t' }:=by
 obtain ⟨m,⟨o,es,ep,ho,r⟩,_⟩:=id I.loc
 obtain ⟨sl,hL⟩:=u.any ho I.free λz=>(hch _ z).2.1 rfl
 exact I.step (ch:=ch) hch (λb o hL hb hc e n=>u.keep b o e n (λz=>(List.mem_cons.mp (I.stkSub b z)).elim hL hb) hc) (λb o _ _ hc e n=>u.any e n hc) (λb o hc e n=>u.free b o e n hc) (λb o hc e=>u.there b o e hc) u.tups u.frzs u.tbls (λm' hm=>by
  obtain ⟨o',es',ep',ho',r'⟩:=hm
  rw [ho] at ho';cases ho'
  exact ⟨_,es',ep',hL,r'⟩) hok hg
theorem Inv.turned {t':Nat}{it:Addr}(I:Inv X pins σ H s) (k:∀b o,b≠it->s.heap.get? b=some o->h'.get? b=some o) (hn:H it=none) (hL:it≠X.env.locals)
  (h1:it∈X.ex\/X.s₀.heap.objs.size<=it) (h2:∀x c,X.env.cells.lookup x=some c->c≠it) (h3:∀p∈X.pn++pins,p.1≠it):Inv X pins σ H { s with heap:=h',toks:=t' }:=by
 have nit:∀b u,H b=some u->b≠it:=λb u e z=>by rw [z,hn] at e;cases e
 refine I.step (g':=s.gens) (d':=s.drawn) (ch:=[it]) (λb hb=>?_) (λb o _ _ hc e _=>k b o (λz=>hc (by simp [z])) e) (λb o _ _ hc e _=>⟨o.slots,k b o (λz=>hc (by simp [z])) e⟩) (λ_ _ _ _ n=>n)
  (λb o hc e=>⟨o,k b o (λz=>hc (by simp [z])) e⟩) (λ_ _ e=>e) (λ_ _ _ e=>e) (λb ps e=>⟨#[],by rw [e];simp⟩) (λm hm=>?_) (λb u e=>?_) I.bare
 ·have e:b=it:=by simpa using hb
  subst e
  exact ⟨h1,hL,h2,h3⟩
 ·obtain ⟨o,es,ep,ho,r⟩:=hm
  exact ⟨o,es,ep,k _ o (cA hL) ho,r⟩
 ·refine (I.hok b u e).stay (λc v hc q=>k c v ?_ q) (λ_ q=>q) λ_ _ q=>q
  rcases hc with z | z
  ·rw [z];exact nit b u e
  ·exact nit c _ z
theorem Inv.tok (I:Inv X pins σ H s) (t:Nat):Inv X pins σ H { s with toks:=t }:=I.un (h':=s.heap) (t':=t) Un.refl I.hok
theorem Inv.kept {t':Nat}(I:Inv X pins σ H s) (k:∀b u,s.heap.get? b=some u->h'.get? b=some u):Inv X pins σ H { s with heap:=h',toks:=t' }:=I.un (Un.kept k) (I.hok.kept k)
theorem Inv.laid {a:Addr}{o:HO}{t':Nat}(I:Inv X pins σ H s) (k:∀b u,s.heap.get? b=some u->h'.get? b=some u) (hp:s.heap.objs.size<=a) (new:qg X.prog X.w (upd H a o) h' a o) :
  Inv X pins σ (upd H a o) { s with heap:=h',toks:=t' }:=I.un (Un.laid k hp (I.hok.fresh hp)) (I.hok.laid k hp new)
theorem Inv.write {x e:Addr}{o:HO}{t':Nat}(I:Inv X pins σ H s) (mu:Mut (H x)) (he:e=x\/H e=some (.own x)) (k:∀b u,b≠e->s.heap.get? b=some u->h'.get? b=some u) (heo:∃u,h'.get? e=some u)
  (new:qg X.prog X.w (upd H x o) h' x o):Inv X pins σ (upd H x o) { s with heap:=h',toks:=t' }:=I.un (Un.write mu he k heo) (I.hok.write mu he k heo new)
theorem Inv.pins_of {pins':List (Addr×Obj)}(I:Inv X pins σ H s) (h:∀p∈pins',s.heap.get? p.1=some p.2/\H p.1=none/\p.1≠X.env.locals/\p.1∉X.fs/\∀v,p.2.data≠.cell v):Inv X pins' σ H s :=
 ⟨I.ok,I.os,I.bare,I.base,I.loc,I.cell,I.free,I.freeC,λp hp=>(List.mem_append.mp hp).elim (λz=>I.pin p (d6 _ z)) (h p),I.hok,I.len⟩
theorem Qc {N:List Str}(hN:N.Nodup) {i j:Nat}{x:Str}(a:N[i]? = some x) (b:N[j]? = some x):i=j:=by
 obtain ⟨h1,e1⟩:=List.getElem?_eq_some_iff.mp a
 obtain ⟨h2,e2⟩:=List.getElem?_eq_some_iff.mp b
 exact (List.getElem_inj hN).mp (e1.trans e2.symm)
theorem uI {M:sQ}{A:br}{E:ah->Shared->Prop}{i:Nat}{x:Str}{v:V}{u:ah}{Q:Unit->Shared->Prop}(I:Inv X pins σ H s) (hN:X.N.Nodup) (hi:X.N[i]? = some x) (hx:Loc X.env.scope x) (r:jx v u)
  (h:∀s',Inv X pins (σ.set i (some v)) H s'->(∃a,eM a s.heap s'.heap/\(a=X.env.locals\/X.env.cells.lookup x=some a))->Q () s') (hf:X.fn x=true\/X.env.scope.names.lookup x=some .local:=by first | exact .inl rfl | exact .inr rfl | assumption):aC M A (storeName X.env x u) Q E s:=by
 obtain ⟨m,hn,hl⟩:=id I.loc
 have hcls:(X.env.scope.kind == .class || (X.env.scope.kind == .module && X.env.locals != X.env.globals))=false:=by rw [I.ok.kind];rfl
 have hiσ:i<σ.length:=by rw [I.len];exact (List.getElem?_eq_some_iff.mp hi).1
 have cne:=I.cne
 have tracked:∀{a:Addr} {h':Heap},(∃o,s.heap.get? a=some o/\H a=none)->eM a s.heap h'->HOk X.prog X.w H h':=λ{a h'} ha hs b ob e=>by
  obtain ⟨_,_,hfree⟩:=ha
  refine (I.hok b ob e).stay (λc w' hc q=>(hs.2 c ?_).trans q) (λ_ q=>q) λ_ _ q=>q
  rintro rfl
  rcases hc with rfl | hc
  ·rw [hfree] at e;cases e
  ·rw [hfree] at hc;cases hc
 rcases hx with hk | hk
 ·refine wpAny_storeName_local hk hn (λh' hn' hs=>?_) hcls
  obtain ⟨oL,_,_,hoL,_⟩:=id hn
  refine h _ ⟨I.ok,I.os,I.bare,⟨λb o e n hb hx=>?_,λb o e n hb hx=>?_,I.base.free,λb o e hx=>?_,I.base.tups,I.base.frzs,I.base.tbls⟩,⟨_,hn',λj y v' e1 e2 e3=>?_⟩,λy c e=>?_,I.free,I.freeC,λp hp=>?_,tracked ⟨oL,hoL,I.free⟩ hs,by simpa using I.len⟩ ⟨_,hs,.inl rfl⟩
  ·exact (hs.2 b (aD (aJ (av e) I.ok.above))).trans (I.base.keep b o e n hb hx)
  ·obtain ⟨sl,e1⟩:=I.base.slot b o e n hb hx
   exact ⟨sl,(hs.2 b (aD (aJ (av e) I.ok.above))).trans e1⟩
  ·obtain ⟨o',e1⟩:=I.base.there b o e hx
   exact ⟨o',(hs.2 b (aD (aJ (av e) I.ok.above))).trans e1⟩
  ·by_cases hj:j=i
   ·subst hj
    rw [hi] at e1;cases e1
    rw [lW hiσ] at e2
    cases e2
    exact ⟨u,r,.inl ⟨hk,by simp⟩⟩
   ·rw [mP (cA hj)] at e2
    obtain ⟨u',r',q⟩:=hl j y v' e1 e2 e3
    refine ⟨u',r',?_⟩
    rcases q with ⟨k,e⟩ | ⟨k,c,e,z⟩
    ·refine .inl ⟨k,?_⟩
     have:y≠x:=λe=>hj (Qc hN e1 (e ▸ hi))
     simp [this,e]
    ·exact .inr ⟨k,c,e,z.sameBut hs (cne y c e)⟩
  ·obtain ⟨w',z⟩:=I.cell y c e
   exact ⟨w',z.sameBut hs (cne y c e)⟩
  ·obtain ⟨e,n,ne,nf,d⟩:=I.pin p hp
   exact ⟨(hs.2 p.1 ne).trans e,n,ne,nf,d⟩
 ·have hfn:X.fn x=true:=by
   rcases hf with z | z
   ·exact z
   ·rw [z] at hk;cases hk
  obtain ⟨c,hc⟩:=I.ok.has x (.inl hk)
  obtain ⟨w',z⟩:=I.cell x c hc
  refine wpAny_storeName_cell I.ok.kind hk hc z (λh' hc' hs=>?_)
  obtain ⟨oc,hoc,hocd⟩:=id z
  refine h { s with heap:=h' } ⟨I.ok,I.os,I.bare,⟨λb o e n hb hx=>?_,λb o e n hb hx=>?_,I.base.free,λb o e hx=>?_,I.base.tups,I.base.frzs,I.base.tbls⟩,⟨m,hn.sameBut hs (cA (cne x c hc)),λj y v' e1 e2 e3=>?_⟩,λy c' e=>?_,I.free,I.freeC,λp hp=>?_,tracked ⟨oc,hoc,I.freeC x c hc⟩ hs,by simpa using I.len⟩ ⟨c,hs,.inr hc⟩
  ·exact (hs.2 b (aD (aJ (av e) (I.ok.cab x c hfn hc)))).trans (I.base.keep b o e n hb hx)
  ·obtain ⟨sl,e1⟩:=I.base.slot b o e n hb hx
   exact ⟨sl,(hs.2 b (aD (aJ (av e) (I.ok.cab x c hfn hc)))).trans e1⟩
  ·obtain ⟨o',e1⟩:=I.base.there b o e hx
   exact ⟨o',(hs.2 b (aD (aJ (av e) (I.ok.cab x c hfn hc)))).trans e1⟩
  ·by_cases hj:j=i
   ·subst hj
    rw [hi] at e1;cases e1
    rw [lW hiσ] at e2
    cases e2
    exact ⟨u,r,.inr ⟨.inl hk,c,hc,hc'⟩⟩
   ·rw [mP (cA hj)] at e2
    obtain ⟨u',r',q⟩:=hl j y v' e1 e2 e3
    refine ⟨u',r',?_⟩
    rcases q with q | ⟨k,c',e,z'⟩
    ·exact .inl q
    ·refine .inr ⟨k,c',e,z'.sameBut hs ?_⟩
     rintro rfl
     exact hj (Qc hN e1 (I.ok.inj _ _ _ e hc ▸ hi))
  ·by_cases hcc:c'=c
   ·subst hcc;exact ⟨_,hc'⟩
   ·obtain ⟨w2,z2⟩:=I.cell y c' e
    exact ⟨w2,z2.sameBut hs hcc⟩
  ·obtain ⟨e,n,ne,nf,d⟩:=I.pin p hp
   refine ⟨(hs.2 p.1 ?_).trans e,n,ne,nf,d⟩
   intro q
   rw [q,hoc] at e
   have q':oc=p.2:=aM e
   exact d w' (by rw [<- q'];exact hocd)
theorem QY {M:sQ}{A:br}{E:ah->Shared->Prop}{i:Nat}{x:Str}{v:V}{u:ah}{Q:Unit->Shared->Prop}(I:Inv X pins σ H s) (hN:X.N.Nodup) (hi:X.N[i]? = some x) (hx:Loc X.env.scope x) (r:jx v u)
  (h:∀s',Inv X pins (σ.set i (some v)) H s'->Q () s') (hf:X.fn x=true\/X.env.scope.names.lookup x=some .local:=by first | exact .inl rfl | exact .inr rfl | assumption):aC M A (storeName X.env x u) Q E s :=
 uI I hN hi hx r (λs' I' _=>h s' I') hf
theorem Inv.call' {s':Shared}{ch:List Addr}(I:Inv X pins σ H s) (ho:s'.os=s.os) (u:Un (frs X.stack) ch H H' s.heap s'.heap) (hok:HOk X.prog X.w H' s'.heap) (hg:ip s'.gens)
  (hch:∀b∈ch,(b∈X.ex\/X.s₀.heap.objs.size<=b)/\b≠X.env.locals/\(∀x c,X.env.cells.lookup x=some c->c≠b)/\∀p∈X.pn++pins,p.1≠b):Inv X pins σ H' s':=by
 obtain ⟨h',g',d',t',o'⟩:=s'
 have e:o'=s.os:=ho
 subst e
 exact I.call (g':=g') (t':=t') (d':=d') u hok hg hch
end
noncomputable abbrev XK:=ah->Option Addr->Hp->Prop
noncomputable abbrev St:=List (Option V)
noncomputable abbrev VK:=V->Hp->Prop
noncomputable abbrev TE:=St->Hp->VK->Prop
noncomputable abbrev TT:=St->Hp->(Bool->Hp->Prop)->Prop
noncomputable abbrev TA:=St->Hp->(List V->Hp->Prop)->Prop
structure Ends where
 nx:St->Hp->Prop
 rt:VK
 bk:St->Hp->Prop:=λ_ _=>False
 ct:St->Hp->Prop:=λ_ _=>False
noncomputable abbrev TS:=Ends->St->Hp->Prop
noncomputable def EP (X:Cx) (pins:List (Addr×Obj)) (σ:St) (Q:VK) (u:ah) (s':Shared):Prop:=∃v H',Inv X pins σ H' s'/\jx v u/\Q v H'
noncomputable def TP (X:Cx) (pins:List (Addr×Obj)) (σ:St) (Q:Bool->Hp->Prop) (b:Bool) (s':Shared):Prop:=∃H',Inv X pins σ H' s'/\Q b H'
noncomputable def AP (X:Cx) (pins:List (Addr×Obj)) (σ:St) (Q:List V->Hp->Prop) (us:List ah) (s':Shared):Prop:=∃vs H',Inv X pins σ H' s'/\jB vs us/\Q vs H'
noncomputable def SP (X:Cx) (pins:List (Addr×Obj)) (D:Ends) (f:Flow) (s':Shared):Prop :=
 match f with
 | .next=>∃σ' H',Inv X pins σ' H' s'/\D.nx σ' H'
 | .brk=>∃σ' H',Inv X pins σ' H' s'/\D.bk σ' H'
 | .cont=>∃σ' H',Inv X pins σ' H' s'/\D.ct σ' H'
 | .ret u=>∃v σ' H',Inv X pins σ' H' s'/\jx v u/\D.rt v H'
noncomputable def PE (X:Cx) (e:Expr) (t:TE):Prop :=
 ∀(pins:List (Addr×Obj)) (s:Shared) (σ:St) (H:Hp) (Q:VK),Inv X pins σ H s->t σ H Q->aC (aH X.prog X.w) X.A (eval e X.env) (EP X pins σ Q) X.xe s
noncomputable def PT (X:Cx) (e:Expr) (t:TT):Prop :=
 ∀(pins:List (Addr×Obj)) (s:Shared) (σ:St) (H:Hp) (Q:Bool->Hp->Prop),Inv X pins σ H s->t σ H Q->aC (aH X.prog X.w) X.A (isTrue e X.env (eval e X.env)) (TP X pins σ Q) X.xe s
noncomputable def PW (X:Cx) (e:Expr) (t:TT):Prop :=
 ∀(whole:Sem ah) (pins:List (Addr×Obj)) (s:Shared) (σ:St) (H:Hp) (Q:Bool->Hp->Prop),Inv X pins σ H s->t σ H Q->aC (aH X.prog X.w) X.A (isTrue e X.env whole) (TP X pins σ Q) X.xe s
theorem PW.pt {X:Cx}{e:Expr}{t:TT}(h:PW X e t):PT X e t:=h _
noncomputable def PA (X:Cx) (es:List Expr) (t:TA):Prop :=
 ∀(pos:Pos) (pins:List (Addr×Obj)) (s:Shared) (σ:St) (H:Hp) (Q:List V->Hp->Prop),Inv X pins σ H s->t σ H Q->aC (aH X.prog X.w) X.A (spliced (cz pos (aN es X.env))) (AP X pins σ Q) X.xe s
noncomputable def PS (X:Cx) (st:Stmt) (t:TS):Prop :=
 ∀(pins:List (Addr×Obj)) (s:Shared) (σ:St) (H:Hp) (D:Ends),Inv X pins σ H s->t D σ H->aC (aH X.prog X.w) X.A (exec st X.env) (SP X pins D) X.xe s
noncomputable def PSs (X:Cx) (st:List Stmt) (t:TS):Prop :=
 ∀(pins:List (Addr×Obj)) (s:Shared) (σ:St) (H:Hp) (D:Ends),Inv X pins σ H s->t D σ H->aC (aH X.prog X.w) X.A (execs st X.env) (SP X pins D) X.xe s
theorem thn {α:Type}{t:Sem α}{Q Q':α->Shared->Prop}{M:sQ}{A:br}{E:ah->Shared->Prop}{s:Shared}(h:aC M A t Q E s) (hQ:∀a s,Q a s->Q' a s):aC M A t Q' E s:=b9 h hQ λ_ _ x=>x
end L2
namespace L2
section
variable {X:Cx}
theorem bin {a b:Expr}{ta tb:TE}(ha:PE X a ta) (hb:PE X b tb) {pins:List (Addr×Obj)}{s:Shared}{σ:St}{H:Hp}{R:V->V->Hp->Prop}(I:Inv X pins σ H s) (h:ta σ H λx H1=>tb σ H1 λy H2=>R x y H2)
  {α:Type} {Q:α->Shared->Prop} {f:ah->ah->Sem α}
  (hf:∀v u s2 x y H2,Inv X pins σ H2 s2->jx x v->jx y u->R x y H2->aC (aH X.prog X.w) X.A (f v u) Q X.xe s2) :
  aC (aH X.prog X.w) X.A (eval a X.env) (λv s₁=>aC (aH X.prog X.w) X.A (eval b X.env) (λu s₂=>aC (aH X.prog X.w) X.A (f v u) Q X.xe s₂) X.xe s₁) X.xe s:=by
 refine thn (ha pins s σ H _ I h) λv s1 ⟨x,H1,I1,r1,q1⟩=>?_
 refine thn (hb pins s1 σ H1 _ I1 q1) λu s2 ⟨y,H2,I2,r2,q2⟩=>?_
 exact hf v u s2 x y H2 I2 r1 r2 q2
noncomputable def Xl (i:Nat):TE:=λσ H Q=>∃v,σ[i]? = some (some v)/\Q v H
noncomputable def tC (v:V):TE:=λ_ H Q=>Q v H
theorem Wp {i:Nat}{x:Str}{pos:Pos}(hN:X.N[i]? = some x) (hv:Vis X.env.scope x) (hd:(x == ("__debug__" : Str))=false:=by decide) (hcd:(x == ("__classdict__" : Str))=false:=by decide):PE X (.Name x pos) (Xl i):=by
 intro pins s σ H Q I h
 obtain ⟨v,e,h⟩:=h
 obtain ⟨m,hn,hl⟩:=I.loc
 obtain ⟨u,r,l⟩:=hl i x v hN e hv
 have fin:EP X pins σ Q u s:=⟨v,H,I,r,h⟩
 rcases l with ⟨hk,hm⟩ | ⟨hk,c,hc,hcell⟩
 ·exact rA (wpAny_loadName_local I.ok.kind hk hn hm fin) hd
 ·rcases hk with hk | hk
  ·exact rA (wpAny_loadName_cell I.ok.kind hk hc hcell fin) hd
  ·exact rA (wpAny_loadName_free I.ok.kind hk hc hcell fin hcd) hd
theorem j8 {i j pos}:PE X (.Constant (.int i) j pos) (tC (.int i)):=λ_ _ _ H _ I h=>wpAny_Constant_int ⟨.int i,H,I.tok _,⟨_,rfl⟩,h⟩
theorem gK {b j pos}:PE X (.Constant (.bool b) j pos) (tC (.bl b)):=λ_ _ _ H _ I h=>Constant_bool ⟨.bl b,H,I,rfl,h⟩
theorem Vm {j pos}:PE X (.Constant .none j pos) (tC .non):=λ_ _ _ H _ I h=>Constant_none ⟨.non,H,I,rfl,h⟩
theorem jJ {x j pos}:PE X (.Constant (.str x) j pos) (tC (.str x)):=λ_ _ _ H _ I h=>Calls.Constant_str ⟨.str x,H,I.tok _,⟨_,rfl⟩,h⟩
noncomputable def Gl (X:Cx) (x:Str):Prop:=X.env.kindOf x=some .globalImplicit
theorem uh {E:ah->Shared->Prop}{pins:List (Addr×Obj)}{s:Shared}{σ:St}{H:Hp}{x:Str}{u:ah}{pos:Pos}{Q:ah->Shared->Prop}(I:Inv X pins σ H s) (hg:Gl X x) (hm:X.mg x=some u) (h:Q u s)
  (hd:(x == ("__debug__" : Str))=false:=by decide):aC (aH X.prog X.w) X.A (eval (.Name x pos) X.env) Q E s :=
 iP I.ok.kind hg (Calls.loadGlobal_global (by rw [I.ok.glob];exact I.mod.glob.keeps I.bk) hm h) hd
theorem zK {E:ah->Shared->Prop}{pins:List (Addr×Obj)}{s:Shared}{σ:St}{H:Hp}{x:Str}{u:ah}{pos:Pos}{Q:ah->Shared->Prop}(I:Inv X pins σ H s) (hg:Gl X x) (hm:X.mg x=none) (hv:fP x=some u) (h:Q u s)
  (hn:x ≠ "__name__":=by decide) (hd:(x == ("__debug__" : Str))=false:=by decide):aC (aH X.prog X.w) X.A (eval (.Name x pos) X.env) Q E s:=by
 obtain ⟨mb,h1,h2⟩:=I.mod.blt
 exact iP I.ok.kind hg (Calls.loadGlobal_builtin (by rw [I.ok.glob];exact I.mod.glob.keeps I.bk) hm (by rw [I.ok.blt];exact h1.keeps I.bk) ((h2 x hn).trans hv) h) hd
theorem xc {x:Str}{v:V}{u:ah}{pos:Pos}(hg:Gl X x) (hm:X.mg x=some u) (r:jx v u) (hd:(x == ("__debug__" : Str))=false:=by decide):PE X (.Name x pos) (tC v) :=
 λ_ _ _ H _ I h=>uh I hg hm ⟨v,H,I,r,h⟩ hd
theorem xB {x:Str}{v:V}{u:ah}{pos:Pos}(hg:Gl X x) (hm:X.mg x=none) (hv:fP x=some u) (r:jx v u) (hn:x ≠ "__name__":=by decide) (hd:(x == ("__debug__" : Str))=false:=by decide):PE X (.Name x pos) (tC v) :=
 λ_ _ _ H _ I h=>zK I hg hm hv ⟨v,H,I,r,h⟩ hn hd
variable {a b:Expr}{ta tb:TE}{pos:Pos}
noncomputable def PC (X:Cx) (op:rC) (a b:Expr) (t:TE):Prop :=
 ∀(pins:List (Addr×Obj)) (s:Shared) (σ:St) (H:Hp) (Q:VK),Inv X pins σ H s->t σ H Q ->
  aC (aH X.prog X.w) X.A (eval a X.env) (λv s₁=>aC (aH X.prog X.w) X.A (eval b X.env) (λu s₂=>aC (aH X.prog X.w) X.A (cD op v u) (EP X pins σ Q) X.xe s₂) X.xe s₁) X.xe s
theorem Vp (b:Expr) {op:rC}(h:op≠.In) (h2:op≠.NotIn):eZ op b=false:=by
 have e1:(op == CmpOp.In)=false:=by cases op <;> first | rfl | exact absurd rfl h
 have e2:(op == CmpOp.NotIn)=false:=by cases op <;> first | rfl | exact absurd rfl h2
 cases b <;> simp [eZ,e1,e2]
noncomputable def tB (t:TE):TT:=λσ H Q=>t σ H λx H1=>∃c,x = .bl c/\Q c H1
theorem WC {op:rC}{t:TE}(h:PC X op a b t) (h1:eZ op b=false:=by first | exact Vp _ ⋯ ⋯ | rfl):PT X (.Compare a [op] [b] pos) (tB t):=by
 intro pins s σ H Q I hw
 refine mG (thn (h pins s σ H _ I hw) λv s1 h1=>thn h1 λu s2 h2=>thn h2 λc s3 ⟨x,H1,I1,r1,q1⟩=>?_) h1
 obtain ⟨d,rfl,q⟩:=q1
 cases r1
 exact c0 ⟨H1,I1,q⟩
theorem yw {e:Expr}{t:TE}(h:PE X e t) (he:∀whole,isTrue e X.env whole=(do let v <- whole;fg e.pos;dY [v] (truthy v)):=by intro _;rfl):PT X e (tB t):=by
 intro pins s σ H Q I hw
 refine isTrue_plain (thn (h pins s σ H _ I hw) λv s1 ⟨x,H1,I1,r1,q1⟩=>?_) (he _)
 obtain ⟨d,rfl,q⟩:=q1
 cases r1
 exact c0 ⟨H1,I1,q⟩
variable {tA tB':TT}{vC:List Expr}
noncomputable def tAnd (t u:TT):TT:=λσ H Q=>t σ H λc H1=>if c=true then u σ H1 Q else Q false H1
noncomputable def tOr (t u:TT):TT:=λσ H Q=>t σ H λc H1=>if c=true then Q true H1 else u σ H1 Q
noncomputable def tNot (t:TT):TT:=λσ H Q=>t σ H λc H1=>Q (!c) H1
theorem Ub (ha:PT X a tA):PW X (.BoolOp .And [a] pos) tA:=by
 intro wh pins s σ H Q I h
 refine isTrue_and (thn (ha pins s σ H Q I h) λc s1 e=>?_)
 cases c with
 | true=>exact isTrue_and_nil e
 | false=>exact e
theorem V9 (ha:PT X a tA):PW X (.BoolOp .Or [a] pos) tA:=by
 intro wh pins s σ H Q I h
 refine isTrue_or (thn (ha pins s σ H Q I h) λc s1 e=>?_)
 cases c with
 | false=>exact isTrue_or_nil e
 | true=>exact e
theorem WW (ha:PT X a tA) (hb:PW X (.BoolOp .And (b::vC) pos) tB'):PW X (.BoolOp .And (a::b::vC) pos) (tAnd tA tB'):=by
 intro wh pins s σ H Q I h
 refine isTrue_and (thn (ha pins s σ H _ I h) λc s1 ⟨H1,I1,q1⟩=>?_)
 cases c with
 | true=>exact hb wh pins s1 σ H1 Q I1 q1
 | false=>exact ⟨H1,I1,q1⟩
theorem UU (ha:PT X a tA) (hb:PW X (.BoolOp .Or (b::vC) pos) tB'):PW X (.BoolOp .Or (a::b::vC) pos) (tOr tA tB'):=by
 intro wh pins s σ H Q I h
 refine isTrue_or (thn (ha pins s σ H _ I h) λc s1 ⟨H1,I1,q1⟩=>?_)
 cases c with
 | true=>exact ⟨H1,I1,q1⟩
 | false=>exact hb wh pins s1 σ H1 Q I1 q1
theorem xw (ha:PT X a tA):PT X (.UnaryOp .Not a pos) (tNot tA):=by
 intro pins s σ H Q I h
 exact isTrue_not (ha pins s σ H (λc H1=>Q (!c) H1) I h)
noncomputable def Gw (ta tb:TE):TE:=λσ H Q=>ta σ H λx H1=>∃c,x = .bl c/\if c=true then tb σ H1 Q else Q (.bl false) H1
noncomputable def Gp (ta:TE):TE:=λσ H Q=>ta σ H λx H1=>∃c,x = .bl c/\Q (.bl (!c)) H1
theorem yQ {op}{t:TE}(h:PE X a t):PE X (.BoolOp op [a] pos) t:=λpins s σ H Q I hw=>BoolOp_one (h pins s σ H Q I hw)
theorem yl (ha:PE X a ta) (hb:PE X (.BoolOp .And (b::vC) pos) tb):PE X (.BoolOp .And (a::b::vC) pos) (Gw ta tb):=by
 intro pins s σ H Q I h
 refine BoolOp_and (thn (ha pins s σ H _ I h) λv s1 ⟨x,H1,I1,r1,q1⟩=>?_)
 obtain ⟨c,rfl,q1⟩:=q1
 cases r1
 refine c0 ?_
 cases c with
 | true=>exact hb pins s1 σ H1 Q I1 q1
 | false=>exact ⟨.bl false,H1,I1,rfl,q1⟩
theorem Wx (ha:PE X a ta):PE X (.UnaryOp .Not a pos) (Gp ta):=by
 intro pins s σ H Q I h
 refine UnaryOp_ (thn (ha pins s σ H _ I h) λv s1 ⟨x,H1,I1,r1,q1⟩=>?_)
 obtain ⟨c,rfl,q1⟩:=q1
 cases r1
 exact not_of (c0 ⟨.bl (!c),H1,I1,rfl,q1⟩)
end
end L2
namespace L2
noncomputable def SqL (K:aj) (H:Hp) (a:Addr) (xs:List V):Prop :=
 Rd H a (.lst xs) \/
  ∃(o:Obj) (its:Array ah) (n:Nat),K.lookup a=some o/\o.cls = .type "list" /\ o.dict=none/\o.data = .seq its n/\its.size<=sizeLine/\jB xs its.toList
noncomputable def SqT (K:aj) (H:Hp) (a:Addr) (xs:List V):Prop :=
 Rd H a (.tup xs) \/
  ∃(o:Obj) (its:Array ah) (n:Nat),K.lookup a=some o/\o.cls = .type "tuple" /\ o.data = .seq its n/\its.size<=sizeLine/\jB xs its.toList
noncomputable def absV:ah->Option V
 | .none=>some .non
 | .bool b=>some (.bl b)
 | .int i _=>some (.int i)
 | .str x _=>some (.str x)
 | .bytes b _=>some (.byt b)
 | .float b _=>some (.flt b)
 | .ref a=>some (.ref a)
 | .type n=>some (.ty n)
 | _=>none
theorem jx.abs {x:V}{u:ah}(r:jx x u):absV u=some x:=by
 cases x with
 | non=>cases r;rfl
 | bl _=>cases r;rfl
 | int _=>obtain ⟨t,rfl⟩:=r;rfl
 | str _=>obtain ⟨t,rfl⟩:=r;rfl
 | byt _=>obtain ⟨t,rfl⟩:=r;rfl
 | flt _=>obtain ⟨t,rfl⟩:=r;rfl
 | ref _=>cases r;rfl
 | ty _=>cases r;rfl
theorem jx.inj {x y:V}{u:ah}(r:jx x u) (q:jx y u):x=y:=aM (r.abs.symm.trans q.abs)
theorem jB.inj:∀{xs ys:List V}{us:List ah},jB xs us->jB ys us->xs=ys
 | _,_,_,.nil,.nil=>rfl
 | _,_,_,.cons r t,.cons r' t'=>by rw [r.inj r',jB.inj t t']
section
variable {X:Cx}{pins:List (Addr×Obj)}{σ:St}{H:Hp}{s:Shared}{a:Addr}{xs ys:List V}
theorem SqL.of {K:aj}(h:H a=some (.lst xs)):SqL K H a xs:=.inl (.inl h)
theorem SqT.of {K:aj}(h:H a=some (.tup xs)):SqT K H a xs:=.inl (.inl h)
theorem Inv.list (I:Inv X pins σ H s) (h:SqL X.K H a xs):∃its:List ah,jB xs its/\PlainL s.heap a its.toArray/\xs.length<=sizeLine:=by
 rcases h with h | ⟨o,its,n,hk,hc,hd,hs,hz,r⟩
 ·obtain ⟨z,its,n,r,e⟩:=h.ok I.hok
  exact ⟨its,r,⟨_,n,e,rfl,rfl,rfl⟩,z⟩
 ·refine ⟨its.toList,r,⟨o,n,I.kIn a o hk,hc,hd,by simpa using hs⟩,?_⟩
  have e:=r.length
  simp only [bJ] at e
  omega
theorem Inv.tuple (I:Inv X pins σ H s) (h:SqT X.K H a xs):∃its:List ah,jB xs its/\IsTup s.heap a its.toArray/\xs.length<=sizeLine:=by
 rcases h with h | ⟨o,its,n,hk,hc,hs,hz,r⟩
 ·obtain ⟨z,its,r,p⟩:=h.ok I.hok
  exact ⟨its,r,p,z⟩
 ·refine ⟨its.toList,r,⟨o,I.kIn a o hk,hc,n,by simpa using hs⟩,?_⟩
  have e:=r.length
  simp only [bJ] at e
  omega
theorem Inv.list_inj (I:Inv X pins σ H s) (h:SqL X.K H a xs) (h':SqL X.K H a ys):xs=ys:=by
 obtain ⟨its,r,⟨o,n,e,_,_,d⟩,_⟩:=I.list h
 obtain ⟨its',r',⟨o',n',e',_,_,d'⟩,_⟩:=I.list h'
 rw [e] at e';cases e'
 rw [d] at d'
 injection d' with d1 _
 have:its=its':=by simpa using congrArg Array.toList d1
 subst this
 exact r.inj r'
theorem Inv.tuple_inj (I:Inv X pins σ H s) (h:SqT X.K H a xs) (h':SqT X.K H a ys):xs=ys:=by
 obtain ⟨its,r,⟨o,e,_,n,d⟩,_⟩:=I.tuple h
 obtain ⟨its',r',⟨o',e',_,n',d'⟩,_⟩:=I.tuple h'
 rw [e] at e';cases e'
 rw [d] at d'
 injection d' with d1 _
 have:its=its':=by simpa using congrArg Array.toList d1
 subst this
 exact r.inj r'
end
noncomputable abbrev Cx.wish (X:Cx) (E:ah->Shared->Prop):Cx:={ X with xe:=E }
noncomputable abbrev Cx.nox (X:Cx):Cx:=X.wish λ_ _=>False
theorem Cx.Ok.wish {X:Cx}(ok:X.Ok) (E:ah->Shared->Prop):(X.wish E).Ok :=
 ⟨ok.mod,ok.kind,ok.glob,ok.blt,ok.above,ok.inj,ok.has,ok.cab,ok.hd,ok.frames,ok.stk,ok.exf,ok.bs,ok.bsz,ok.noex,ok.exfs,ok.funs,ok.frf⟩
theorem Cx.Ok.unwish {X:Cx}{E:ah->Shared->Prop}(ok:(X.wish E).Ok):X.Ok :=
 ⟨ok.mod,ok.kind,ok.glob,ok.blt,ok.above,ok.inj,ok.has,ok.cab,ok.hd,ok.frames,ok.stk,ok.exf,ok.bs,ok.bsz,ok.noex,ok.exfs,ok.funs,ok.frf⟩
section
variable {X:Cx}{pins:List (Addr×Obj)}{σ:St}{H:Hp}{s:Shared}{E:ah->Shared->Prop}
theorem Inv.wish (I:Inv X pins σ H s) (E:ah->Shared->Prop):Inv (X.wish E) pins σ H s:=⟨I.ok.wish E,I.os,I.bare,I.base,I.loc,I.cell,I.free,I.freeC,I.pin,I.hok,I.len⟩
theorem Inv.unwish (I:Inv (X.wish E) pins σ H s):Inv X pins σ H s:=⟨I.ok.unwish,I.os,I.bare,I.base,I.loc,I.cell,I.free,I.freeC,I.pin,I.hok,I.len⟩
theorem SP.unwish {D:Ends}{f:Flow}{s':Shared}(h:SP (X.wish E) pins D f s'):SP X pins D f s':=by
 cases f with
 | next=>obtain ⟨σ',H',I,q⟩:=h;exact ⟨σ',H',I.unwish,q⟩
 | brk=>obtain ⟨σ',H',I,q⟩:=h;exact ⟨σ',H',I.unwish,q⟩
 | cont=>obtain ⟨σ',H',I,q⟩:=h;exact ⟨σ',H',I.unwish,q⟩
 | ret u=>obtain ⟨v,σ',H',I,r,q⟩:=h;exact ⟨v,σ',H',I.unwish,r,q⟩
theorem PE.nox {e:Expr}{t:TE}(h:PE X.nox e t):PE X e t:=λpins s σ H Q I hw =>
 b9 (h pins s σ H Q (I.wish _) hw) (λ_ _ ⟨v,H',I',r,q⟩=>⟨v,H',I'.unwish,r,q⟩) λ_ _ z=>bH z
theorem PSs.nox {st:List Stmt}{t:TS}(h:PSs X.nox st t):PSs X st t:=λpins s σ H D I hw =>
 b9 (h pins s σ H D (I.wish _) hw) (λ_ _ q=>q.unwish) λ_ _ z=>bH z
end
section
variable {X:Cx}{st:Stmt}{vC:List Stmt}{t u:TS}{e:Expr}{te:TE}{pos:Pos}
noncomputable def GE:TS:=λD σ H=>D.nx σ H
noncomputable def tSeq (t u:TS):TS:=λD σ H=>t { D with nx:=u D } σ H
theorem jF:PSs X [] GE:=λ_ _ σ H _ I h=>iB ⟨σ,H,I,h⟩
theorem j6 (h1:PS X st t) (h2:PSs X vC u):PSs X (st::vC) (tSeq t u):=by
 intro pins s σ H D I h
 refine lL (thn (h1 pins s σ H { D with nx:=u D } I h) λf s1 q=>?_)
 cases f with
 | next =>
  obtain ⟨σ',H',I',q⟩:=q
  exact h2 pins s1 σ' H' D I' q
 | ret v=>exact q
 | brk=>exact q
 | cont=>exact q
theorem j9 (h1:PS X st t):PSs X [st] t:=by
 intro pins s σ H D I h
 refine lL (thn (h1 pins s σ H D I h) λf s1 q=>?_)
 cases f with
 | next=>exact iB q
 | ret v=>exact q
 | brk=>exact q
 | cont=>exact q
theorem Inv.quiet {pins:List (Addr×Obj)}{σ:St}{H:Hp}{s:Shared}(I:Inv X pins σ H s):interactive X.env=false:=by simp [interactive,I.ok.kind]
noncomputable def GY (te:TE):TS:=λD σ H=>te σ H λ_ H1=>D.nx σ H1
theorem qa (he:PE X e te) (hs:ig e none pos.line X.env=pure false:=by rfl):PS X (.Expr e pos) (GY te):=by
 intro pins s σ H D I h
 exact wpAny_Expr_any (thn (he pins s σ H _ I h) λv s1 ⟨x,H1,I1,r1,q1⟩=>⟨σ,H1,I1,q1⟩) I.quiet hs
noncomputable def tRet (te:TE):TS:=λD σ H=>te σ H D.rt
theorem jj (he:PE X e te):PS X (.Return (some e) pos) (tRet te):=by
 intro pins s σ H D I h
 exact wpAny_Return_some (thn (he pins s σ H _ I h) λv s1 ⟨x,H1,I1,r1,q1⟩=>⟨x,σ,H1,I1,r1,q1⟩)
noncomputable def tIfS (c:TT) (t u:TS):TS:=λD σ H=>c σ H λb H1=>if b=true then t D σ H1 else u D σ H1
theorem qq {c:Expr}{a b:List Stmt}{tc:TT}(hc:PT X c tc) (ha:PSs X a t) (hb:PSs X b u):PS X (.If c a b pos) (tIfS tc t u):=by
 intro pins s σ H D I h
 refine wpAny_If (thn (hc pins s σ H _ I h) λd s1 ⟨H1,I1,q1⟩=>?_)
 cases d with
 | true=>exact ha pins s1 σ H1 D I1 q1
 | false=>exact hb pins s1 σ H1 D I1 q1
end
noncomputable abbrev TG:=V->St->Hp->(St->Hp->Prop)->Prop
noncomputable abbrev TGs:=List V->St->Hp->(St->Hp->Prop)->Prop
noncomputable def PG (X:Cx) (target:Expr) (t:TG):Prop :=
 ∀(pins:List (Addr×Obj)) (s:Shared) (σ:St) (H:Hp) (v:V) (u:ah) (Q:St->Hp->Prop),Inv X pins σ H s->jx v u->t v σ H Q ->
  aC (aH X.prog X.w) X.A (fB target X.env u) (λ_ s'=>∃σ' H',Inv X pins σ' H' s'/\Q σ' H') X.xe s
noncomputable def PGs (X:Cx) (ts:List Expr) (t:TGs):Prop :=
 ∀(pins:List (Addr×Obj)) (s:Shared) (σ:St) (H:Hp) (vs:List V) (us:List ah) (Q:St->Hp->Prop),Inv X pins σ H s->jB vs us->t vs σ H Q ->
  aC (aH X.prog X.w) X.A (assignInOrder ((eN ts X.env).map (·.2)) us) (λ_ s'=>∃σ' H',Inv X pins σ' H' s'/\Q σ' H') X.xe s
noncomputable abbrev Vt:=V->V->V->Hp->(Hp->Prop)->Prop
noncomputable def WM (X:Cx) (t:Vt):Prop :=
 ∀(pins:List (Addr×Obj)) (s:Shared) (σ:St) (H:Hp) (o i v:V) (ov iv u:ah) (Q:Hp->Prop),Inv X pins σ H s->jx o ov->jx i iv->jx v u->t o i v H Q ->
  aC (aH X.prog X.w) X.A (sG ov iv u) (λ_ s'=>∃H',Inv X pins σ H' s'/\Q H') X.xe s
noncomputable abbrev TIp:=V->V->Hp->VK->Prop
noncomputable def PIp (X:Cx) (op:sR) (t:TIp):Prop :=
 ∀(pins:List (Addr×Obj)) (s:Shared) (σ:St) (H:Hp) (x y:V) (v u:ah) (Q:VK),Inv X pins σ H s->jx x v->jx y u->t x y H Q ->
  aC (aH X.prog X.w) X.A (inplaceOp op v u) (EP X pins σ Q) X.xe s
section
variable {X:Cx}{pos:Pos}
noncomputable def vo (i:Nat):TG:=λv σ H Q=>Q (σ.set i (some v)) H
theorem jd {i:Nat}{x:Str}(hN:X.N.Nodup) (hi:X.N[i]? = some x) (hx:Loc X.env.scope x) (hf:X.fn x=true\/X.env.scope.names.lookup x=some .local:=by first | exact .inl rfl | exact .inr rfl | assumption):PG X (.Name x pos) (vo i):=by
 intro pins s σ H v u Q I r h
 exact lp (QY I hN hi hx r (λs' I'=>⟨_,H,I',h⟩) hf)
noncomputable def gNil:TGs:=λvs σ H Q=>vs=[]/\Q σ H
noncomputable def G8 (t:TG) (u:TGs):TGs:=λvs σ H Q=>∃v r,vs=v::r/\t v σ H λσ' H'=>u r σ' H' Q
theorem qL:PGs X [] gNil:=by
 intro pins s σ H vs us Q I r h
 obtain ⟨e,h⟩:=h
 subst e
 cases r
 exact assignInOrder_nil ⟨σ,H,I,h⟩
theorem js {e:Expr}{es:List Expr}{t:TG}{u:TGs}(h1:PG X e t) (h2:PGs X es u)
  (hs:(eN (e::es) X.env).map (·.2)=fB e X.env::(eN es X.env).map (·.2):=by rfl):PGs X (e::es) (G8 t u):=by
 intro pins s σ H vs us Q I r h
 obtain ⟨v,vr,e1,h⟩:=h
 subst e1
 cases r with
 | cons r rr =>
  rw [hs]
  refine assignInOrder_cons (thn (h1 pins s σ H _ _ _ I r h) λ_ s1 ⟨σ1,H1,I1,q1⟩=>?_)
  exact h2 pins s1 σ1 H1 _ _ Q I1 rr q1
noncomputable def G6 (K:aj) (n:Nat) (t:TGs):TG:=λv σ H Q=>∃a xs,v = .ref a/\SqT K H a xs/\xs.length=n/\t xs σ H Q
theorem Wc {es:List Expr}{k:Nat}{t:TGs}{n:Nat}(hc:X.calm=true) (h:PGs X es t)
  (hn:(eN es X.env).length=n:=by rfl) (hst:(eN es X.env).findIdx? (·.1)=none:=by rfl):PG X (.Tuple es k pos) (G6 X.K n t):=by
 intro pins s σ H v u Q I r hw
 obtain ⟨a,xs,e1,hq,hl,hw⟩:=hw
 subst e1
 cases r
 obtain ⟨its,rv,ht,hz⟩:=I.tuple hq
 refine assign_Tuple_tuple (I.ok.hd hc) ht (by simp [hn,<- hl,rv.length]) hst λh' hx=>?_
 have I1:Inv X pins σ H { s with heap:=h' }:=I.kept (t':=s.toks) λb o e=>hx b o (aD (av e)) e
 exact h pins _ σ H xs _ Q I1 (by simpa using rv) hw
noncomputable def gSub (to ti:TE) (t:Vt):TG:=λv σ H Q=>to σ H λo H1=>ti σ H1 λi H2=>t o i v H2 λH3=>Q σ H3
theorem Jk {o i:Expr}{to ti:TE}{t:Vt}(ho:PE X o to) (hi:PE X i ti) (hs:WM X t)
  (ha:∀v,fB (.Subscript o i pos) X.env v=(do
   let ov <- dY [v] (eval o X.env)
   let iv <- dY [v,ov] (eval i X.env)
   fg pos
   dY [v,ov,iv] (sG ov iv v)
   release [v,ov,iv] []):=by intro _;rfl):PG X (.Subscript o i pos) (gSub to ti t):=by
 intro pins s σ H v u Q I r h
 rw [ha]
 refine af (bR (thn (ho pins s σ H _ I h) λov s1 ⟨x,H1,I1,r1,q1⟩=>?_))
 refine af (bR (thn (hi pins s1 σ H1 _ I1 q1) λiv s2 ⟨y,H2,I2,r2,q2⟩=>?_))
 refine af (cF (af (bR (thn (hs pins s2 σ H2 x y v ov iv u _ I2 r1 r2 r q2) λ_ s3 ⟨H3,I3,q3⟩=>?_))))
 exact wpAny_release ⟨σ,H3,I3,q3⟩
noncomputable def YN (te:TE) (g:TG):TS:=λD σ H=>te σ H λx H1=>g x σ H1 D.nx
theorem yD {tg e:Expr}{te:TE}{g:TG}(he:PE X e te) (hg:PG X tg g) (hs:swapsWithSole [tg] e pos.line X.env=pure false:=by rfl) (hw:swappedStores [tg] e X.env=pure none:=by rfl)
  (h1:(eN [tg] X.env).map (·.2)=[fB tg X.env]:=by rfl):PS X (.Assign [tg] e pos) (YN te g):=by
 intro pins s σ H D I h
 refine wpAny_Assign_stores (thn (he pins s σ H _ I h) λv s1 ⟨x,H1,I1,r1,q1⟩=>?_) hs hw
 rw [h1]
 exact thn (hg pins s1 σ H1 x v _ I1 r1 q1) λ_ s2 q=>q
theorem qW {i:Nat}{x:Str}{e:Expr}{te:TE}{pos':Pos}(hN:X.N.Nodup) (hi:X.N[i]? = some x) (hx:Loc X.env.scope x) (he:PE X e te) (hs:ig e (some (.Name x pos')) pos.line X.env=pure false:=by rfl) (hf:X.fn x=true\/X.env.scope.names.lookup x=some .local:=by first | exact .inl rfl | exact .inr rfl | assumption) :
  PS X (.Assign [.Name x pos'] e pos) (YN te (vo i)):=by
 intro pins s σ H D I h
 refine wpAny_Assign_Name (thn (he pins s σ H _ I h) λv s1 ⟨y,H1,I1,r1,q1⟩=>?_) hs
 exact QY I1 hN hi hx r1 (λs2 I2=>⟨_,H1,I2,q1⟩) hf
theorem jG (i:Nat){x:Str}{e:Expr}{te:TE}{pos':Pos}(hN:X.N.Nodup) (he:PE X e te) (hi:X.N[i]?=some x:=by rfl) (hx:Loc X.env.scope x:=by exact aW rfl) (hs:ig e (some (.Name x pos')) pos.line X.env=pure false:=by rfl) (hf:X.fn x=true\/X.env.scope.names.lookup x=some .local:=by first | exact .inl rfl | exact .inr rfl | assumption):PS X (.Assign [.Name x pos'] e pos) (YN te (vo i)):=qW hN hi hx he hs hf
noncomputable def Gs (to ti te:TE) (tget:V->V->Hp->VK->Prop) (tip:TIp) (tset:Vt):TS:=λD σ H=>to σ H λo H1=>ti σ H1 λi H2=>tget o i H2 λx H3=>te σ H3 λy H4=>tip x y H4 λz H5=>tset o i z H5 λH6=>D.nx σ H6
noncomputable def GV (X:Cx) (t:V->V->Hp->VK->Prop):Prop :=
 ∀(pins:List (Addr×Obj)) (s:Shared) (σ:St) (H:Hp) (o i:V) (ov iv:ah) (Q:VK),Inv X pins σ H s->jx o ov->jx i iv->t o i H Q ->
  aC (aH X.prog X.w) X.A (lq ov iv) (EP X pins σ Q) X.xe s
theorem VZ {o i e:Expr}{to ti te:TE}{tget:V->V->Hp->VK->Prop}{tip:TIp}{tset:Vt}{op:sR}{tpos:Pos}(ho:PE X o to) (hi:PE X i ti) (hg:GV X tget) (he:PE X e te) (hp:PIp X op tip) (hs:WM X tset)
  (ha:∀ov iv new,augStore i ov iv new=(do dY [new,ov,iv] (sG ov iv new);release [new,ov,iv] [];pure .next):=by intros;rfl):PS X (.AugAssign (.Subscript o i tpos) op e pos) (Gs to ti te tget tip tset):=by
 intro pins s σ H D I h
 refine wpAny_AugAssign_SubscriptAny (thn (ho pins s σ H _ I h) λov s1 ⟨x1,H1,I1,r1,q1⟩=>?_) ha
 refine thn (hi pins s1 σ H1 _ I1 q1) λiv s2 ⟨x2,H2,I2,r2,q2⟩=>?_
 refine thn (hg pins s2 σ H2 x1 x2 ov iv _ I2 r1 r2 q2) λold s3 ⟨x3,H3,I3,r3,q3⟩=>?_
 refine thn (he pins s3 σ H3 _ I3 q3) λv s4 ⟨x4,H4,I4,r4,q4⟩=>?_
 refine thn (hp pins s4 σ H4 x3 x4 old v _ I4 r3 r4 q4) λnew s5 ⟨x5,H5,I5,r5,q5⟩=>?_
 exact thn (hs pins s5 σ H5 x1 x2 x5 ov iv new _ I5 r1 r2 r5 q5) λ_ s6 ⟨H6,I6,q6⟩=>⟨σ,H6,I6,q6⟩
noncomputable def ipI (f:Int->Int->Int):TIp:=λx y H Q=>∃i j,x = .int i/\y = .int j/\Q (.int (f i j)) H
theorem WO:PIp X .Add (ipI λi j=>i+j):=by
 intro pins s σ H x y v u Q I r1 r2 h
 obtain ⟨i,j,e1,e2,q⟩:=h
 subst e1;subst e2
 obtain ⟨t,rfl⟩:=r1
 obtain ⟨t',rfl⟩:=r2
 exact iadd_int ⟨.int _,H,I.tok _,⟨_,rfl⟩,q⟩
end
section
variable {X:Cx}{pos:Pos}
noncomputable def Vu (c:TT) (tb:TS):TS:=λD σ H=>∃W:Nat->St->Hp->Prop,(∃m,W m σ H)/\∀m σ H,W m σ H ->
 c σ H λb H1=>if b=true then ∃N:St->Hp->Prop,(∀σ' H',N σ' H'->∃m',m'<m/\W m' σ' H')/\tb { D with nx:=N,ct:=N,bk:=D.nx } σ H1 else D.nx σ H1
theorem Qm {c:Expr}{body:List Stmt}{tc:TT}{tb:TS}(hp:PassesOwn (aH X.prog X.w) X.A X.env X.xe) (hc:PT X c tc) (hb:PSs X body tb):PS X (.While c body [] pos) (Vu tc tb):=by
 intro pins s σ H D I h
 obtain ⟨W,⟨m0,w0⟩,turn⟩:=h
 refine wpAny_While (codeAny_whileLoop (λn s'=>∃σ' H',Inv X pins σ' H' s'/\W n σ' H') ?_ m0 ⟨σ,H,I,w0⟩)
 rintro n s1 ⟨σ1,H1,I1,w1⟩
 refine dG hp (thn (hc pins s1 σ1 H1 _ I1 (turn n σ1 H1 w1)) λb s2 ⟨H2,I2,q2⟩=>?_)
 cases b with
 | true =>
  obtain ⟨N,hN,q2⟩:=q2
  rw [if_pos rfl]
  refine dG hp (thn (hb pins s2 σ1 H2 _ I2 q2) λf s3 q3=>?_)
  cases f with
  | next =>
   obtain ⟨σ3,H3,I3,n3⟩:=q3
   obtain ⟨m',hm,w3⟩:=hN σ3 H3 n3
   exact ⟨m',hm,σ3,H3,I3,w3⟩
  | cont =>
   obtain ⟨σ3,H3,I3,n3⟩:=q3
   obtain ⟨m',hm,w3⟩:=hN σ3 H3 n3
   exact ⟨m',hm,σ3,H3,I3,w3⟩
  | brk=>exact q3
  | ret v=>exact q3
 | false =>
  rw [if_neg au]
  exact iB ⟨σ1,H2,I2,q2⟩
end
structure It where
 go:Nat->Hp->Prop
 yld:Nat->Hp->V->Hp->Prop
 stop:Nat->Hp->Prop
noncomputable def yT (X:Cx) (pins:List (Addr×Obj)) (H:Hp) (b:Addr):Prop :=
 H b=none/\b≠X.env.locals/\b∉X.fs/\(b∈X.ex\/X.s₀.heap.objs.size<=b)/\(∀x c,X.env.cells.lookup x=some c->c≠b)/\∀p∈X.pn++pins,p.1≠b
theorem Inv.fpOk {X:Cx}{pins:List (Addr×Obj)}{σ:St}{H H':Hp}{s:Shared}{b:Addr}(I:Inv X pins σ H s) (hb:s.heap.objs.size<=b) (hn:H' b=none):yT X pins H' b:=by
 refine ⟨hn,c5 (aJ I.lt hb),I.nofs hb,.inr (aI I.sz hb),λx c e z=>?_,λp hp z=>?_⟩
 ·obtain ⟨v,q⟩:=I.cell x c e
  exact absurd (aJ q.lt (by rw [z];exact hb)) (cc _)
 ·exact absurd (aJ (av (I.pin p hp).1) (by rw [z];exact hb)) (cc _)
structure Turn (P:Program) (w:b8) (K:aj) (tg:Expr) (J:It) (fp:List Addr) (it:Addr) (tn:Nat->Heap->Prop):Prop where
 mem:it∈fp
 obj:∀i h,tn i h->∀b∈fp,∃o,h.get? b=some o/\∀v,o.data≠.cell v
 keep:∀i h h',tn i h->(∀b∈fp,∀o,h.get? b=some o->h'.get? b=some o)->tn i h'
 item:∀(X:Cx),X.prog=P->X.w=w->X.K=K->X.calm=true->∀(i:Nat) (pins:List (Addr×Obj)) (s:Shared) (σ:St) (H:Hp) (E:ah->Shared->Prop),Inv X pins σ H s->(∀b∈fp,yT X pins H b)->tn i s.heap->J.go i H ->
  aC (aH P w) X.A (fQ (.ref it)) (λr s1=>∃u,r=some u /\
   aC (aH P w) X.A (dh tg (.ref it) u) (λ_ s2=>∃x H',Inv X pins σ H' s2/\jx x u/\J.yld i H x H'/\tn (i+1) s2.heap/\∀b∈fp,H' b=none) E s1) E s
 done:∀(X:Cx),X.prog=P->X.w=w->X.K=K->X.calm=true->∀(i:Nat) (pins:List (Addr×Obj)) (s:Shared) (σ:St) (H:Hp) (E:ah->Shared->Prop),Inv X pins σ H s->(∀b∈fp,yT X pins H b)->tn i s.heap->J.stop i H ->
  aC (aH P w) X.A (fQ (.ref it)) (λr s1=>r=none/\Inv X pins σ H s1) E s
 self:∀(A:br) (i:Nat) (s:Shared) (Q:ah->Shared->Prop) (E:ah->Shared->Prop),tn i s.heap->Q (.ref it) s->aC (aH P w) A (mQ (.ref it)) Q E s
noncomputable abbrev TI:=St->Hp->(It->Hp->Prop)->Prop
noncomputable def PIE (X:Cx) (pins:List (Addr×Obj)) (σ:St) (tg:Expr) (R:It->Hp->Prop) (itv:ah) (s2:Shared):Prop :=
 ∃(it:Addr) (fp:List Addr) (tn:Nat->Heap->Prop) (J:It) (H':Hp),itv = .ref it/\Inv X pins σ H' s2/\Turn X.prog X.w X.K tg J fp it tn/\tn 0 s2.heap/\(∀b∈fp,yT X pins H' b)/\R J H'
noncomputable def PI (X:Cx) (tg iter:Expr) (wi:TI):Prop :=
 ∀(pins:List (Addr×Obj)) (s:Shared) (σ:St) (H:Hp) (R:It->Hp->Prop),Inv X pins σ H s->wi σ H R ->
  aC (aH X.prog X.w) X.A (eval iter X.env) (λv s1=>aC (aH X.prog X.w) X.A (mQ v) (PIE X pins σ tg R) X.xe s1) X.xe s
theorem QT {M:sQ}{A:br}{E:ah->Shared->Prop}{s:Shared}{tg:Expr}{it:Addr}{u:ah}{o:Obj}{n:String}{vs:Array ah}{Q:Unit->Shared->Prop}(ho:s.heap.get? it=some o) (hc:o.cls = .type n) (hd:o.data = .fields vs)
  (hn:["enumerate","zip","dict_itemiterator","dict_reverseitemiterator","odict_iterator","itertools.zip_longest","itertools.pairwise"].contains n=false) (hQ:Q () s):aC M A (dh tg (.ref it) u) Q E s:=by
 unfold dh
 cases tg <;> first
  | exact wpAny_pure hQ
  | (cases u <;> first
    | exact wpAny_pure hQ
    | (refine af (wpAny_load ho ?_)
       rw [hc,hd]
       show aC M A (if (["enumerate","zip","dict_itemiterator","dict_reverseitemiterator","odict_iterator","itertools.zip_longest","itertools.pairwise"].contains n && vs[0]? == some (cg _))=true then _ else _) Q E s
       rw [if_neg (by intro h;rw [hn,Bool.false_and] at h;cases h)]
       exact wpAny_pure hQ))
noncomputable def Itl (K:aj) (a:Addr):It :=
 ⟨λi H=>∃xs x,SqL K H a xs/\xs[i]? = some x,λi H x H'=>H'=H/\∀xs,SqL K H a xs->xs[i]? = some x,λi H=>∃xs,SqL K H a xs/\xs.length<=i⟩
noncomputable def Itt (K:aj) (a:Addr):It :=
 ⟨λi H=>∃xs x,SqT K H a xs/\xs[i]? = some x,λi H x H'=>H'=H/\∀xs,SqT K H a xs->xs[i]? = some x,λi H=>∃xs,SqT K H a xs/\xs.length<=i⟩
noncomputable def Itr (lo:Int) (n:Nat):It:=⟨λi _=>i<n,λi H x H'=>H'=H/\x = .int (lo+i),λi _=>n<=i⟩
theorem ZS {P:Program}{w:b8}{K:aj}{tg:Expr}(a it:Addr):Turn P w K tg (Itl K a) [it] it (λi h=>h.IsListIter it a i) where
 mem:=by simp
 obj:=λi h st b hb=>by
  have e:b=it:=by simpa using hb
  subst e
  obtain ⟨o,e,c,d⟩:=st
  exact ⟨o,e,λv z=>by rw [d] at z;cases z⟩
 keep:=λi h h' st k=>st.at λo e=>k it (by simp) o e
 item:=by
  intro X hP hw hK hc i pins s σ H E I hf st hg
  subst hP hw hK
  obtain ⟨xs,x,hq,hx⟩:=hg
  obtain ⟨its,rv,p,hz⟩:=I.list hq
  obtain ⟨u,hu,ru⟩:=rv.get hx
  obtain ⟨f0,f1,f2,f3,f4,f5⟩:=hf it (by simp)
  refine lX st p.isList (x:=u) (by simpa using hu) λh' st' sb=>?_
  have I1:Inv X pins σ H { s with heap:=h' }:=I.turned (t':=s.toks) (λb o hb e=>(sb.2 b hb).trans e) f0 f1 f3 f4 f5
  obtain ⟨o,e,c,d⟩:=id st'
  exact ⟨u,rfl,QT (s:={ s with heap:=h' }) e c d ⋯ ⟨x,H,I1,ru,⟨rfl,λys hy=>by rw [I.list_inj hy hq];exact hx⟩,st',λb hb=>(hf b hb).1⟩⟩
 done:=by
  intro X hP hw hK hc i pins s σ H E I hf st hg
  subst hP hw hK
  obtain ⟨xs,hq,hx⟩:=hg
  obtain ⟨its,rv,p,hz⟩:=I.list hq
  obtain ⟨f0,f1,f2,f3,f4,f5⟩:=hf it (by simp)
  have hl:=rv.length
  exact mH (I.ok.hd hc) st p.isList (by simp;omega) λh' eb=>⟨rfl,I.turned (t':=s.toks) (λb o hb e=>eb b o hb e) f0 f1 f3 f4 f5⟩
 self:=λ_ _ _ _ _ st h=>wpAny_pyIter_listiter st h
theorem XY {P:Program}{w:b8}{K:aj}{tg:Expr}(a it:Addr):Turn P w K tg (Itt K a) [it] it (λi h=>h.IsTupleIter it a i) where
 mem:=by simp
 obj:=λi h st b hb=>by
  have e:b=it:=by simpa using hb
  subst e
  obtain ⟨o,e,c,d⟩:=st
  exact ⟨o,e,λv z=>by rw [d] at z;cases z⟩
 keep:=λi h h' st k=>st.at λo e=>k it (by simp) o e
 item:=by
  intro X hP hw hK hc i pins s σ H E I hf st hg
  subst hP hw hK
  obtain ⟨xs,x,hq,hx⟩:=hg
  obtain ⟨its,rv,p,hz⟩:=I.tuple hq
  obtain ⟨u,hu,ru⟩:=rv.get hx
  obtain ⟨f0,f1,f2,f3,f4,f5⟩:=hf it (by simp)
  refine wpAny_pyNext_tuple_item st (show s.heap.IsTuple a its.toArray from p) (x:=u) (by simpa using hu) λh' st' sb=>?_
  have I1:Inv X pins σ H { s with heap:=h' }:=I.turned (t':=s.toks) (λb o hb e=>(sb.2 b hb).trans e) f0 f1 f3 f4 f5
  obtain ⟨o,e,c,d⟩:=id st'
  exact ⟨u,rfl,QT (s:={ s with heap:=h' }) e c d ⋯ ⟨x,H,I1,ru,⟨rfl,λys hy=>by rw [I.tuple_inj hy hq];exact hx⟩,st',λb hb=>(hf b hb).1⟩⟩
 done:=by
  intro X hP hw hK hc i pins s σ H E I hf st hg
  subst hP hw hK
  obtain ⟨xs,hq,hx⟩:=hg
  obtain ⟨its,rv,p,hz⟩:=I.tuple hq
  obtain ⟨f0,f1,f2,f3,f4,f5⟩:=hf it (by simp)
  have hl:=rv.length
  exact wpAny_pyNext_tuple_end (I.ok.hd hc) st (show s.heap.IsTuple a its.toArray from p) (by simp;omega) λh' eb=>⟨rfl,I.turned (t':=s.toks) (λb o hb e=>eb b o hb e) f0 f1 f3 f4 f5⟩
 self:=λ_ _ _ _ _ st h=>wpAny_pyIter_tupleiter st h
theorem wX {P:Program}{w:b8}{K:aj}{tg:Expr}(it:Addr) (lo:Int) (n:Nat):Turn P w K tg (Itr lo n) [it] it (λi h=>pK h it (lo+(i:Nat)*1) ((n:Int)-(i:Nat)) 1) where
 mem:=by simp
 obj:=λi h st b hb=>by
  have e:b=it:=by simpa using hb
  subst e
  exact ⟨_,st,λv z=>by
   have z':fK _=lM v:=z
   cases z'⟩
 keep:=λi h h' st k=>k it (by simp) _ st
 item:=by
  intro X hP hw hK hc i pins s σ H E I hf st hg
  subst hP hw hK
  obtain ⟨f0,f1,f2,f3,f4,f5⟩:=hf it (by simp)
  have W:=Walks.range (prog:=X.prog) (w:=X.w) (I.ok.hd hc) it lo 1 n
  refine W.item i s _ _ hg st λv h' tk hv st' kk=>?_
  obtain ⟨t,rfl⟩:=hv
  have I1:Inv X pins σ H { s with heap:=h',toks:=tk }:=I.turned (λb o hb e=>kk b o (by simpa using hb) e) f0 f1 f3 f4 f5
  refine ⟨_,rfl,QT (s:={ s with heap:=h',toks:=tk }) (n:="range_iterator") st' rfl rfl ⋯ ⟨.int (lo+i),H,I1,⟨t,?_⟩,⟨rfl,rfl⟩,st',λb hb=>(hf b hb).1⟩⟩
  rw [mR]
 done:=by
  intro X hP hw hK hc i pins s σ H E I hf st hg
  subst hP hw hK
  obtain ⟨f0,f1,f2,f3,f4,f5⟩:=hf it (by simp)
  exact wpAny_pyNext_range_end (I.ok.hd hc) st (by have:n<=i:=hg;omega) λh' eb=>⟨rfl,I.turned (t':=s.toks) (λb o hb e=>eb b o hb e) f0 f1 f3 f4 f5⟩
 self:=λ_ _ _ _ _ st h=>wpAny_pyIter_rangeiter st h
end L2
namespace L2
section
variable {X:Cx}{tg:Expr}
noncomputable def UY (K:aj) (tl:TE):TI:=λσ H R=>tl σ H λx H1=>∃a,x = .ref a/\(∃xs,SqL K H1 a xs)/\R (Itl K a) H1
noncomputable def GX (K:aj) (tl:TE):TI:=λσ H R=>tl σ H λx H1=>∃a,x = .ref a/\(∃xs,SqT K H1 a xs)/\R (Itt K a) H1
theorem U1 {l:Expr}{tl:TE}(hl:PE X l tl):PI X tg l (UY X.K tl):=by
 intro pins s σ H R I h
 refine thn (hl pins s σ H _ I h) λv s1 ⟨x,H1,I1,r1,q1⟩=>?_
 obtain ⟨a,e,⟨xs,hq⟩,q⟩:=q1
 subst e
 cases r1
 obtain ⟨its,rv,p,hz⟩:=I1.list hq
 refine d8 p.isList ?_
 refine ⟨s1.heap.objs.size,[s1.heap.objs.size],_,_,H1,rfl,I1.kept (t':=s1.toks) λb o e=>ai _ e,ZS a _,⟨_,aA _ rfl,rfl,rfl⟩,λb hb=>?_,q⟩
 have e:b=s1.heap.objs.size:=by simpa using hb
 subst e
 exact I1.fpOk (ar _) (I1.hok.fresh (ar _))
theorem Wg {l:Expr}{tl:TE}(hl:PE X l tl):PI X tg l (GX X.K tl):=by
 intro pins s σ H R I h
 refine thn (hl pins s σ H _ I h) λv s1 ⟨x,H1,I1,r1,q1⟩=>?_
 obtain ⟨a,e,⟨xs,hq⟩,q⟩:=q1
 subst e
 cases r1
 obtain ⟨its,rv,p,hz⟩:=I1.tuple hq
 refine o8 (show s1.heap.IsTuple a its.toArray from p) ?_
 refine ⟨s1.heap.objs.size,[s1.heap.objs.size],_,_,H1,rfl,I1.kept (t':=s1.toks) λb o e=>ai _ e,XY a _,⟨_,aA _ rfl,rfl,rfl⟩,λb hb=>?_,q⟩
 have e:b=s1.heap.objs.size:=by simpa using hb
 subst e
 exact I1.fpOk (ar _) (I1.hok.fresh (ar _))
theorem QL {pins:List (Addr×Obj)}{σ:St}{H:Hp}{s:Shared}{R:It->Hp->Prop}{E:ah->Shared->Prop}{lo hi:Int}{t u v:Tok}{tk:Nat}(I:Inv X pins σ H s) (h1 : -(2 ^ 62)<=lo) (h2:lo<2 ^ 62) (h3 : -(2 ^ 62)<=hi) (h4:hi<2 ^ 62)
  (q:R (Itr lo (hi-lo).toNat) H):aC (aH X.prog X.w) X.A (mQ (.ref s.heap.objs.size)) (PIE X pins σ tg R) E { s with heap:=s.heap.push { cls:=.type "range",data:=.fields #[.int lo t,.int hi u,.int 1 v] },toks:=tk }:=by
 refine o9 (pL ..) (small_one h1 h2 h3 h4) ?_
 have I1:Inv X pins σ H { s with heap:=s.heap.push { cls:=.type "range",data:=.fields #[.int lo t,.int hi u,.int 1 v] },toks:=tk }:=I.kept λb o e=>ai _ e
 refine ⟨(s.heap.push { cls:=.type "range",data:=.fields #[.int lo t,.int hi u,.int 1 v] }).objs.size,[(s.heap.push { cls:=.type "range",data:=.fields #[.int lo t,.int hi u,.int 1 v] }).objs.size],_,_,H,rfl,
  I1.kept (t':=tk) λb o e=>ai _ e,wX _ lo (hi-lo).toNat,?_,λb hb=>?_,q⟩
 ·have e1:lo+((0:Nat):Int)*1=lo:=by simp
  have e2:(((hi-lo).toNat:Nat):Int)-((0:Nat):Int)=lN lo hi 1:=by rw [rZ];split <;> omega
  show pK _ _ (lo+((0:Nat):Int)*1) ((((hi-lo).toNat:Nat):Int)-((0:Nat):Int)) 1
  rw [e1,e2]
  exact aA _ rfl
 ·have e:b=(s.heap.push { cls:=.type "range",data:=.fields #[.int lo t,.int hi u,.int 1 v] }).objs.size:=by simpa using hb
  subst e
  exact I1.fpOk (ar _) (I1.hok.fresh (ar _))
noncomputable def Gu (ta:TA):TI:=λσ H R=>ta σ H λvs H1=>∃j:Int,vs=[.int j] /\ -(2 ^ 62)<=j/\j<2 ^ 62/\R (Itr 0 j.toNat) H1
noncomputable def G7 (ta:TA):TI:=λσ H R=>ta σ H λvs H1=>∃i j:Int,vs=[.int i,.int j]/\(-(2 ^ 62)<=i/\i<2 ^ 62 /\ -(2 ^ 62)<=j/\j<2 ^ 62)/\R (Itr i (j-i).toNat) H1
theorem jZ {a:Expr}{ta:TA}{p pos:Pos}(hg:Gl X "range") (hm:X.mg "range" = none) (ha:PA X [a] ta) (hs:aN [a] X.env=[(false,eval a X.env)]:=by rfl):PI X tg (.Call (.Name "range" p) [a] [] pos) (Gu ta):=by
 intro pins s σ H R I h
 refine tf (zK I hg hm rE (cj (thn (ha pos pins s σ H _ I h) λus s1 ⟨vs,H1,I1,r1,q1⟩=>?_) hs rfl))
 obtain ⟨j,e,q1,q2,q⟩:=q1
 subst e
 cases r1 with
 | cons r rr =>
  cases rr
  obtain ⟨t,rfl⟩:=r
  exact call_range_1 (QL I1 ∅ ∅ q1 q2 (by simpa using q))
theorem Yi {a b:Expr}{ta:TA}{p pos:Pos}(hg:Gl X "range") (hm:X.mg "range" = none) (ha:PA X [a,b] ta) (hs:aN [a,b] X.env=[(false,eval a X.env),(false,eval b X.env)]:=by rfl) (hs2:aN [b] X.env=[(false,eval b X.env)]:=by rfl) :
  PI X tg (.Call (.Name "range" p) [a,b] [] pos) (G7 ta):=by
 intro pins s σ H R I h
 refine tf (zK I hg hm rE (cj (thn (ha pos pins s σ H _ I h) λus s1 ⟨vs,H1,I1,r1,q1⟩=>?_) (by rw [hs,hs2]) (by rw [hs2];rfl)))
 obtain ⟨i,j,e,⟨q1,q2,q3,q4⟩,q⟩:=q1
 subst e
 cases r1 with
 | cons r rr =>
  cases rr with
  | cons r' rr =>
   cases rr
   obtain ⟨t,rfl⟩:=r
   obtain ⟨t',rfl⟩:=r'
   exact call_range_2 (QL I1 q1 q2 q3 q4 q)
noncomputable def tFor (wi:TI) (g:TG) (tb:TS):TS:=λD σ H=>wi σ H λJ H1=>∃W:Nat->Nat->St->Hp->Prop,(∃m,W 0 m σ H1)/\∀i m σ H,W i m σ H ->
 (J.stop i H/\D.nx σ H)\/(J.go i H/\∃N:St->Hp->Prop,(∀σ' H',N σ' H'->∃m',m'<m/\W (i+1) m' σ' H')/\∀x H',J.yld i H x H'->g x σ H' λσ2 H2=>tb { D with nx:=N,ct:=N,bk:=D.nx } σ2 H2)
noncomputable def xZ (fp:List Addr) (h:Heap):List (Addr×Obj):=fp.filterMap λb=>(h.get? b).map λo=>(b,o)
theorem qv {fp:List Addr}{h:Heap}{b:Addr}{o:Obj}(hb:b∈fp) (e:h.get? b=some o):(b,o)∈xZ fp h:=List.mem_filterMap.mpr ⟨b,hb,by rw [e];rfl⟩
theorem ZM {fp:List Addr}{h:Heap}{p:Addr×Obj}(hp:p∈xZ fp h):p.1∈fp/\h.get? p.1=some p.2:=by
 obtain ⟨b,hb,e⟩:=List.mem_filterMap.mp hp
 cases q:h.get? b with
 | none=>rw [q] at e;cases e
 | some o =>
  rw [q] at e
  have e':(b,o)=p:=aM e
  subst e'
  exact ⟨hb,q⟩
theorem Inv.pinned {pins:List (Addr×Obj)}{σ:St}{H:Hp}{s:Shared}{fp:List Addr}(I:Inv X pins σ H s) (hf:∀b∈fp,yT X pins H b) (ho:∀b∈fp,∃o,s.heap.get? b=some o/\∀v,o.data≠.cell v):Inv X (pins++xZ fp s.heap) σ H s :=
 I.pins_of λp hp=>(List.mem_append.mp hp).elim (λz=>I.pin p (aE _ z)) λz=>by
  obtain ⟨hb,e⟩:=ZM z
  obtain ⟨f0,f1,f2,_⟩:=hf p.1 hb
  obtain ⟨o,e',d⟩:=ho p.1 hb
  rw [e] at e';cases e'
  exact ⟨e,f0,f1,f2,d⟩
theorem Inv.unpinned {pins pl:List (Addr×Obj)}{σ:St}{H:Hp}{s:Shared}(I:Inv X (pins++pl) σ H s):Inv X pins σ H s:=I.pins_of λp hp=>I.pin p (aE _ (d6 _ hp))
theorem xD {iter:Expr}{body:List Stmt}{wi:TI}{g:TG}{tb:TS}{pos:Pos}(hp:PassesOwn (aH X.prog X.w) X.A X.env X.xe) (hc:X.calm=true) (hi:PI X tg iter wi) (hg:PG X tg g) (hb:PSs X body tb)
  (hs:∀x,cB iter X.env x=pure x:=by intro _;rfl):PS X (.For tg iter body [] pos) (tFor wi g tb):=by
 intro pins s σ H D I h
 refine wpAny_For (thn (hi pins s σ H _ I h) λv s1 h1=>thn h1 λitv s2 h2=>?_) hs
 obtain ⟨it,fp,tn,J,H2,e,I2,T,st2,f2,W,⟨m0,w0⟩,turn⟩:=h2
 subst e
 have stat:∀{H':Hp},(∀b∈fp,H' b=none)->∀b∈fp,yT X pins H' b:=λhn b hb=>⟨hn b hb,(f2 b hb).2⟩
 refine codeAny_forLoop_any (λn s'=>∃i σ' H',Inv X pins σ' H' s'/\tn i s'.heap/\(∀b∈fp,H' b=none)/\W i n σ' H') ?_ m0 ⟨0,σ,H2,I2,st2,λb hb=>(f2 b hb).1,w0⟩
 rintro n s3 ⟨i,σ3,H3,I3,st3,fr3,w3⟩
 rcases turn i n σ3 H3 w3 with ⟨stop,qn⟩ | ⟨go,N,hN,step⟩
 ·refine dG hp (thn (T.done X rfl rfl rfl hc i pins s3 σ3 H3 X.xe I3 (stat fr3) st3 stop) λr s4 ⟨hr,I4⟩=>?_)
  subst hr
  exact iB ⟨σ3,H3,I4,qn⟩
 ·refine dG hp (thn (T.item X rfl rfl rfl hc i pins s3 σ3 H3 X.xe I3 (stat fr3) st3 go) λr s4 ⟨u,hr,h4⟩=>?_)
  subst hr
  refine dG hp (thn h4 λ_ s5 ⟨x,H5,I5,r5,y5,st5,fr5⟩=>?_)
  have I5':=I5.pinned (stat fr5) (T.obj _ _ st5)
  refine dG hp (thn (hg _ s5 σ3 H5 x u _ I5' r5 (step x H5 y5)) λ_ s6 ⟨σ6,H6,I6,q6⟩=>?_)
  refine dG hp (thn (hb _ s6 σ6 H6 _ I6 q6) λf s7 q7=>?_)
  have again:∀{σ7:St} {H7:Hp},Inv X (pins++xZ fp s5.heap) σ7 H7 s7->N σ7 H7->∃m,m<n/\∃i σ' H',Inv X pins σ' H' s7/\tn i s7.heap/\(∀b∈fp,H' b=none)/\W i m σ' H':=λ{σ7 H7} I7 n7=>by
   obtain ⟨m',hm,w7⟩:=hN σ7 H7 n7
   refine ⟨m',hm,i+1,σ7,H7,I7.unpinned,T.keep _ _ _ st5 λb hb o e=>(I7.pin (b,o) (aE _ (aE _ (qv hb e)))).1,λb hb=>?_,w7⟩
   obtain ⟨o,e,d⟩:=T.obj _ _ st5 b hb
   exact (I7.pin (b,o) (aE _ (aE _ (qv hb e)))).2.1
  cases f with
  | next=>obtain ⟨σ7,H7,I7,n7⟩:=q7;exact again I7 n7
  | cont=>obtain ⟨σ7,H7,I7,n7⟩:=q7;exact again I7 n7
  | brk=>obtain ⟨σ7,H7,I7,q7⟩:=q7;exact ⟨σ7,H7,I7.unpinned,q7⟩
  | ret v=>obtain ⟨x7,σ7,H7,I7,r7,q7⟩:=q7;exact ⟨x7,σ7,H7,I7.unpinned,r7,q7⟩
end
theorem kJ {K:aj}{a:Addr}{xs:List V}{g:TG}{tb:TS}{D:Ends}{σ:St}{H:Hp}(Pv:Nat->St->Hp->Prop) (h0:Pv 0 σ H) (hl:∀i σ H,i<=xs.length->Pv i σ H->SqL K H a xs)
  (hs:∀i x σ H,xs[i]? = some x->Pv i σ H->g x σ H λσ2 H2=>tb { D with nx:=Pv (i+1),ct:=Pv (i+1),bk:=D.nx } σ2 H2) (hd:∀σ H,Pv xs.length σ H->D.nx σ H) :
  ∃W:Nat->Nat->St->Hp->Prop,(∃m,W 0 m σ H)/\∀i m σ H,W i m σ H ->
   ((Itl K a).stop i H/\D.nx σ H)\/((Itl K a).go i H/\∃N:St->Hp->Prop,(∀σ' H',N σ' H'->∃m',m'<m/\W (i+1) m' σ' H')/\∀x H',(Itl K a).yld i H x H'->g x σ H' λσ2 H2=>tb { D with nx:=N,ct:=N,bk:=D.nx } σ2 H2):=by
 refine ⟨λi m σ H=>m=xs.length-i/\i<=xs.length/\Pv i σ H,⟨xs.length,by simp,aQ _,h0⟩,?_⟩
 rintro i m σ H ⟨rfl,hi,p⟩
 have q:=hl i σ H hi p
 by_cases hlt:i<xs.length
 ·refine .inr ⟨⟨xs,xs[i],q,by simp [hlt]⟩,Pv (i+1),λσ' H' p'=>⟨xs.length-(i+1),∅,rfl,hlt,p'⟩,λx H' y=>?_⟩
  obtain ⟨e,y⟩:=y
  subst e
  exact hs i x σ _ (y xs q) p
 ·have e:i=xs.length:=∅
  subst e
  exact .inl ⟨⟨xs,q,ar _⟩,hd σ H p⟩
theorem UN {K:aj}{a:Addr}{xs:List V}{g:TG}{tb:TS}{D:Ends}{σ:St}{H:Hp}(Pv:Nat->St->Hp->Prop) (h0:Pv 0 σ H) (hl:∀i σ H,i<=xs.length->Pv i σ H->SqT K H a xs)
  (hs:∀i x σ H,xs[i]? = some x->Pv i σ H->g x σ H λσ2 H2=>tb { D with nx:=Pv (i+1),ct:=Pv (i+1),bk:=D.nx } σ2 H2) (hd:∀σ H,Pv xs.length σ H->D.nx σ H) :
  ∃W:Nat->Nat->St->Hp->Prop,(∃m,W 0 m σ H)/\∀i m σ H,W i m σ H ->
   ((Itt K a).stop i H/\D.nx σ H)\/((Itt K a).go i H/\∃N:St->Hp->Prop,(∀σ' H',N σ' H'->∃m',m'<m/\W (i+1) m' σ' H')/\∀x H',(Itt K a).yld i H x H'->g x σ H' λσ2 H2=>tb { D with nx:=N,ct:=N,bk:=D.nx } σ2 H2):=by
 refine ⟨λi m σ H=>m=xs.length-i/\i<=xs.length/\Pv i σ H,⟨xs.length,by simp,aQ _,h0⟩,?_⟩
 rintro i m σ H ⟨rfl,hi,p⟩
 have q:=hl i σ H hi p
 by_cases hlt:i<xs.length
 ·refine .inr ⟨⟨xs,xs[i],q,by simp [hlt]⟩,Pv (i+1),λσ' H' p'=>⟨xs.length-(i+1),∅,rfl,hlt,p'⟩,λx H' y=>?_⟩
  obtain ⟨e,y⟩:=y
  subst e
  exact hs i x σ _ (y xs q) p
 ·have e:i=xs.length:=∅
  subst e
  exact .inl ⟨⟨xs,q,ar _⟩,hd σ H p⟩
theorem zh {lo:Int}{n:Nat}{g:TG}{tb:TS}{D:Ends}{σ:St}{H:Hp}(Pv:Nat->St->Hp->Prop) (h0:Pv 0 σ H)
  (hs:∀i σ H,i<n->Pv i σ H->g (.int (lo+i)) σ H λσ2 H2=>tb { D with nx:=Pv (i+1),ct:=Pv (i+1),bk:=D.nx } σ2 H2) (hd:∀σ H,Pv n σ H->D.nx σ H) :
  ∃W:Nat->Nat->St->Hp->Prop,(∃m,W 0 m σ H)/\∀i m σ H,W i m σ H ->
   ((Itr lo n).stop i H/\D.nx σ H)\/((Itr lo n).go i H/\∃N:St->Hp->Prop,(∀σ' H',N σ' H'->∃m',m'<m/\W (i+1) m' σ' H')/\∀x H',(Itr lo n).yld i H x H'->g x σ H' λσ2 H2=>tb { D with nx:=N,ct:=N,bk:=D.nx } σ2 H2):=by
 refine ⟨λi m σ H=>m=n-i/\i<=n/\Pv i σ H,⟨n,by simp,aQ _,h0⟩,?_⟩
 rintro i m σ H ⟨rfl,hi,p⟩
 by_cases hlt:i<n
 ·refine .inr ⟨hlt,Pv (i+1),λσ' H' p'=>⟨n-(i+1),∅,rfl,hlt,p'⟩,λx H' y=>?_⟩
  obtain ⟨e,y⟩:=y
  subst e y
  exact hs i σ _ hlt p
 ·have e:i=n:=∅
  subst e
  exact .inl ⟨ar _,hd σ H p⟩
theorem QS {c:TT}{tb:TS}{D:Ends}{σ:St}{H:Hp}(Pv:St->Hp->Prop) (μ:St->Hp->Nat) (h0:Pv σ H)
  (hs:∀σ H,Pv σ H->c σ H λb H1=>if b=true then tb { D with nx:=λσ' H'=>Pv σ' H'/\μ σ' H'<μ σ H,ct:=λσ' H'=>Pv σ' H'/\μ σ' H'<μ σ H,bk:=D.nx } σ H1 else D.nx σ H1)
  (mono:∀σ H Q Q',(∀b H1,Q b H1->Q' b H1)->c σ H Q->c σ H Q'):Vu c tb D σ H:=by
 refine ⟨λm σ H=>m=μ σ H/\Pv σ H,⟨_,rfl,h0⟩,?_⟩
 rintro m σ H ⟨rfl,p⟩
 refine mono σ H _ _ (λb H1 q=>?_) (hs σ H p)
 cases b with
 | true=>exact ⟨_,λσ' H' ⟨p',l⟩=>⟨_,l,rfl,p'⟩,q⟩
 | false=>exact q
end L2
namespace L2
noncomputable abbrev R2:=V->V->Hp->VK->Prop
noncomputable def OpR (X:Cx) (f:ah->ah->Sem ah) (r:R2):Prop :=
 ∀(pins:List (Addr×Obj)) (s:Shared) (σ:St) (H:Hp) (x y:V) (v u:ah) (Q:VK),Inv X pins σ H s->jx x v->jx y u->r x y H Q ->
  aC (aH X.prog X.w) X.A (f v u) (EP X pins σ Q) X.xe s
noncomputable def UnR (X:Cx) (f:ah->Sem ah) (r:V->Hp->VK->Prop):Prop :=
 ∀(pins:List (Addr×Obj)) (s:Shared) (σ:St) (H:Hp) (x:V) (v:ah) (Q:VK),Inv X pins σ H s->jx x v->r x H Q ->
  aC (aH X.prog X.w) X.A (f v) (EP X pins σ Q) X.xe s
noncomputable def qE (X:Cx) (f:ah) (r:List V->Hp->VK->Prop):Prop :=
 ∀(pins:List (Addr×Obj)) (s:Shared) (σ:St) (H:Hp) (xs:List V) (us:List ah) (Q:VK),Inv X pins σ H s->jB xs us->r xs H Q ->
  aC (aH X.prog X.w) X.A (call f us) (EP X pins σ Q) X.xe s
noncomputable def tOp (r:R2) (ta tb:TE):TE:=λσ H Q=>ta σ H λx H1=>tb σ H1 λy H2=>r x y H2 Q
noncomputable def tUn (r:V->Hp->VK->Prop) (ta:TE):TE:=λσ H Q=>ta σ H λx H1=>r x H1 Q
noncomputable def rI (C:Int->Int->Prop) (g:Int->Int->V):R2:=λx y H Q=>∃i j,x = .int i/\y = .int j/\C i j/\Q (g i j) H
noncomputable def rI0 (g:Int->Int->V):R2:=λx y H Q=>∃i j,x = .int i/\y = .int j/\Q (g i j) H
noncomputable def rU (g:Int->V):V->Hp->VK->Prop:=λx H Q=>∃i,x = .int i/\Q (g i) H
section
variable {X:Cx}{a b c:Expr}{ta tb tc:TE}{pos:Pos}
theorem Wq (ha:PE X a ta) (hb:PE X b tb) {pins:List (Addr×Obj)}{s:Shared}{σ:St}{H:Hp}{R:V->V->Hp->Prop}(I:Inv X pins σ H s)
  (h:ta σ H λx H1=>tb σ H1 λy H2=>R x y H2) {Q:ah->Shared->Prop} {f:ah->ah->Sem ah}
  (hf:∀v u s2 x y H2,Inv X pins σ H2 s2->jx x v->jx y u->R x y H2->aC (aH X.prog X.w) X.A (f v u) Q X.xe s2) :
  aC (aH X.prog X.w) X.A (eval a X.env) (λv s₁=>aC (aH X.prog X.w) X.A (eval b X.env) (λu s₂=>aC (aH X.prog X.w) X.A (f v u) Q X.xe s₂) X.xe s₁) X.xe s:=by
 refine thn (ha pins s σ H _ I h) λv s1 ⟨x,H1,I1,r1,q1⟩=>?_
 refine thn (hb pins s1 σ H1 _ I1 q1) λu s2 ⟨y,H2,I2,r2,q2⟩=>?_
 exact hf v u s2 x y H2 I2 r1 r2 q2
theorem ji {op:sR}{r:R2}(ho:OpR X (iu op) r) (ha:PE X a ta) (hb:PE X b tb):PE X (.BinOp a op b pos) (tOp r ta tb):=by
 intro pins s σ H Q I h
 exact wpAny_BinOp (Wq ha hb I h λv u s2 x y H2 I2 rx ry q=>ho pins s2 σ H2 x y v u Q I2 rx ry q)
theorem vq {op:UnaryOp}{r:V->Hp->VK->Prop}(ho:UnR X (unaryOp op) r) (ha:PE X a ta):PE X (.UnaryOp op a pos) (tUn r ta):=by
 intro pins s σ H Q I h
 exact UnaryOp_ (thn (ha pins s σ H _ I h) λv s1 ⟨x,H1,I1,r1,q1⟩=>ho pins s1 σ H1 x v Q I1 r1 q1)
theorem opI {f:ah->ah->Sem ah}{C:Int->Int->Prop}{g:Int->Int->Int}
  (rule:∀(i j:Int) (t u:Tok) (s:Shared) (Q:ah->Shared->Prop) (E:ah->Shared->Prop),C i j->Q (.int (g i j) s.toks) { s with toks:=s.toks+1 }->aC (aH X.prog X.w) X.A (f (.int i t) (.int j u)) Q E s) :
  OpR X f (rI C λi j=>.int (g i j)):=by
 intro pins s σ H x y v u Q I rx ry h
 obtain ⟨i,j,rfl,rfl,hc,q⟩:=h
 obtain ⟨t,rfl⟩:=rx
 obtain ⟨t',rfl⟩:=ry
 exact rule i j t t' s _ _ hc ⟨.int (g i j),H,I.tok _,⟨_,rfl⟩,q⟩
theorem Gz {f:ah->ah->Sem ah}{g:Int->Int->Int}
  (rule:∀(i j:Int) (t u:Tok) (s:Shared) (Q:ah->Shared->Prop) (E:ah->Shared->Prop),Q (.int (g i j) s.toks) { s with toks:=s.toks+1 }->aC (aH X.prog X.w) X.A (f (.int i t) (.int j u)) Q E s) :
  OpR X f (rI0 λi j=>.int (g i j)):=by
 intro pins s σ H x y v u Q I rx ry h
 obtain ⟨i,j,rfl,rfl,q⟩:=h
 obtain ⟨t,rfl⟩:=rx
 obtain ⟨t',rfl⟩:=ry
 exact rule i j t t' s _ _ ⟨.int (g i j),H,I.tok _,⟨_,rfl⟩,q⟩
theorem Ux {f:ah->ah->Sem ah}{g:Int->Int->Bool}
  (rule:∀(i j:Int) (t u:Tok) (s:Shared) (Q:ah->Shared->Prop) (E:ah->Shared->Prop),Q (.bool (g i j)) s->aC (aH X.prog X.w) X.A (f (.int i t) (.int j u)) Q E s) :
  OpR X f (rI0 λi j=>.bl (g i j)):=by
 intro pins s σ H x y v u Q I rx ry h
 obtain ⟨i,j,rfl,rfl,q⟩:=h
 obtain ⟨t,rfl⟩:=rx
 obtain ⟨t',rfl⟩:=ry
 exact rule i j t t' s _ _ ⟨.bl (g i j),H,I,rfl,q⟩
noncomputable def GN (i j:Int):Prop:=0<=j/\j<=1000000/\i.natAbs<2 ^ 64
noncomputable def Vr (i j:Int):Prop:=(-(2 ^ 64)<i/\i<2 ^ 64)\/(-(2 ^ 64)<j/\j<2 ^ 64)
theorem Vr.ok {i j:Int}(h:Vr i j):IntMulOk i j:=by
 rcases h with ⟨h1,h2⟩ | ⟨h1,h2⟩
 ·exact .of_left (se h1 h2)
 ·exact .of_right (se h1 h2)
theorem jy:OpR X (iu .Add) (rI0 λi j=>.int (i+j)):=Gz λ_ _ _ _ _ _ _ q=>add_int q
theorem xn:OpR X (iu .Sub) (rI0 λi j=>.int (i-j)):=Gz λ_ _ _ _ _ _ _ q=>sub_int q
theorem yN:OpR X (iu .Mult) (rI Vr λi j=>.int (i*j)):=opI λ_ _ _ _ _ _ _ hc q=>mul_int q hc.ok
theorem za:OpR X (iu .Mod) (rI (λ_ j=>0<j) λi j=>.int (i % j)):=opI λi j _ _ _ _ _ hc q=>by
 have h1:(0:Int)<j:=hc
 exact mod_int' ∅ (by rw [Int.fmod_eq_emod_of_nonneg i ∅];exact q)
theorem Wj:OpR X (iu .Pow) (rI GN λi j=>.int (i ^ j.toNat)):=opI λ_ _ _ _ _ _ _ hc q=>pow_int_small hc.1 hc.2.1 hc.2.2 q
theorem unI {f:ah->Sem ah}{g:Int->Int}
  (rule:∀(i:Int) (t:Tok) (s:Shared) (Q:ah->Shared->Prop) (E:ah->Shared->Prop),Q (.int (g i) s.toks) { s with toks:=s.toks+1 }->aC (aH X.prog X.w) X.A (f (.int i t)) Q E s) :
  UnR X f (rU λi=>.int (g i)):=by
 intro pins s σ H x v Q I rx h
 obtain ⟨i,rfl,q⟩:=h
 obtain ⟨t,rfl⟩:=rx
 exact rule i t s _ _ ⟨.int (g i),H,I.tok _,⟨_,rfl⟩,q⟩
theorem zM:UnR X (unaryOp .USub) (rU λi=>.int (-i)):=unI λ_ _ _ _ _ q=>neg_int q
end
noncomputable def Gv:V->V->Bool
 | .non,.non=>true | .non,.int _=>true | .int _,.non=>true | .non,.bl _=>true | .bl _,.non=>true | .non,.str _=>true | .str _,.non=>true
 | .int _,.int _=>true | .bl _,.bl _=>true | .str _,.str _=>true | .byt _,.byt _=>true
 | .int _,.str _=>true | .str _,.int _=>true | .bl _,.str _=>true | .str _,.bl _=>true
 | _,_=>false
noncomputable def rEq:R2:=λx y H Q=>Gv x y=true/\Q (.bl (decide (x=y))) H
noncomputable def rNe:R2:=λx y H Q=>Gv x y=true/\Q (.bl (!decide (x=y))) H
theorem Zc {i j:Int}:decide (V.int i=V.int j)=(i == j):=by
 rw [eQ]
 simp
theorem Vs {i j:Bool}:decide (V.bl i=V.bl j)=(i == j):=by
 rw [eQ]
 simp
theorem Zn {i j:Str}:decide (V.str i=V.str j)=(i == j):=by
 rw [eQ]
 simp
theorem Zg {i j:Array UInt8}:decide (V.byt i=V.byt j)=(i.toList == j.toList):=by
 rw [eQ]
 cases i
 cases j
 simp
section
variable {X:Cx}{a b c:Expr}{ta tb tc:TE}{pos:Pos}
theorem jN {pins:List (Addr×Obj)}{σ:St}{H:Hp}{s:Shared}{Q:VK}{k k':Bool}(I:Inv X pins σ H s) (q:Q (.bl k) H) (e:k=k'):EP X pins σ Q (.bool k') s:=by
 subst e
 exact ⟨.bl k,H,I,rfl,q⟩
theorem wg:OpR X (cD .Eq) rEq:=by
 intro pins s σ H x y v u Q I rx ry h
 obtain ⟨hs,q⟩:=h
 cases x with
 | non =>
  cases rx
  cases y with
  | non=>cases ry;exact PySem.EqNone.eq_none_none (jN I q (by simp))
  | bl j=>cases ry;exact PySem.EqNone.eq_none_bool (jN I q (by simp))
  | int j=>obtain ⟨t',rfl⟩:=ry;exact PySem.EqNone.eq_none_int (jN I q (by simp))
  | str j=>obtain ⟨t',rfl⟩:=ry;exact PySem.EqNone.eq_none_str (jN I q (by simp))
  | _=>exact absurd (show false=true from hs) au
 | bl i =>
  cases rx
  cases y with
  | non=>cases ry;exact PySem.EqNone.eq_bool_none (jN I q (by simp))
  | bl j=>cases ry;exact eq_bool (jN I q Vs)
  | str j=>obtain ⟨t',rfl⟩:=ry;exact PySem.EqMixed.eq_bool_str (jN I q (by simp))
  | _=>exact absurd (show false=true from hs) au
 | int i =>
  obtain ⟨t,rfl⟩:=rx
  cases y with
  | non=>cases ry;exact PySem.EqNone.eq_int_none (jN I q (by simp))
  | int j=>obtain ⟨t',rfl⟩:=ry;exact eq_int (jN I q Zc)
  | str j=>obtain ⟨t',rfl⟩:=ry;exact PySem.EqMixed.eq_int_str (jN I q (by simp))
  | _=>exact absurd (show false=true from hs) au
 | str i =>
  obtain ⟨t,rfl⟩:=rx
  cases y with
  | non=>cases ry;exact PySem.EqNone.eq_str_none (jN I q (by simp))
  | bl j=>cases ry;exact PySem.EqMixed.eq_str_bool (jN I q (by simp))
  | int j=>obtain ⟨t',rfl⟩:=ry;exact PySem.EqMixed.eq_str_int (jN I q (by simp))
  | str j=>obtain ⟨t',rfl⟩:=ry;exact eq_str (jN I q Zn)
  | _=>exact absurd (show false=true from hs) au
 | byt i =>
  obtain ⟨t,rfl⟩:=rx
  cases y with
  | byt j=>obtain ⟨t',rfl⟩:=ry;exact PySem.W.eq_bytes (jN I q Zg)
  | _=>exact absurd (show false=true from hs) au
 | _=>cases y <;> exact absurd (show false=true from hs) au
theorem VT:OpR X (cD .NotEq) rNe:=by
 intro pins s σ H x y v u Q I rx ry h
 obtain ⟨hs,q⟩:=h
 cases x with
 | non =>
  cases rx
  cases y with
  | non=>cases ry;exact PySem.EqNone.ne_none_none (jN I q (by simp))
  | bl j=>cases ry;exact PySem.EqNone.ne_none_bool (jN I q (by simp))
  | int j=>obtain ⟨t',rfl⟩:=ry;exact PySem.EqNone.ne_none_int (jN I q (by simp))
  | str j=>obtain ⟨t',rfl⟩:=ry;exact PySem.EqNone.ne_none_str (jN I q (by simp))
  | _=>exact absurd (show false=true from hs) au
 | bl i =>
  cases rx
  cases y with
  | non=>cases ry;exact PySem.EqNone.ne_bool_none (jN I q (by simp))
  | bl j=>cases ry;exact ne_bool (jN I q (congrArg not Vs))
  | str j=>obtain ⟨t',rfl⟩:=ry;exact PySem.EqMixed.ne_bool_str (jN I q (by simp))
  | _=>exact absurd (show false=true from hs) au
 | int i =>
  obtain ⟨t,rfl⟩:=rx
  cases y with
  | non=>cases ry;exact PySem.EqNone.ne_int_none (jN I q (by simp))
  | int j=>obtain ⟨t',rfl⟩:=ry;exact ne_int (jN I q (congrArg not Zc))
  | str j=>obtain ⟨t',rfl⟩:=ry;exact PySem.EqMixed.ne_int_str (jN I q (by simp))
  | _=>exact absurd (show false=true from hs) au
 | str i =>
  obtain ⟨t,rfl⟩:=rx
  cases y with
  | non=>cases ry;exact PySem.EqNone.ne_str_none (jN I q (by simp))
  | bl j=>cases ry;exact PySem.EqMixed.ne_str_bool (jN I q (by simp))
  | int j=>obtain ⟨t',rfl⟩:=ry;exact PySem.EqMixed.ne_str_int (jN I q (by simp))
  | str j=>obtain ⟨t',rfl⟩:=ry;exact ne_str (jN I q (congrArg not Zn))
  | _=>exact absurd (show false=true from hs) au
 | byt i =>
  obtain ⟨t,rfl⟩:=rx
  cases y with
  | byt j=>obtain ⟨t',rfl⟩:=ry;exact PySem.W.ne_bytes (jN I q (congrArg not Zg))
  | _=>exact absurd (show false=true from hs) au
 | _=>cases y <;> exact absurd (show false=true from hs) au
theorem we:OpR X (cD .Lt) (rI0 λi j=>.bl (decide (i<j))):=Ux λ_ _ _ _ _ _ _ q=>lt_int q
theorem qy:OpR X (cD .LtE) (rI0 λi j=>.bl (decide (i<=j))):=Ux λ_ _ _ _ _ _ _ q=>le_int q
theorem UX:OpR X (cD .Gt) (rI0 λi j=>.bl (decide (j<i))):=Ux λ_ _ _ _ _ _ _ q=>gt_int q
theorem VN:OpR X (cD .GtE) (rI0 λi j=>.bl (decide (j<=i))):=Ux λ_ _ _ _ _ _ _ q=>ge_int q
theorem YE:OpR X (cD .Is) (λx y H Q=>y = .non/\Q (.bl (decide (x = .non))) H):=by
 intro pins s σ H x y v u Q I rx ry h
 obtain ⟨rfl,q⟩:=h
 cases ry
 refine is_none_gen (jN I q ?_)
 cases x <;> first
  | (cases rx;rfl)
  | (obtain ⟨t,rfl⟩:=rx;rfl)
theorem qd (b:Expr) {op:rC}(h:op≠.In:=by decide) (h2:op≠.NotIn:=by decide):eZ op b=false:=by
 have e1:(op == CmpOp.In)=false:=by cases op <;> first | rfl | exact absurd rfl h
 have e2:(op == CmpOp.NotIn)=false:=by cases op <;> first | rfl | exact absurd rfl h2
 cases b <;> simp [eZ,e1,e2]
theorem ze {op:rC}{r:R2}(ho:OpR X (cD op) r) (ha:PE X a ta) (hb:PE X b tb) (hm:eZ op b=false):PE X (.Compare a [op] [b] pos) (tOp r ta tb):=by
 intro pins s σ H Q I h
 exact wpAny_Compare1 (Wq ha hb I h λv u s2 x y H2 I2 rx ry q=>ho pins s2 σ H2 x y v u Q I2 rx ry q) hm
noncomputable def QJ (t:TE):TT:=λσ H Q=>t σ H λx H'=>∃k,x = .bl k/\Q k H'
theorem jX {op:rC}{r:R2}(ho:OpR X (cD op) r) (ha:PE X a ta) (hb:PE X b tb) (hm:eZ op b=false):PT X (.Compare a [op] [b] pos) (QJ (tOp r ta tb)):=by
 intro pins s σ H Q I h
 refine mG (thn (ha pins s σ H _ I h) λv s1 ⟨x,H1,I1,r1,q1⟩=>thn (hb pins s1 σ H1 _ I1 q1) λu s2 ⟨y,H2,I2,r2,q2⟩ =>
  thn (ho pins s2 σ H2 x y v u _ I2 r1 r2 q2) λc s3 ⟨z,H3,I3,r3,k,e,q3⟩=>?_) hm
 subst e
 cases r3
 exact c0 ⟨H3,I3,q3⟩
noncomputable def Vg (r r':R2) (ta tb tc:TE):TE:=λσ H Q=>ta σ H λx H1=>tb σ H1 λy H2=>r x y H2 λz H3=>∃k,z = .bl k /\
 (if k=true then tc σ H3 λw' H4=>r' y w' H4 Q else Q (.bl false) H3)
theorem zW {op op':rC}{r r':R2}(ho:OpR X (cD op) r) (ho':OpR X (cD op') r') (ha:PE X a ta) (hb:PE X b tb) (hc:PE X c tc)
  (hm:lastMarks [op,op'] [b,c]=false:=by with_unfolding_all rfl):PE X (.Compare a [op,op'] [b,c] pos) (Vg r r' ta tb tc):=by
 intro pins s σ H Q I h
 refine Compare_chain (thn (ha pins s σ H _ I h) λv s1 ⟨x,H1,I1,r1,q1⟩=>chain_link (thn (hb pins s1 σ H1 _ I1 q1) λu s2 ⟨y,H2,I2,r2,q2⟩ =>
  thn (ho pins s2 σ H2 x y v u _ I2 r1 r2 q2) λd s3 ⟨z,H3,I3,r3,k,e,q3⟩=>?_)) hm
 subst e
 cases r3
 refine c0 ?_
 cases k with
 | false=>exact ite_ff ⟨.bl false,H3,I3,rfl,q3⟩
 | true=>exact ite_tt (chain_last (thn (hc pins s3 σ H3 _ I3 q3) λw' s4 ⟨z',H4,I4,r4,q4⟩=>ho' pins s4 σ H4 y z' u w' Q I4 r2 r4 q4))
theorem xW {op op':rC}{r r':R2}(ho:OpR X (cD op) r) (ho':OpR X (cD op') r') (ha:PE X a ta) (hb:PE X b tb) (hc:PE X c tc)
  (hm:lastMarks [op,op'] [b,c]=false:=by with_unfolding_all rfl):PT X (.Compare a [op,op'] [b,c] pos) (QJ (Vg r r' ta tb tc)):=by
 intro pins s σ H Q I h
 refine isTrue_chain (thn (ha pins s σ H _ I h) λv s1 ⟨x,H1,I1,r1,q1⟩=>test_link (thn (hb pins s1 σ H1 _ I1 q1) λu s2 ⟨y,H2,I2,r2,q2⟩ =>
  thn (ho pins s2 σ H2 x y v u _ I2 r1 r2 q2) λd s3 ⟨z,H3,I3,r3,k,e,q3⟩=>?_)) hm
 subst e
 cases r3
 refine c0 ?_
 cases k with
 | false =>
  obtain ⟨k',e',q'⟩:=q3
  cases e'
  exact ite_ff ⟨H3,I3,q'⟩
 | true =>
  refine ite_tt (test_last (thn (hc pins s3 σ H3 _ I3 q3) λw' s4 ⟨z',H4,I4,r4,q4⟩=>thn (ho' pins s4 σ H4 y z' u w' _ I4 r2 r4 q4) λd' s5 ⟨z2,H5,I5,r5,k2,e2,q5⟩=>?_))
  subst e2
  cases r5
  exact c0 ⟨H5,I5,q5⟩
theorem wU:(sizeLine:Nat)<2 ^ 63:=by rw [bN];decide
theorem xT {x:V}{us:List ah}(r:jB [x] us):∃u,us=[u]/\jx x u:=by
 cases r with
 | cons r1 r2=>cases r2;exact ⟨_,rfl,r1⟩
theorem Zo {x y:V}{us:List ah}(r:jB [x,y] us):∃u w',us=[u,w']/\jx x u/\jx y w':=by
 cases r with
 | cons r1 r2 =>
  cases r2 with
  | cons r3 r4=>cases r4;exact ⟨_,_,rfl,r1,r3⟩
theorem Vy:qE X (.builtin "abs") (λxs H Q=>∃i,xs=[.int i]/\Q (.int (if i<0 then -i else i)) H):=by
 intro pins s σ H xs us Q I r h
 obtain ⟨i,rfl,q⟩:=h
 obtain ⟨u,rfl,t,rfl⟩:=xT r
 exact call_abs_int λu tk=>⟨.int (if i<0 then -i else i),H,I.tok _,⟨_,rfl⟩,q⟩
theorem zT (hc:X.calm=true):qE X (.builtin "max") (λxs H Q=>∃i j,xs=[.int i,.int j]/\Q (.int (if j > i then j else i)) H):=by
 intro pins s σ H xs us Q I r h
 obtain ⟨i,j,rfl,q⟩:=h
 obtain ⟨u,w',rfl,⟨t,rfl⟩,⟨t',rfl⟩⟩:=Zo r
 refine max_two_ints (I.ok.hd hc) λh' tk k=>⟨_,H,I.kept k,?_,q⟩
 by_cases hj:j > i
 ·rw [if_pos hj,if_pos hj];exact ⟨_,rfl⟩
 ·rw [if_neg hj,if_neg hj];exact ⟨_,rfl⟩
theorem uE (hc:X.calm=true):qE X (.builtin "min") (λxs H Q=>∃i j,xs=[.int i,.int j]/\Q (.int (if j<i then j else i)) H):=by
 intro pins s σ H xs us Q I r h
 obtain ⟨i,j,rfl,q⟩:=h
 obtain ⟨u,w',rfl,⟨t,rfl⟩,⟨t',rfl⟩⟩:=Zo r
 refine min_two_ints (I.ok.hd hc) λh' tk k=>⟨_,H,I.kept k,?_,q⟩
 by_cases hj:j<i
 ·rw [if_pos hj,if_pos hj];exact ⟨_,rfl⟩
 ·rw [if_neg hj,if_neg hj];exact ⟨_,rfl⟩
theorem ZF:qE X (.type "int") (λxs H Q=>(∃i,xs=[.int i]/\Q (.int i) H)\/∃k,xs=[.bl k]/\Q (.int (if k then 1 else 0)) H):=by
 intro pins s σ H xs us Q I r h
 rcases h with ⟨i,rfl,q⟩ | ⟨k,rfl,q⟩
 ·obtain ⟨u,rfl,t,rfl⟩:=xT r
  exact call_int_int ⟨.int i,H,I,⟨_,rfl⟩,q⟩
 ·obtain ⟨u,rfl,r1⟩:=xT r
  cases r1
  exact call_int_bool ⟨.int (if k then 1 else 0),H,I.tok _,⟨_,rfl⟩,q⟩
end
end L2
namespace L2
structure ObjM (h:Heap) (x dx C:Addr) (mA:Str->Option ah):Prop where
 obj:h.get? x=some (df C dx)
 ns:h.Ns1 dx mA
 ne:dx≠x
theorem YB {h:Heap}{dx:Addr}{mA:Str->Option ah}(n:h.Ns1 dx mA):∃od,h.get? dx=some od/\∀name,iQ name od=some (mA name):=by
 obtain ⟨o,es,ep,ho,hd,hk,_,hm⟩:=n
 refine ⟨o,ho,λname=>?_⟩
 have e:=hm name
 unfold nsFind findBy at e
 rw [<- Array.find?_toList] at e
 unfold iQ
 rw [hd]
 dsimp only
 split
 ·rename_i y q
  rw [q] at e
  exact congrArg some e
 ·rename_i q
  rw [q] at e
  have a:es.toList.any (·.refKey)=false:=by
   rw [List.any_eq_false]
   intro y hy
   obtain ⟨z,t,hkey⟩:=hk y (Array.mem_toList_iff.mp hy)
   simp [DictEntry.refKey,hkey]
  have a':¬es.toList.any (·.refKey)=true:=by rw [a];exact au
  rw [if_neg a']
  exact congrArg some e
theorem ObjM.look {h:Heap}{x dx C:Addr}{mA:Str->Option ah}(I:ObjM h x dx C mA):∃od,PySem.W.InstAt h x (df C dx) C (some od)/\∀name,iQ name od=some (mA name) :=
 let ⟨od,ho,hl⟩:=YB I.ns
 ⟨od,⟨I.obj,rfl,rfl,ho⟩,hl⟩
section
variable {prog:Program}{w:b8}{A:br}{E:ah->Shared->Prop}{s:Shared}{K:aj}{x dx C f:Addr}{mA:Str->Option ah}{name:Str}{v:ah}
theorem UD {expr:Bool}{Q:ah->Shared->Prop}(X:K.In s.heap) (I:ObjM s.heap x dx C mA) (hg:ft K C name=true) (hh:fR K C=true)
  (ha:bQ K (.ref C) name=some none) (hv:mA name=some v) (hv':pj v=true) (h:Q v { s with toks:=s.toks+1 }) :
  aC (aH prog w) A (getAttr (.ref x) name expr) Q E s:=by
 obtain ⟨od,J,hl⟩:=I.look
 exact PySem.W.get_value X J (iJ hg).1 (PySem.W.findObj_own hh ha rfl (by rw [hl,hv])) hv' h
theorem V5 {pl:Sem Bool}{Q:ah×List ah->Shared->Prop}(X:K.In s.heap) (I:ObjM s.heap x dx C mA) (hg:ft K C name=true)
  (hf:bQ K (.ref C) name=some (some (.ref f))) (ht:oF K (.ref f)=true) (hv:mA name=none) (h:Q (.ref f,[.ref x]) s) :
  aC (aH prog w) A (ij (.ref x) name pl) Q E s:=by
 obtain ⟨od,J,hl⟩:=I.look
 exact PySem.W.method_fn X J (iJ hg).1 (iJ hg).2 hf (beq_iff_eq.mp ht) (by show (iQ name od).map (·.isSome)=some false;rw [hl,hv];rfl) h
theorem Uu {ns:List Str}{Q:Unit->Shared->Prop}(X:K.In s.heap) (I:ObjM s.heap x dx C mA)
  (hs:bQ K (.ref C) "__setattr__" = some (some (.builtin "object.__setattr__"))) (hp:lu K C=true) (ht:mr K C name=some none) (hh:fR K C=true)
  (hw:oE mA ns) (hsz:ns.length<=sizeLine)
  (h:∀h',ObjM h' x dx C (λy=>if y=name then some v else mA y)->eM dx s.heap h'->Q () { s with heap:=h',toks:=s.toks+2 }) :
  aC (aH prog w) A (setAttr (.ref x) name v) Q E s:=by
 obtain ⟨od,J,hl⟩:=I.look
 refine PySem.W.set_plain X J hs (PySem.W.osa_open (s:={ s with toks:=s.toks+1 }) (r:=none) X J hp ht λb=>?_)
 obtain ⟨cd,hc,hd'⟩:=PySem.W.any_some hh
 have hx:s.heap.get? x=some ⟨.ref C,some dx,.plain,#[]⟩:=I.obj
 refine af (wpAny_pure (af (af (wpAny_loadPart hx (af (PySem.W.Looks.here (s:={ s with toks:=s.toks+1 }) (PySem.W.looks_clsIn X hc) ?_))))))
 rw [hd']
 refine wpAny_pure (a:=some dx) (af (wpAny_pure (af ?_)))
 refine wpAny_nsSet1 (s:={ s with toks:=s.toks+1 }) I.ns λh' hn2 hs2=>?_
 obtain ⟨oD,esD,epD,hoD,hdD,hcD⟩:=hn2.count (PySem.Within.cons name v hw)
 refine af (wpAny_lookBehind hoD (by rw [hdD];exact pastItsLine_dict (aI hcD (by rw [b7];omega))) ?_)
 exact wpAny_pure (h _ ⟨(hs2.2 _ (cA I.ne)).trans I.obj,hn2,I.ne⟩ hs2)
theorem VJ {R:lY->Shared->Prop}{vs:List ah}{kw:List (Str×ah)}(X:K.In s.heap) (hm:mw K C=true)
  (hi:bQ K (.ref C) "__init__" = some (some (.ref f))) (hf:PySem.W.typeIn K (.ref f)=some (.type "function"))
  (h:cO (aH prog w) (A.under (.builtin "type.__call__" ⟨.ref C::vs,kw⟩)) (.call (.ref f) ⟨.ref (s.heap.objs.size+1)::vs,kw⟩) (PySem.W.InitBack (s.heap.objs.size+1) R)
   { s with heap:=(s.heap.push cC).push (df C s.heap.objs.size) }) :
  cO (aH prog w) A (.call (.ref C) ⟨vs,kw⟩) R s:=by
 obtain ⟨hh,g,d,t,os⟩:=s
 exact PySem.W.make_core (PySem.W.makes_of X hm) (PySem.W.looks_findIn X hi) (λself=>PySem.W.bind_fn X self hf) (.inl rfl) h
end
noncomputable def jo (f:Str) (v:V):List (Str×V)->List (Str×V)
 | []=>[(f,v)]
 | (g,x)::r=>if g=f then (g,v)::r else (g,x)::jo f v r
theorem ju (f g:Str) (v:V):∀fs:List (Str×V),(jo f v fs).lookup g=if g=f then some v else fs.lookup g
 | []=>by
  show eK g [(f,v)]=_
  by_cases h:g=f
  ·have hb:(g == f)=true:=beq_iff_eq.mpr h
   simp only [eK,hb,if_pos h]
  ·have hb:(g == f)=false:=beq_eq_false_iff_ne.mpr h
   simp only [eK,hb,if_neg h]
 | (k,x)::r=>by
  have ih:=ju f g v r
  rw [show jo f v ((k,x)::r)=(if k=f then (k,v)::r else (k,x)::jo f v r) from rfl]
  by_cases hk:k=f
  ·rw [if_pos hk]
   by_cases h:g=k
   ·have hb:(g == k)=true:=beq_iff_eq.mpr h
    simp only [eK,hb,if_pos (h.trans hk)]
   ·have hb:(g == k)=false:=beq_eq_false_iff_ne.mpr h
    simp only [eK,hb,if_neg (λe:g=f=>h (e.trans hk.symm))]
  ·rw [if_neg hk]
   by_cases h:g=k
   ·have hb:(g == k)=true:=beq_iff_eq.mpr h
    simp only [eK,hb,if_neg (λe:g=f=>hk (h.symm.trans e))]
   ·have hb:(g == k)=false:=beq_eq_false_iff_ne.mpr h
    simp only [eK,hb]
    exact ih
theorem uH (f:Str) (v:V):∀fs:List (Str×V),f∈(jo f v fs).map (·.1)/\∀g,g∈fs.map (·.1)->g∈(jo f v fs).map (·.1)
 | []=>⟨by simp [jo],λg h=>by simp at h⟩
 | (k,x)::r=>by
  obtain ⟨i1,i2⟩:=uH f v r
  rw [show jo f v ((k,x)::r)=(if k=f then (k,v)::r else (k,x)::jo f v r) from rfl]
  by_cases hk:k=f
  ·rw [if_pos hk]
   subst hk
   exact ⟨by simp,λg h=>by simpa using h⟩
  ·rw [if_neg hk]
   refine ⟨?_,λg h=>?_⟩
   ·rw [aO]
    exact az _ i1
   ·rw [aO] at h ⊢
    rcases List.mem_cons.mp h with e | e
    ·exact List.mem_cons.mpr (.inl e)
    ·exact az _ (i2 g e)
theorem jT (f:Str) (v:V):∀fs:List (Str×V),(jo f v fs).length<=fs.length+1
 | []=>by simp [jo]
 | (k,x)::r=>by
  have ih:=jT f v r
  rw [show jo f v ((k,x)::r)=(if k=f then (k,v)::r else (k,x)::jo f v r) from rfl]
  by_cases hk:k=f
  ·rw [if_pos hk,b7,b7];omega
  ·rw [if_neg hk,b7,b7];omega
theorem yz.some_of {v:V}{o:Option ah}(r:yz (some v) o):∃u,o=some u/\jx v u:=by
 cases o with
 | none=>exact (show False from r).elim
 | some u=>exact ⟨u,rfl,r⟩
theorem yz.none_of {o:Option ah}(r:yz none o):o=none:=by
 cases o with
 | none=>rfl
 | some u=>exact (show False from r).elim
theorem Yu {v:V}{u:ah}(r:jx v u):pj u=true:=by
 cases v with
 | non=>cases (show u=b0 from r);rfl
 | bl b=>cases (show u=lU b from r);rfl
 | int i=>obtain ⟨t,e⟩:=(show ∃t,u=eY i t from r);cases e;rfl
 | str x=>obtain ⟨t,e⟩:=(show ∃t,u=nk x t from r);cases e;rfl
 | byt b=>obtain ⟨t,e⟩:=(show ∃t,u=Value.bytes b t from r);cases e;rfl
 | flt b=>obtain ⟨t,e⟩:=(show ∃t,u=pJ b t from r);cases e;rfl
 | ref a=>cases (show u=aV a from r);rfl
 | ty n=>cases (show u=dP n from r);rfl
section
variable {P:Program}{w:b8}{H H':Hp}{h h':Heap}{a C dx:Addr}{fs fs':List (Str×V)}
theorem ww (hok:HOk P w H h) (e:H a=some (.ins C dx fs)):∃mA,ObjM h a dx C mA/\(∀f,yz (fs.lookup f) (mA f))/\oE mA (fs.map (·.1))/\fs.length<=1000/\H dx=some (.own a):=by
 obtain ⟨d,z,ne,ob,mA,n,r,q⟩:=(show qg P w H h a (.ins C dx fs) from hok a _ e)
 exact ⟨mA,⟨ob,n,ne⟩,r,q,z,d⟩
end
structure Cls (K:aj) (C:Addr):Prop where
 pg:ft K C Str.empty=true
 hd:fR K C=true
 po:lu K C=true
 sa:bQ K (.ref C) "__setattr__" = some (some (.builtin "object.__setattr__"))
theorem Cls.get {K:aj}{C:Addr}(c:Cls K C) (f:Str):ft K C f=true:=c.pg
noncomputable def zp (K:aj) (C:Addr) (f:Str):Prop:=bQ K (.ref C) f=some none
theorem zp.taker {K:aj}{C:Addr}{f:Str}(n:zp K C f):mr K C f=some none:=by
 unfold mr
 rw [show bQ K (.ref C) f=some none from n]
 rfl
structure Meth (K:aj) (C:Addr) (m:Str) (f:Addr):Prop where
 at_:bQ K (.ref C) m=some (some (.ref f))
 fn:oF K (.ref f)=true
 kp:c6 K (.ref f)=true
section
variable {X:Cx}{pins:List (Addr×Obj)}{σ:St}{H:Hp}{s:Shared}{a C dx:Addr}{fs:List (Str×V)}{f:Str}{v:V}{A:br}{E:ah->Shared->Prop}
theorem XW {b:Bool}{Q:ah->Shared->Prop}(I:Inv X pins σ H s) (e:H a=some (.ins C dx fs)) (c:Cls X.K C) (n:zp X.K C f) (l:fs.lookup f=some v)
  (h:∀u s',Inv X pins σ H s'->jx v u->Q u s'):aC (aH X.prog X.w) A (getAttr (.ref a) f b) Q E s:=by
 obtain ⟨mA,O,r,_,_,_⟩:=ww I.hok e
 obtain ⟨u,hu,ru⟩:=yz.some_of (v:=v) (o:=mA f) (by rw [<- l];exact r f)
 exact UD I.kIn O (c.get f) c.hd n hu (Yu ru) (h u _ (I.tok _) ru)
theorem yu {m:Str}{g:Addr}{pl:Sem Bool}{Q:ah×List ah->Shared->Prop}(I:Inv X pins σ H s) (e:H a=some (.ins C dx fs)) (c:Cls X.K C) (k:Meth X.K C m g) (l:fs.lookup m=none)
  (h:Q (.ref g,[.ref a]) s):aC (aH X.prog X.w) A (ij (.ref a) m pl) Q E s:=by
 obtain ⟨mA,O,r,_,_,_⟩:=ww I.hok e
 have hn:mA m=none:=yz.none_of (by rw [<- l];exact r m)
 exact V5 I.kIn O (c.get m) k.at_ k.fn hn h
theorem Xc {y:V}{u:ah}{Q:Unit->Shared->Prop}(I:Inv X pins σ H s) (e:H a=some (.ins C dx fs)) (c:Cls X.K C) (n:zp X.K C f) (hl:fs.length<1000) (ry:jx y u)
  (h:∀s',Inv X pins σ (upd H a (.ins C dx (jo f y fs))) s'->Q () s'):aC (aH X.prog X.w) A (setAttr (.ref a) f u) Q E s:=by
 obtain ⟨mA,O,r,wi,_,ho⟩:=ww I.hok e
 have hz:(fs.map (·.1)).length<=sizeLine:=by rw [aa,bN];omega
 refine Uu I.kIn O c.sa c.po n.taker c.hd wi hz λh' O' sb=>h _ ?_
 have hd:∃o,h'.get? dx=some o:=let ⟨o,_,_,e',_⟩:=O'.ns;⟨o,e'⟩
 refine I.write (x:=a) (e:=dx) (by rw [e];exact di) (.inr ho) (λb q hb z=>(sb.2 b hb).trans z) hd ?_
 refine ⟨by rw [j5 O.ne];exact ho,?_,O.ne,O'.obj,_,O'.ns,λg=>?_,λg hg=>?_⟩
 ·have:=jT f y fs;omega
 ·show yz ((jo f y fs).lookup g) (if g=f then some u else mA g)
  rw [ju]
  by_cases q:g=f
  ·rw [if_pos q,if_pos q];exact ry
  ·rw [if_neg q,if_neg q];exact r g
 ·by_cases q:g=f
  ·rw [q];exact (uH f y fs).1
  ·refine (uH f y fs).2 g (wi g λz=>hg ?_)
   show (if g=f then some u else mA g)=none
   rw [if_neg q];exact z
theorem Inv.made (I:Inv X pins σ H s):Inv X pins σ (upd (upd H s.heap.objs.size (.own (s.heap.objs.size+1))) (s.heap.objs.size+1) (.ins C s.heap.objs.size []))
  { s with heap:=(s.heap.push cC).push (df C s.heap.objs.size) }:=by
 have e1:(s.heap.push cC).get? s.heap.objs.size=some cC:=aA s.heap rfl
 have e2:((s.heap.push cC).push (df C s.heap.objs.size)).get? (s.heap.objs.size+1)=some (df C s.heap.objs.size):=by
  have:=aA (s.heap.push cC) (o:=df C s.heap.objs.size) rfl
  rwa [bK] at this
 have e3:(s.heap.push cC).Ns s.heap.objs.size (λ_=>none):=⟨cC,#[],_,e1,rfl,(λe he=>absurd he (by simp)),λ_=>rfl⟩
 have I1:=I.laid (a:=s.heap.objs.size) (o:=.own (s.heap.objs.size+1)) (h':=s.heap.push cC) (t':=s.toks) (λb u q=>ai _ q) (ar _) ⟨_,e1⟩
 refine I1.laid (a:=s.heap.objs.size+1) (o:=.ins C s.heap.objs.size []) (t':=s.toks) (λb u q=>ai _ q) (oG (bK _ _)) ?_
 have ne:s.heap.objs.size≠s.heap.objs.size+1:=aD (cX _)
 refine ⟨by rw [j5 ne,j4],aQ _,ne,e2,λ_=>none,(Heap.Ns1.of_empty e3).at λo q=>ai _ q,λ_=>di,λy hy=>absurd rfl hy⟩
theorem Us {prog:Program}{w:b8}{env:Env}{e:Expr}{f:Str}{pos:Pos}{s:Shared}{Q:ah->Shared->Prop}(hb:fE e f env (eval e env)=eval e env)
  (h:aC (aH prog w) A (eval e env) (λo s₁=>aC (aH prog w) A (getAttr o f true) Q E s₁) E s):aC (aH prog w) A (eval (.Attribute e f pos) env) Q E s :=
 Attribute_any_ h (by rw [arm_eval_Attribute,hb])
end
noncomputable def Go (K:aj) (ta:TE) (f:Str):TE:=λσ H Q=>ta σ H λx H1=>∃a C dx fs v,x = .ref a/\H1 a=some (.ins C dx fs)/\Cls K C/\zp K C f/\fs.lookup f=some v/\Q v H1
noncomputable def GI (K:aj) (ta tv:TE) (f:Str):TS:=λD σ H=>tv σ H λy H1=>ta σ H1 λx H2=>∃a C dx fs,x = .ref a/\H2 a=some (.ins C dx fs)/\Cls K C/\zp K C f/\fs.length<1000 /\
 D.nx σ (upd H2 a (.ins C dx (jo f y fs)))
section
variable {X:Cx}{o e value:Expr}{f:Str}{pos pos' tpos:Pos}{ta tv:TE}
theorem Wz (he:PE X e ta) (hb:fE e f X.env (eval e X.env)=eval e X.env):PE X (.Attribute e f pos) (Go X.K ta f):=by
 intro pins s σ H Q I h
 refine Us hb (thn (he pins s σ H _ I h) λu s1 ⟨x,H1,I1,rx,a,C,dx,fs,v,ex,ea,c,n,l,q⟩=>?_)
 subst ex
 obtain rfl:u=aV a:=rx
 exact XW I1 ea c n l λu' s2 I2 ru=>⟨v,H1,I2,ru,q⟩
theorem WA (ha:PE X o ta) (hv:PE X value tv) (hs:ig value (some (.Attribute o f pos')) pos.line X.env=pure false):PS X (.Assign [.Attribute o f pos'] value pos) (GI X.K ta tv f):=by
 intro pins s σ H D I h
 refine plainObj_wpAny_Assign_Attribute (thn (hv pins s σ H _ I h) λu s1 ⟨y,H1,I1,ry,q⟩=>thn (ha pins s1 σ H1 _ I1 q) λov s2 ⟨x,H2,I2,rx,a,C,dx,fs,ex,ea,c,n,l,q2⟩=>?_) hs
 subst ex
 obtain rfl:ov=aV a:=rx
 exact Xc I2 ea c n l ry λs3 I3=>⟨σ,_,I3,q2⟩
theorem UZ {pl:Sem Bool}{m:Str}{apos:Pos}{args:List Expr}{pins:List (Addr×Obj)}{s:Shared}{σ:St}{H:Hp}{Q:ah->Shared->Prop}{te:TE}(he:PE X e te) (I:Inv X pins σ H s)
  (h:te σ H λx H1=>∃a C dx fs g,x = .ref a/\H1 a=some (.ins C dx fs)/\Cls X.K C/\Meth X.K C m g/\fs.lookup m=none /\
   ∀s1,Inv X pins σ H1 s1->aC (aH X.prog X.w) X.A (lO pos (.ref g) [.ref a] (cz pos (aN args X.env)) (fS pos (dI [] X.env))) Q X.xe s1)
  (ht:eval (.Call (.Attribute e m apos) args [] pos) X.env=(do
   let ov <- eval e X.env
   fg apos.atName
   let (f,first) <- dY [ov] (ij ov m pl)
   lO pos f first (cz pos (aN args X.env)) (fS pos (dI [] X.env)))) :
  aC (aH X.prog X.w) X.A (eval (.Call (.Attribute e m apos) args [] pos) X.env) Q X.xe s:=by
 refine fc (pl:=pl) (thn (he pins s σ H _ I h) λu s1 ⟨x,H1,I1,rx,a,C,dx,fs,g,ex,ea,c,k,l,q⟩=>?_) ht
 subst ex
 obtain rfl:u=aV a:=rx
 exact yu I1 ea c k l (q s1 I1)
end
section
variable {X:Cx}{pins:List (Addr×Obj)}{σ:St}{H:Hp}{s:Shared}{A:br}{E:ah->Shared->Prop}{Q:ah->Shared->Prop}{c:ah}{b:Bool}
inductive TyOf (K:aj) (H:Hp):V->ah->Prop where
 | non:TyOf K H .non (.type "NoneType")
 | bl (x:Bool):TyOf K H (.bl x) (.type "bool")
 | int (i:Int):TyOf K H (.int i) (.type "int")
 | str (x:Str):TyOf K H (.str x) (.type "str")
 | flt (x:UInt64):TyOf K H (.flt x) (.type "float")
 | lst {a:Addr} {xs:List V} (e:H a=some (.lst xs)):TyOf K H (.ref a) (.type "list")
 | frz {a:Addr} {o:Obj} {xs:List V} (e:H a=some (.frz o (.lst xs))):TyOf K H (.ref a) (.type "list")
 | tup {a:Addr} {xs:List V} (e:H a=some (.tup xs)):TyOf K H (.ref a) (.type "tuple")
 | dK {a:Addr} {kvs:List (Key×V)} (e:H a=some (.dK kvs)):TyOf K H (.ref a) (.type "dict")
 | dT {a:Addr} {kvs:List (List Key×V)} (e:H a=some (.dT kvs)):TyOf K H (.ref a) (.type "dict")
 | ins {a C dx:Addr} {fs:List (Str×V)} (e:H a=some (.ins C dx fs)) (cl:Cls K C) (ha:bQ K (.ref C) "__class__" = some (some (.builtin "object.__class__")))
   (hn:PySem.W.specialIn K (.builtin "object.__class__") "__get__" = some (some (.builtin "getset_descriptor.__get__"))) (htk:PySem.W.takesIn K (.builtin "object.__class__")=some true)
   (hm:PySem.W.mroIn K C (.type "object")=some true):TyOf K H (.ref a) (.ref C)
theorem Yl {x:V}{u t:ah}(I:Inv X pins σ H s) (rx:jx x u) (ty:TyOf X.K H x t) (e:bx X.K t c=some b) (h:∀tk,Q (.bool b) { s with toks:=tk }) :
  aC (aH X.prog X.w) A (call (.builtin "isinstance") [u,c]) Q E s:=by
 cases ty with
 | non=>cases (show u=b0 from rx);exact cu PySem.W.kitx_none I.kIn di e (λz=>nomatch z) h
 | bl y=>cases (show u=lU y from rx);exact cu PySem.W.kitx_bool I.kIn di e (λz=>nomatch z) h
 | int i=>obtain ⟨t,q⟩:=(show ∃t,u=eY i t from rx);cases q;exact cu PySem.W.kitx_int I.kIn di e (λz=>nomatch z) h
 | str y=>obtain ⟨t,q⟩:=(show ∃t,u=nk y t from rx);cases q;exact cu PySem.W.kitx_str I.kIn di e (λz=>nomatch z) h
 | flt y=>obtain ⟨t,q⟩:=(show ∃t,u=pJ y t from rx);cases q;exact cu PySem.W.kitx_float I.kIn di e (λz=>nomatch z) h
 | @lst a xs ea =>
  cases (show u=aV a from rx)
  obtain ⟨_,_,n,_,h1⟩:=(show qg X.prog X.w H s.heap a (.lst xs) from I.hok a _ ea)
  exact cu oH I.kIn ⟨_,h1,rfl⟩ e (λz=>nomatch z) h
 | @frz a ob xs ea =>
  cases (show u=aV a from rx)
  obtain ⟨_,_,_,n,_,h1⟩:=(show qg X.prog X.w H s.heap a (.frz ob (.lst xs)) from I.hok a _ ea)
  exact cu oH I.kIn ⟨_,h1,rfl⟩ e (λz=>nomatch z) h
 | @tup a xs ea =>
  cases (show u=aV a from rx)
  obtain ⟨_,_,_,p⟩:=(show qg X.prog X.w H s.heap a (.tup xs) from I.hok a _ ea)
  obtain ⟨o,h1,h2,_⟩:=p
  exact cu PySem.W.kitx_tuple I.kIn ⟨o,h1,h2⟩ e (λz=>nomatch z) h
 | @dK a kvs ea =>
  cases (show u=aV a from rx)
  obtain ⟨_,_,vs,_,p⟩:=(show qg X.prog X.w H s.heap a (.dK kvs) from I.hok a _ ea)
  obtain ⟨o,es,ep,h1,h2,_⟩:=p
  exact cu oI I.kIn ⟨o,h1,h2.1⟩ e (λz=>nomatch z) h
 | @dT a kvs ea =>
  cases (show u=aV a from rx)
  obtain ⟨_,_,xs,_,o,es,ep,h1,h2,_⟩:=(show qg X.prog X.w H s.heap a (.dT kvs) from I.hok a _ ea)
  exact cu oI I.kIn ⟨o,h1,h2.1⟩ e (λz=>nomatch z) h
 | @ins a C dx fs ea cl ha hn htk hm =>
  cases (show u=aV a from rx)
  obtain ⟨mA,O,_⟩:=ww I.hok ea
  obtain ⟨od,J,_⟩:=O.look
  exact cu (PySem.W.kitx_own (cl.get _) cl.hd ha hn htk hm) I.kIn J e (λz=>nomatch z) h
end
end L2
namespace L2
structure Room (k:Nat) (A:br):Prop where
 hd:A.handled=none
 dp:A.depth+3*k+5<recursionLimit
 un:A.units+16*k+200<cLine
theorem Room.mono {j k:Nat}{A:br}(r:Room k A) (h:j<=k):Room j A:=⟨r.hd,by have:=r.dp;omega,by have:=r.un;omega⟩
theorem Room.deeper {k:Nat}{A:br}(r:Room (k+1) A) (env:Env):Room k (A.deeper env) :=
 ⟨r.hd,by have:=r.dp;show A.depth+1+3*k+5<_;omega,by have:=r.un;show A.units+3+16*k+200<_;omega⟩
theorem Room.in1 {k:Nat}{A:br}(r:Room (k+1) A):Room k A.in1 :=
 ⟨r.hd,by have:=r.dp;show A.depth+3*k+5<_;omega,by have:=r.un;show A.units+1+16*k+200<_;omega⟩
theorem X0 {A:br}{C:Addr}{us:List ah}{kw:List (Str×ah)}:(A.under (.builtin "type.__call__" ⟨.ref C::us,kw⟩)).depth=A.depth+1:=by
 first | rfl | simp [oJ,Code.weight,Code.isCreation,Code.isGuard,Code.isCaller,Code.frames,oK,guardIds]
theorem XX {A:br}{C:Addr}{us:List ah}{kw:List (Str×ah)}:(A.under (.builtin "type.__call__" ⟨.ref C::us,kw⟩)).units=A.units+1:=by
 first | rfl | simp [oJ,Code.cUnits,Code.frames,oK]
theorem Room.make {k:Nat}{A:br}(r:Room (k+1) A) (C:Addr) (us:List ah) (kw:List (Str×ah)):Room k (A.under (.builtin "type.__call__" ⟨.ref C::us,kw⟩)) :=
 ⟨r.hd,by have:=r.dp;rw [X0];omega,by have:=r.un;rw [XX];omega⟩
theorem Room.depth {k:Nat}{A:br}(r:Room k A):A.depth<recursionLimit:=by have:=r.dp;omega
theorem Room.units {k:Nat}{A:br}(r:Room k A):A.units+64<cLine:=by have:=r.un;omega
noncomputable def kY:TA:=λ_ H Q=>Q [] H
noncomputable def GC (ta:TE) (tr:TA):TA:=λσ H Q=>ta σ H λx H1=>tr σ H1 λxs H2=>Q (x::xs) H2
section
variable {X:Cx}{e:Expr}{es:List Expr}{te:TE}{t:TA}{pos:Pos}
theorem j2:PA X [] kY:=λ_ _ _ _ H Q I h=>oM ⟨[],H,I,.nil,h⟩
theorem j0 (ha:PE X e te) (hr:PA X es t) (hs:aN (e::es) X.env=(false,eval e X.env)::aN es X.env:=by rfl):PA X (e::es) (GC te t):=by
 intro pos pins s σ H Q I h
 rw [hs]
 show aC _ _ (spliced ((false,eval e X.env)::cz pos (aN es X.env))) _ _ s
 refine iR (thn (ha pins s σ H _ I h) λu s1 ⟨x,H1,I1,r1,q1⟩=>?_)
 exact thn (hr pos pins s1 σ H1 _ I1 q1) λus s2 ⟨xs,H2,I2,r2,q2⟩=>⟨x::xs,H2,I2,.cons r1 r2,q2⟩
end
noncomputable abbrev Sp:=List V->Hp->VK->XK->Prop
noncomputable abbrev CXT:=List Env->Hp->Shared->XK->ah->Shared->Prop
structure Env0 (P:Program) (w:b8) (K:aj) (mg:Str->Option ah) (base:Heap) (A:br) (outer:List Env) (s:Shared) (H:Hp):Prop where
 frames:A.frames=some outer
 mod:Mod K mg base
 bs:∀b o,base.get? b=some o->s.heap.get? b=some o/\H b=none
 bsz:base.objs.size<=s.heap.objs.size
 funs:s.heap.FunFrames base outer
 frf:∀b∈frs outer,H b=none
 hok:HOk P w H s.heap
 bare:ip s.gens
noncomputable def CE (outer:List Env) (P:Program) (w:b8) (H:Hp) (s:Shared) (Q:VK) (u:ah) (s':Shared):Prop :=
 ∃v H',s'.os=s.os/\ip s'.gens/\Un (frs outer) [] H H' s.heap s'.heap/\HOk P w H' s'.heap/\jx v u/\Q v H'
noncomputable def CR (CX:CXT) (outer:List Env) (P:Program) (w:b8) (H:Hp) (s:Shared) (Q:VK) (E:XK) (r:lY) (s':Shared):Prop :=
 match r with
 | .ok (.ret u)=>CE outer P w H s Q u s'
 | .ok _=>False
 | .error e=>CX outer H s E e s'
structure FnOk (P:Program) (w:b8) (K:aj) (mg:Str->Option ah) (base:Heap) (CX:CXT) (k:Nat) (f:Addr) (fd:FuncData) (ps:List Str) (sp:Sp):Prop where
 len:∀vs H Q E,sp vs H Q E->vs.length=ps.length
 run:∀(A:br) (outer:List Env) (s:Shared) (H:Hp) (args:Args) (us:List ah) (vs:List V) (Q:VK) (E:XK),Room k A->Env0 P w K mg base A outer s H->pY s fd args (ps.zip us)->jB vs us->sp vs H Q E ->
  cO (aH P w) A (.call (.ref f) args) (CR CX outer P w H s Q E) s
theorem Env0.make {P:Program}{w:b8}{K:aj}{mg:Str->Option ah}{base:Heap}{A:br}{outer:List Env}{s:Shared}{H:Hp}(e:Env0 P w K mg base A outer s H) (C:Addr) (us:List ah) (kw:List (Str×ah)) :
  Env0 P w K mg base (A.under (.builtin "type.__call__" ⟨.ref C::us,kw⟩)) outer s H:=⟨by first | exact e.frames | (simpa [oJ,Code.envs,oK,pushEnvs] using e.frames),e.mod,e.bs,e.bsz,e.funs,e.frf,e.hok,e.bare⟩
theorem Env0.in1 {P:Program}{w:b8}{K:aj}{mg:Str->Option ah}{base:Heap}{A:br}{outer:List Env}{s:Shared}{H:Hp}(e:Env0 P w K mg base A outer s H) :
  Env0 P w K mg base A.in1 outer s H:=⟨e.frames,e.mod,e.bs,e.bsz,e.funs,e.frf,e.hok,e.bare⟩
section
variable {X:Cx}{pins:List (Addr×Obj)}{σ:St}{H:Hp}{s s':Shared}
theorem Inv.env0 (I:Inv X pins σ H s):Env0 X.prog X.w X.K X.mg X.base X.A X.stack s H :=
 ⟨I.ok.frames,I.ok.mod,I.bs,aI I.ok.bsz I.sz,I.stack,I.stkFree,I.hok,I.bare⟩
theorem Inv.after {Q:VK}{u:ah}(I:Inv X pins σ H s) (h:CE X.stack X.prog X.w H s Q u s'):EP X pins σ Q u s':=by
 obtain ⟨v,H',os,bare,un,hok,r,q⟩:=h
 obtain ⟨hh,g,d,t,os'⟩:=s'
 obtain rfl:os'=s.os:=os
 exact ⟨v,H',I.call (h':=hh) (g':=g) (d':=d) (t':=t) (ch:=[]) un hok bare (λb z=>absurd z (by simp)),r,q⟩
end
noncomputable def UT (sp:Sp) (dvs:List V) (E:XK) (t:TA):TE:=λσ H Q=>t σ H λvs H1=>sp (vs++dvs) H1 Q E
noncomputable def Z5 (C:Addr) (m:Str) (sp:Sp) (dvs:List V) (E:XK) (ta:TE) (t:TA):TE:=λσ H Q=>ta σ H λx H1=>∃a dx fs,x = .ref a/\H1 a=some (.ins C dx fs)/\fs.lookup m=none /\
 t σ H1 λvs H2=>sp (x::(vs++dvs)) H2 Q E
noncomputable def zZ (K:aj) (fd:FuncData) (ps:List Str) (ds:List ah):Prop :=
 ∀(s:Shared) (us:List ah),K.In s.heap->(us++ds).length=ps.length->pY s fd ⟨us,[]⟩ (ps.zip (us++ds))
theorem zZ.all {K:aj}{fd:FuncData}{ps:List Str}(h:∀us:List ah,us.length=ps.length->cP fd ⟨us,[]⟩=pure (ps.zip us)):zZ K fd ps []:=λs us _ hl=>by
 rw [bc] at hl ⊢
 exact .of_eq (h us hl)
noncomputable def wS (CX:CXT) (X:Cx) (E:XK):Prop:=∀(pins:List (Addr×Obj)) (σ:St) (H:Hp) (s:Shared) (e:ah) (s':Shared),Inv X pins σ H s->CX X.stack H s E e s'->X.xe e s'
section
variable {X:Cx}{CX:CXT}{k:Nat}{f C:Addr}{fd:FuncData}{ps:List Str}{sp:Sp}{dvs:List V}{ds:List ah}{E:XK}{x m:Str}{p pos apos:Pos}{e o:Expr}{es:List Expr}{ta:TE}{t:TA}
theorem XO {pins:List (Addr×Obj)}{σ:St}{H:Hp}{s:Shared}{Q:VK}{us:List ah}{vs:List V}(F:FnOk X.prog X.w X.K X.mg X.base CX k f fd ps sp) (hr:Room k X.A) (hb:zZ X.K fd ps ds) (hd:jB dvs ds) (hx:wS CX X E)
  (I:Inv X pins σ H s) (r:jB vs us) (h:sp (vs++dvs) H Q E):aC (aH X.prog X.w) X.A (call (.ref f) us) (EP X pins σ Q) X.xe s:=by
 have r2:jB (vs++dvs) (us++ds):=r.append hd
 have hl:(us++ds).length=ps.length:=by rw [<- r2.length];exact F.len _ _ _ _ h
 refine lZ (dJ (F.run X.A X.stack s H ⟨us,[]⟩ (us++ds) (vs++dvs) Q E hr I.env0 (hb s us I.kIn hl) r2 h) λr s' hq=>?_)
 cases r with
 | error e=>exact hx pins σ H s e s' I hq
 | ok fl =>
  cases fl with
  | ret u=>exact I.after hq
  | next=>exact bH hq
  | brk=>exact bH hq
  | cont=>exact bH hq
theorem Uj (F:FnOk X.prog X.w X.K X.mg X.base CX k f fd ps sp) (hr:Room k X.A) (hg:Gl X x) (hm:X.mg x=some (.ref f)) (hk:c6 X.K (.ref f)=true) (hb:zZ X.K fd ps ds) (hd:jB dvs ds) (hx:wS CX X E)
  (ha:PA X (e::es) t) (hdb:(x == ("__debug__" : Str))=false:=by decide) (he:aN (e::es) X.env=(false,eval e X.env)::aN es X.env:=by rfl) (hpl:(cz pos (aN es X.env)).any (·.1)=false:=by rfl) :
  PE X (.Call (.Name x p) (e::es) [] pos) (UT sp dvs E t):=by
 intro pins s σ H Q I h
 refine cY (uh I hg hm ?_ hdb)
 refine eO (h₀:=X.base) I.ok.mod.kin hk (thn (ha pos pins s σ H _ I h) λus s1 ⟨vs,H1,I1,r,q⟩=>⟨I1.kIn,?_⟩) he hpl
 exact XO F hr hb hd hx I1 r q
theorem Uc {pl:Sem Bool}(he:PE X o ta) (c:Cls X.K C) (hm:Meth X.K C m f) (F:FnOk X.prog X.w X.K X.mg X.base CX k f fd ps sp) (hr:Room k X.A) (hb:zZ X.K fd ps ds) (hd:jB dvs ds) (hx:wS CX X E) (ha:PA X (e::es) t)
  (hst:aN (e::es) X.env=(false,eval e X.env)::aN es X.env:=by rfl) (hpl:(cz pos (aN es X.env)).any (·.1)=false:=by rfl)
  (ht:eval (.Call (.Attribute o m apos) (e::es) [] pos) X.env=(do
   let ov <- eval o X.env
   fg apos.atName
   let (f,first) <- dY [ov] (ij ov m pl)
   lO pos f first (cz pos (aN (e::es) X.env)) (fS pos (dI [] X.env))):=by rfl) :
  PE X (.Call (.Attribute o m apos) (e::es) [] pos) (Z5 C m sp dvs E ta t):=by
 intro pins s σ H Q I h
 refine fc (pl:=pl) (thn (he pins s σ H _ I h) λu s1 ⟨x,H1,I1,rx,a,dx,fs,ex,ea,l,q⟩=>?_) ht
 subst ex
 obtain rfl:u=aV a:=rx
 refine yu I1 ea c hm l ?_
 refine eO (first:=[.ref a]) (h₀:=X.base) I.ok.mod.kin hm.kp (thn (ha pos pins s1 σ H1 _ I1 q) λus s2 ⟨vs,H2,I2,r,q2⟩=>⟨I2.kIn,?_⟩) hst hpl
 exact XO (us:=.ref a::us) (vs:=.ref a::vs) F hr hb hd hx I2 (.cons rfl r) q2
theorem Vd {pl:Sem Bool}(he:PE X o ta) (c:Cls X.K C) (hm:Meth X.K C m f) (F:FnOk X.prog X.w X.K X.mg X.base CX k f fd ps sp) (hr:Room k X.A) (hb:zZ X.K fd ps ds) (hd:jB dvs ds) (hx:wS CX X E)
  (ht:eval (.Call (.Attribute o m apos) [] [] pos) X.env=(do
   let ov <- eval o X.env
   fg apos.atName
   let (f,first) <- dY [ov] (ij ov m pl)
   lO pos f first (cz pos (aN [] X.env)) (fS pos (dI [] X.env))):=by rfl) :
  PE X (.Call (.Attribute o m apos) [] [] pos) (Z5 C m sp dvs E ta kY):=by
 intro pins s σ H Q I h
 refine fc (pl:=pl) (thn (he pins s σ H _ I h) λu s1 ⟨x,H1,I1,rx,a,dx,fs,ex,ea,l,q⟩=>?_) ht
 subst ex
 obtain rfl:u=aV a:=rx
 refine yu I1 ea c hm l ?_
 exact PySem.W.callWith_K0 (first:=[.ref a]) I1.kIn hm.kp (XO (us:=[.ref a]) (vs:=[.ref a]) F hr hb hd hx I1 (.cons rfl .nil) q)
structure Mk (K:aj) (C f:Addr):Prop where
 makes:mw K C=true
 init:bQ K (.ref C) "__init__" = some (some (.ref f))
 fn:oF K (.ref f)=true
 kp:c6 K (.ref C)=true
end
section
variable {X:Cx}{CX:CXT}{k:Nat}{f C:Addr}{fd:FuncData}{ps ks:List Str}{sp:Sp}{E:XK}{x m:Str}{p pos apos kpos:Pos}{e o:Expr}{es:List Expr}{kws:List m6}{te ta:TE}{t tk:TA}{nm:Option Str}
variable {g:List ah->List ah->List ah}{gV:List V->List V->List V}
end
structure FnScope (N P:List Str) (sc:Scope):Prop where
 kind:sc.kind = .function
 co:sc.isCoroutine=false
 gen:sc.isGenerator=false
 nd:N.Nodup
 pre:N.take P.length=P
 par:∀x∈P,sc.names.lookup x=some .local\/sc.names.lookup x=some .cell
 nofree:∀y∈sc.names,y.2≠.free
theorem J6 {kindOf:Str->Option ez}{x:Str}:∀{binds:List (Str×ah)}{m:Str->Option ah},(∀v,(x,v)∉binds)->rG kindOf binds m x=m x
 | [],_,_=>rfl
 | (n,v)::r,m,h=>by
  unfold rG
  rw [J6 λw hw=>h w (az _ hw)]
  split
  ·have:x≠n:=by rintro rfl;exact h v aG
   simp [this]
  ·rfl
theorem gH {kindOf:Str->Option ez}{x:Str}:∀{binds:List (Str×ah)}{m:Str->Option ah},(∀v,(x,v)∉binds)->rH kindOf binds m x=m x
 | [],_,_=>rfl
 | (n,v)::r,m,h=>by
  unfold rH
  rw [gH λw hw=>h w (az _ hw)]
  split
  ·rfl
  ·have:x≠n:=by rintro rfl;exact h v aG
   simp [this]
theorem gQ {kindOf:Str->Option ez}{x:Str}{v:ah}:∀{P:List Str}{vs:List ah}{i:Nat}{m:Str->Option ah},P.Nodup->P[i]? = some x->vs[i]? = some v->kindOf x=some .local ->
  rG kindOf (P.zip vs) m x=some v
 | [],_,_,_,_,h,_,_=>by simp at h
 | _::_,[],_,_,_,_,h,_=>by simp at h
 | p::P,w::vs,0,m,nd,h1,h2,hk=>by
  simp at h1 h2;subst h1;subst h2
  show rG kindOf ((p,w)::P.zip vs) m p=_
  unfold rG
  rw [J6 λv hv=>(List.nodup_cons.mp nd).1 (iC hv).1,if_pos hk]
  simp
 | p::P,w::vs,i+1,m,nd,h1,h2,hk=>by
  show rG kindOf ((p,w)::P.zip vs) m x=_
  unfold rG
  exact gQ (i:=i) (List.nodup_cons.mp nd).2 (by simpa using h1) (by simpa using h2) hk
theorem gC {kindOf:Str->Option ez}{x:Str}{v:ah}:∀{P:List Str}{vs:List ah}{i:Nat}{m:Str->Option ah},P.Nodup->P[i]? = some x->vs[i]? = some v->kindOf x≠some .local ->
  rH kindOf (P.zip vs) m x=some v
 | [],_,_,_,_,h,_,_=>by simp at h
 | _::_,[],_,_,_,_,h,_=>by simp at h
 | p::P,w::vs,0,m,nd,h1,h2,hk=>by
  simp at h1 h2;subst h1;subst h2
  show rH kindOf ((p,w)::P.zip vs) m p=_
  unfold rH
  rw [gH λv hv=>(List.nodup_cons.mp nd).1 (iC hv).1,if_neg hk]
  simp
 | p::P,w::vs,i+1,m,nd,h1,h2,hk=>by
  show rH kindOf ((p,w)::P.zip vs) m x=_
  unfold rH
  exact gC (i:=i) (List.nodup_cons.mp nd).2 (by simpa using h1) (by simpa using h2) hk
noncomputable def start (N:List Str) (vs:List V):St:=vs.map some++bX (N.length-vs.length) none
noncomputable def vx (CX:CXT) (P:Program) (w:b8) (K:aj) (mg:Str->Option ah) (base:Heap) (N:List Str) (qual:Str) (scope:Scope) (f:Addr) (cd:ah) (A:br) (outer:List Env) (s:Shared) (H:Hp) (E:XK):Cx where
 prog:=P
 w:=w
 K:=K
 mg:=mg
 base:=base
 A:=A.deeper (lC qual scope s.heap.objs.size f cd)
 N:=N
 s₀:=s
 H₀:=H
 env:=lC qual scope s.heap.objs.size f cd
 outer:=outer
 stack:=lC qual scope s.heap.objs.size f cd::outer
 ex:=[]
 calm:=true
 fn:=λ_=>true
 pn:=[]
 xe:=λe s'=>aC (aH P w) (A.deeper (lC qual scope s.heap.objs.size f cd)) (nu (lC qual scope s.heap.objs.size f cd) e) (λ_ s''=>CX outer H s E e s'') (λe' s''=>CX outer H s E e' s'') s'
theorem QF {sc:Scope}{n:Nat}{x:Str}(h:sc.names.lookup x=some .cell):∃c,(ik n sc.names []).lookup x=some c:=by
 have q:=fT sc.names n [] (.inl h)
 exact Option.isSome_iff_exists.mp q
theorem gq {CX:CXT}{P:Program}{w:b8}{K:aj}{mg:Str->Option ah}{base:Heap}{N ps:List Str}{qual:Str}{scope:Scope}{f:Addr}{cd:ah}{A:br}{outer:List Env}{s s1:Shared}{H:Hp}{E:XK}{us:List ah}{vs:List V}
  (S:FnScope N ps scope) (hd:A.handled=none) (e0:Env0 P w K mg base A outer s H) (hl:vs.length=ps.length) (r:jB vs us)
  (x:InCallC s s.heap.objs.size (rG (lC qual scope s.heap.objs.size f cd).kindOf (ps.zip us) λ_=>none) (ik (s.heap.objs.size+1) scope.names []) (rH (lC qual scope s.heap.objs.size f cd).kindOf (ps.zip us) λ_=>none) s1) :
  Inv (vx CX P w K mg base N qual scope f cd A outer s H E) [] (start N vs) H s1:=by
 have hpl:ps.length<=N.length:=by have:=congrArg mS S.pre;rw [aF] at this;omega
 obtain ⟨h1,tk,rfl,hk⟩:=x.done
 have noA:∀b:Addr,b∉(vx CX P w K mg base N qual scope f cd A outer s H E).ex:=λb z=>absurd (show b∈([]:List Addr) from z) (by simp)
 refine ⟨⟨e0.mod,S.kind,rfl,rfl,ar _,λy z c h1 h2=>?_,λy hy=>?_,λy c _ h=>?_,λ_=>hd,Around.frames_deeper e0.frames,.inr ⟨rfl,rfl⟩,λb z=>absurd z (noA b),e0.bs,e0.bsz,λb _ _=>noA b,λb z=>absurd z (noA b),e0.funs,e0.frf⟩,
  rfl,e0.bare,Un.kept hk,⟨_,x.toInCall.ns,λi y v h1 h2 h3=>?_⟩,λy c h=>⟨_,x.cell y c h⟩,e0.hok.fresh (ar _),λy c h=>?_,λp hp=>absurd (show p∈([]:List (Addr×Obj)) from hp) (by simp),e0.hok.kept hk,?_⟩
 ·exact name_of_addr x.apart (cT h1) (cT h2)
 ·have hy:scope.names.lookup y=some .cell\/scope.names.lookup y=some .free:=hy
  rcases hy with hy | hy
  ·exact QF hy
  ·exact absurd rfl (S.nofree _ (cT hy))
 ·exact cJ (x.above y c (cT h))
 ·have hi:i<vs.length:=by
   unfold start at h2
   by_cases hi:i<vs.length
   ·exact hi
   ·rw [cn (by simpa using hi)] at h2
    rw [eA] at h2
    split at h2 <;> cases h2
  have ha:vs[i]? = some v:=by
   unfold start at h2
   rw [cx (by simpa using hi),aB] at h2
   cases e:vs[i]? with
   | none=>rw [e] at h2;cases h2
   | some a=>rw [e] at h2;cases h2;rfl
  obtain ⟨u,hu,rv⟩:=r.get ha
  have hp:ps[i]? = some y:=by
   rw [<- S.pre,List.getElem?_take_of_lt ∅];exact h1
  have ndP:ps.Nodup:=by rw [<- S.pre];exact S.nd.sublist (List.take_sublist _ _)
  refine ⟨u,rv,?_⟩
  rcases S.par y (ay hp) with k | k
  ·exact .inl ⟨k,gQ ndP hp hu k⟩
  ·obtain ⟨c,e⟩:=QF (n:=s.heap.objs.size+1) k
   refine .inr ⟨.inl k,c,e,?_⟩
   have q:=x.cell y c e
   rw [gC ndP hp hu (by show scope.names.lookup y≠_;rw [k];decide)] at q
   exact q
 ·exact e0.hok.fresh (cJ (x.above y c (cT h)))
 ·unfold start
  show _=N.length
  rw [aw,aa,bg]
  omega
theorem VB {CX:CXT}{P:Program}{w:b8}{K:aj}{mg:Str->Option ah}{base:Heap}{k:Nat}{f:Addr}{name qual:Str}{params:Arguments}{body:List Stmt}{scope:Scope}{dV kV doc pm cdv ct oc:ah}{an od:Option Addr}
  {osl:Array (Option ah)} {N ps:List Str} {sp:Sp} (lk:K.lookup f=some ⟨oc,od,.func (bL name qual params body scope dV kV doc pm an cdv ct),osl⟩) (hcd:cQ K cdv qual=true) (S:FnScope N ps scope)
  (len:∀vs H Q E,sp vs H Q E->vs.length=ps.length)
  (hbody:∀(A:br) (outer:List Env) (s:Shared) (H:Hp) (vs:List V) (Q:VK) (E:XK),Room k (A.deeper (lC qual scope s.heap.objs.size f cdv))->sp vs H Q E ->
   ∃t,PSs (vx CX P w K mg base N qual scope f cdv A outer s H E) body t/\t { nx:=λ_ H'=>Q .non H',rt:=Q } (start N vs) H) :
  FnOk P w K mg base CX (k+1) f (bL name qual params body scope dV kV doc pm an cdv ct) ps sp:=by
 refine ⟨len,λA outer s H args us vs Q E hr e0 hb r hsp=>?_⟩
 have hl:=len _ _ _ _ hsp
 have KX:K.In s.heap:=e0.mod.kin.keeps λb o e=>(e0.bs b o e).1
 have lim:s.heap.NoLimit:=e0.mod.nolimit.keeps λb o e=>(e0.bs b o e).1
 have hkind:∀y∈ps.zip us,scope.names.lookup y.1=some .local\/(scope.names.lookup y.1=some .cell/\((ik (s.heap.objs.size+1) scope.names []).lookup y.1).isSome=true):=λ⟨n,v⟩ hy=>by
  rcases S.par n (iC hy).1 with q | q
  ·exact .inl q
  ·exact .inr ⟨q,fT _ _ _ (.inl q)⟩
 refine codeAny_call_function hr.depth (KX _ _ lk) rfl S.co S.gen rfl (PySem.W.codeRec_of KX hcd) (hb _ _ _ _ ?_)
 refine iS S.kind hkind λenv he s1 x=>?_
 subst he
 refine ⟨lim.keeps x.toInCall.keep,codeAny_func ?_⟩
 obtain ⟨t,ht,hq⟩:=hbody A outer s H vs Q E (hr.deeper _) hsp
 have I:Inv (vx CX P w K mg base N qual scope f cdv A outer s H E) [] (start N vs) H s1:=gq S hr.hd e0 hl r x
 refine b9 (ht [] s1 (start N vs) H _ I hq) (λfl s' hs=>?_) λe s' hs=>hs
 have fin:∀{σ':St} {H':Hp} {v:V} {u:ah},Inv (vx CX P w K mg base N qual scope f cdv A outer s H E) [] σ' H' s'->jx v u->Q v H'->CE outer P w H s Q u s' :=
  λ{σ' H' v u} J rv q=>⟨v,H',J.os,J.bare,J.base,J.hok,rv,q⟩
 cases fl with
 | ret u =>
  obtain ⟨v,σ',H',J,rv,q⟩:=hs
  exact fin J rv q
 | next =>
  obtain ⟨σ',H',J,q⟩:=hs
  exact fin (v:=V.non) (u:=b0) J rfl q
 | brk =>
  obtain ⟨_,_,_,q⟩:=hs
  exact bH q
 | cont =>
  obtain ⟨_,_,_,q⟩:=hs
  exact bH q
end L2
namespace L2
section
variable {X:Cx}{x:Str}{p pos:Pos}{e:Expr}{es:List Expr}{t:TA}{id T:String}{r:List V->Hp->VK->Prop}
noncomputable def tCB (r:List V->Hp->VK->Prop) (t:TA):TE:=λσ H Q=>t σ H λvs H1=>r vs H1 Q
theorem jc (hc:qE X (.builtin id) r) (hg:Gl X x) (hm:X.mg x=none) (hv:fP x=some (.builtin id)) (ha:PA X (e::es) t) (hn:x ≠ "__name__":=by decide) (hdb:(x == ("__debug__" : Str))=false:=by decide)
  (he:aN (e::es) X.env=(false,eval e X.env)::aN es X.env:=by rfl) (hpl:(cz pos (aN es X.env)).any (·.1)=false:=by rfl):PE X (.Call (.Name x p) (e::es) [] pos) (tCB r t):=by
 intro pins s σ H Q I h
 refine cY (zK I hg hm hv ?_ hn hdb)
 exact PyProof.Rows.callWith_builtin1 (thn (ha pos pins s σ H _ I h) λus s1 ⟨vs,H1,I1,r1,q1⟩=>hc pins s1 σ H1 vs us Q I1 r1 q1) he hpl
theorem qk (hc:qE X (.type T) r) (hg:Gl X x) (hm:X.mg x=none) (hv:fP x=some (.type T)) (ha:PA X (e::es) t) (hn:x ≠ "__name__":=by decide) (hdb:(x == ("__debug__" : Str))=false:=by decide)
  (he:aN (e::es) X.env=(false,eval e X.env)::aN es X.env:=by rfl) (hpl:(cz pos (aN es X.env)).any (·.1)=false:=by rfl):PE X (.Call (.Name x p) (e::es) [] pos) (tCB r t):=by
 intro pins s σ H Q I h
 refine cY (zK I hg hm hv ?_ hn hdb)
 exact cj (thn (ha pos pins s σ H _ I h) λus s1 ⟨vs,H1,I1,r1,q1⟩=>hc pins s1 σ H1 vs us Q I1 r1 q1) he hpl
end
end L2
namespace HT
open PySem PyProof.Rows
section
open PySem.SeqAt
open PySem.AutoSeq1 (wpAny_loadPart')
open PySem.MeetsSeq PySem.MeetsSeq2 PySem.MeetsSeq3
end
section
variable {prog:Program}{w:b8}{A:br}{E:ah->Shared->Prop}{s:Shared}
noncomputable def sIx (n d:Nat):Option Int->Nat
 | none=>d
 | some v=>if v<0 then (v+(n:Int)).toNat else min v.toNat n
theorem sIx_none (n d:Nat):sIx n d none=d:=rfl
theorem sIx_nat (n d k:Nat):sIx n d (some (k:Int))=min k n:=by
 show (if (k:Int)<0 then ((k:Int)+(n:Int)).toNat else min (k:Int).toNat n)=min k n
 rw [if_neg ∅,bb]
theorem slicePart_ {v:ah}{o:Option Int}{Q:Option Int->Shared->Prop}(p:rJ v o) (h:Q o s):aC (aH prog w) A (Builtin.Slice.slicePartIndex v) Q E s:=by
 cases p with
 | none=>exact slicePart_none h
 | int i t=>exact slicePart_int h
end
end HT
namespace L2
noncomputable abbrev TO:=St->Hp->(Option Int->Hp->Prop)->Prop
noncomputable def PO (X:Cx) (e:Option Expr) (t:TO):Prop :=
 ∀(pins:List (Addr×Obj)) (s:Shared) (σ:St) (H:Hp) (Q:Option Int->Hp->Prop),Inv X pins σ H s->t σ H Q ->
  aC (aH X.prog X.w) X.A (evalPart e X.env) (λu s'=>∃o H',Inv X pins σ H' s'/\rJ u o/\Q o H') X.xe s
noncomputable def Uo:TO:=λ_ H Q=>Q none H
noncomputable def GO (t:TE):TO:=λσ H Q=>t σ H λx H1=>∃i,x = .int i/\Q (some i) H1
section
variable {X:Cx}{e:Expr}{te:TE}{lo hi:Option Expr}{tl th:TO}{pos p2:Pos}
theorem ui:PO X none Uo:=by
 intro pins s σ H Q I h
 rw [lE]
 exact wpAny_pure ⟨none,H,I,.none,h⟩
theorem um (h:PE X e te):PO X (some e) (GO te):=by
 intro pins s σ H Q I hw
 rw [nM]
 refine thn (h pins s σ H _ I hw) λu s1 ⟨x,H1,I1,r1,q1⟩=>?_
 obtain ⟨i,rfl,q⟩:=q1
 obtain ⟨t,rfl⟩:=r1
 exact ⟨some i,H1,I1,.int i t,q⟩
noncomputable def SlR (X:Cx) (r:V->Option Int->Option Int->Hp->VK->Prop):Prop :=
 ∀(pins:List (Addr×Obj)) (s:Shared) (σ:St) (H:Hp) (x:V) (v vl vu:ah) (lo hi:Option Int) (sl:Addr) (Q:VK),Inv X pins σ H s->jx x v->s.heap.IsSliceOf sl vl vu .none->rJ vl lo->rJ vu hi->r x lo hi H Q ->
  ∃T id,rK (.type T) "__getitem__" = pure (some (.builtin id))/\s.TypeIs v T/\aC (aH X.prog X.w) X.A (lq v (.ref sl)) (EP X pins σ Q) X.xe s
noncomputable def tSl (r:V->Option Int->Option Int->Hp->VK->Prop) (te:TE) (tl th:TO):TE:=λσ H Q=>te σ H λx H1=>tl σ H1 λl H2=>th σ H2 λu H3=>r x l u H3 Q
theorem yS {r:V->Option Int->Option Int->Hp->VK->Prop}(hr:SlR X r) (he:PE X e te) (hl:PO X lo tl) (hu:PO X hi th):PE X (.Subscript e (.Slice lo hi none p2) pos) (tSl r te tl th):=by
 intro pins s σ H Q I h
 refine m7 (thn (he pins s σ H _ I h) λv s1 ⟨x,H1,I1,r1,q1⟩=>?_)
 refine pM (thn (hl pins s1 σ H1 _ I1 q1) λvl s2 ⟨l,H2,I2,pl,q2⟩=>thn (hu pins s2 σ H2 _ I2 q2) λvu s3 ⟨u,H3,I3,pu,q3⟩=>?_)
 rw [lE]
 refine wpAny_pure ?_
 have I4:Inv X pins σ H3 { s3 with heap:=s3.heap.push { cls:=.type "slice",data:=.fields #[vl,vu,.none] } }:=I3.kept (t':=s3.toks) λb ob q=>ai _ q
 obtain ⟨T,id,hT,ht,hg⟩:=hr pins { s3 with heap:=s3.heap.push { cls:=.type "slice",data:=.fields #[vl,vu,.none] } } σ H3 x v vl vu l u s3.heap.objs.size Q I4 r1 (iT ..) pl pu q3
 show aC (aH X.prog X.w) X.A (iq e (.Slice lo hi none p2) v (.ref s3.heap.objs.size)) (EP X pins σ Q) X.xe { s3 with heap:=s3.heap.push { cls:=.type "slice",data:=.fields #[vl,vu,.none] } }
 exact sS (ops:=[.ref s3.heap.objs.size,v]) ht hT hg (by with_unfolding_all rfl)
noncomputable def uJ (xs:List V) (lo hi:Option Int):List V:=(xs.drop (HT.sIx xs.length 0 lo)).take (HT.sIx xs.length xs.length hi-HT.sIx xs.length 0 lo)
theorem Qb (xs:List V) (lo hi:Option Int):(uJ xs lo hi).length<=xs.length:=by
 unfold uJ
 rw [aF,eB]
 omega
end
end L2
namespace L2
noncomputable def ixN (n:Nat) (i:Int):Option Nat:=if 0<=i then (if i<n then some i.toNat else none) else if -(n:Int)<=i then some (i+n).toNat else none
noncomputable def atI {α:Type}(xs:List α) (i:Int):Option α:=(ixN xs.length i).bind λj=>xs[j]?
theorem Zm {n:Nat}{i:Int}{j:Nat}(h:ixN n i=some j):seqIndex? i n=some j/\j<n /\ -(n:Int)<=i/\i<n:=by
 unfold ixN at h
 by_cases h0:0<=i
 ·rw [if_pos h0] at h
  by_cases h1:i<n
  ·rw [if_pos h1] at h
   have e:i.toNat=j:=aM h
   exact ⟨by rw [mT h0 h1,e],∅,∅,h1⟩
  ·rw [if_neg h1] at h;cases h
 ·rw [if_neg h0] at h
  by_cases h1 : -(n:Int)<=i
  ·rw [if_pos h1] at h
   have e:(i+n).toNat=j:=aM h
   exact ⟨by rw [m8 ∅ h1,e],∅,h1,∅⟩
  ·rw [if_neg h1] at h;cases h
theorem JP {α:Type}{xs:List α}{i:Int}{v:α}(h:atI xs i=some v):∃j,seqIndex? i xs.length=some j/\xs[j]? = some v/\j<xs.length /\ -(xs.length:Int)<=i/\i<xs.length:=by
 unfold atI at h
 cases e:ixN xs.length i with
 | none=>rw [e] at h;cases h
 | some j =>
  rw [e] at h
  obtain ⟨h1,h2,h3,h4⟩:=Zm e
  exact ⟨j,h1,h,h2,h3,h4⟩
theorem zB {α:Type}{xs:List α}{j:Nat}{v:α}(h:xs[j]? = some v):atI xs (j:Int)=some v:=by
 have hj:j<xs.length:=(List.getElem?_eq_some_iff.mp h).1
 have e:ixN xs.length (j:Int)=some j:=by
  unfold ixN
  rw [if_pos ∅,if_pos ∅];simp
 unfold atI;rw [e];exact h
theorem Qn {α:Type}(xs:List α) (v:α):atI (xs++[v]) (-1)=some v:=by
 have hl:(xs++[v]).length=xs.length+1:=by simp
 have e:ixN (xs++[v]).length (-1)=some xs.length:=by
  unfold ixN
  rw [hl,if_neg ⋯,if_pos ∅]
  congr 1
  omega
 unfold atI
 rw [e]
 show (xs++[v])[xs.length]? = some v
 simp
noncomputable def Uv (b:Expr):Prop:=∀o i,mU b false o i=operate [o,i] (lq o i)
noncomputable def IxR (X:Cx) (r:R2):Prop :=
 ∀(value slice:Expr) (pins:List (Addr×Obj)) (s:Shared) (σ:St) (H:Hp) (x y:V) (v u:ah) (Q:VK),Inv X pins σ H s->jx x v->jx y u->r x y H Q ->
  mU slice false v u=operate [v,u] (lq v u)->aC (aH X.prog X.w) X.A (iq value slice v u) (EP X pins σ Q) X.xe s
noncomputable def MtR (X:Cx) (id:String) (r:V->List V->Hp->VK->Prop):Prop :=
 ∀(pins:List (Addr×Obj)) (s:Shared) (σ:St) (H:Hp) (x:V) (xs:List V) (v:ah) (us:List ah) (Q:VK),Inv X pins σ H s->jx x v->jB xs us->r x xs H Q ->
  aC (aH X.prog X.w) X.A (call (.builtin id) (v::us)) (EP X pins σ Q) X.xe s
section
variable {X:Cx}{a b:Expr}{ta tb:TE}{pos:Pos}
theorem jn {r:R2}(hr:IxR X r) (ha:PE X a ta) (hb:PE X b tb) (hs:Uv b):PE X (.Subscript a b pos) (tOp r ta tb):=by
 intro pins s σ H Q I h
 exact m7 (Wq ha hb I h λv u s2 x y H2 I2 rx ry q=>hr a b pins s2 σ H2 x y v u Q I2 rx ry q (hs _ _))
noncomputable def U8 (K:aj):R2:=λx y H Q=>∃p xs i v,x = .ref p/\y = .int i/\SqL K H p xs/\atI xs i=some v/\Q v H
noncomputable def Wm (K:aj):R2:=λx y H Q=>∃p xs i v,x = .ref p/\y = .int i/\SqT K H p xs/\atI xs i=some v/\Q v H
theorem VW:IxR X (U8 X.K):=by
 intro value slice pins s σ H x y v u Q I rx ry h hs
 obtain ⟨p,xs,i,z,rfl,rfl,hq,he,q⟩:=h
 cases rx
 obtain ⟨t,rfl⟩:=ry
 obtain ⟨its,r,pl,hz⟩:=I.list hq
 obtain ⟨j,h1,h2,h3,h4,h5⟩:=JP he
 obtain ⟨w,ew,rw'⟩:=r.get h2
 have hl:=r.length
 have hn:=wU
 have fin:EP X pins σ Q w s:=⟨z,H,I,rw',q⟩
 by_cases h0:0<=i
 ·have hj:i.toNat=j:=by
   rw [mT h0 h5] at h1
   exact aM h1
  exact item_listR pl.isList h0 ∅ (by rw [hj];simpa using ew) fin hs
 ·have hj:(i+(its.toArray.size:Int)).toNat=j:=by
   rw [m8 ∅ h4] at h1
   rw [ax,<- hl]
   exact aM h1
  exact m9 (x:=w) pl.isList.typeIs slot_list_getitem.lookup
   (ma (Q:=λr s'=>r=w/\EP X pins σ Q r s') pl.isList ∅ (by rw [ax] <;> omega) ∅ (by rw [hj];simpa using ew) ⟨rfl,fin⟩) hs
theorem WJ:IxR X (Wm X.K):=by
 intro value slice pins s σ H x y v u Q I rx ry h hs
 obtain ⟨p,xs,i,z,rfl,rfl,hq,he,q⟩:=h
 cases rx
 obtain ⟨t,rfl⟩:=ry
 obtain ⟨its,r,pl,hz⟩:=I.tuple hq
 obtain ⟨j,h1,h2,h3,h4,h5⟩:=JP he
 obtain ⟨w,ew,rw'⟩:=r.get h2
 have hl:=r.length
 have hn:=wU
 have fin:EP X pins σ Q w s:=⟨z,H,I,rw',q⟩
 exact m9 (x:=w) pl.typeIs slot_tuple_getitem.lookup
  (getItem_tuple (j:=j) (Q:=λr s'=>r=w/\EP X pins σ Q r s') pl ∅ ∅ (by rw [ax,<- hl];exact h1) (by simpa using ew) ⟨rfl,fin⟩) hs
theorem XZ (its:List ah) (n j:Nat) (u:ah):aZ (·.setIfInBounds j u) { cls:=.type "list",data:=.seq its.toArray n }={ cls:=.type "list",data:=.seq (its.set j u).toArray n }:=by
 simp [aZ]
theorem Inv.lst {pins:List (Addr×Obj)}{σ:St}{H:Hp}{s:Shared}{p:Addr}{xs:List V}(I:Inv X pins σ H s) (h:H p=some (.lst xs)) :
  ∃(its:List ah) (n:Nat),jB xs its/\s.heap.get? p=some { cls:=.type "list",data:=.seq its.toArray n }/\xs.length<=sizeLine:=by
 obtain ⟨z,its,n,r,e⟩:=I.hok p _ h
 exact ⟨its,n,r,e,z⟩
theorem Inv.lstUpd {pins:List (Addr×Obj)}{σ:St}{H:Hp}{s:Shared}{p:Addr}{xs ys:List V}{its its':List ah}{n n':Nat}{f:Obj->Obj}(I:Inv X pins σ H s) (h:H p=some (.lst xs))
  (ho:s.heap.get? p=some { cls:=.type "list",data:=.seq its.toArray n }) (hf:f { cls:=.type "list",data:=.seq its.toArray n }={ cls:=.type "list",data:=.seq its'.toArray n' }) (r:jB ys its') (hz:ys.length<=sizeLine) (t:Nat) :
  Inv X pins σ (upd H p (.lst ys)) { s with heap:=s.heap.update p f,toks:=t }:=by
 have e:(s.heap.update p f).get? p=some { cls:=.type "list",data:=.seq its'.toArray n' }:=by
  rw [cW f ho (by rw [hf] <;> rfl),hf]
 refine I.write (x:=p) (e:=p) (by rw [h];trivial) (.inl rfl) (λb u hb q=>(bB _ _ (cA hb)).trans q) ⟨_,e⟩ ?_
 exact ⟨hz,its',n',r,e⟩
noncomputable def Gq:V->V->V->Hp->(Hp->Prop)->Prop:=λo i v H Q=>∃p xs k j,o = .ref p/\i = .int k/\H p=some (.lst xs)/\ixN xs.length k=some j/\Q (upd H p (.lst (xs.set j v)))
theorem yA:WM X Gq:=by
 intro pins s σ H o i v ov iv u Q I ro ri rv h
 obtain ⟨p,xs,k,j,rfl,rfl,hp,hj,q⟩:=h
 cases ro
 obtain ⟨t,rfl⟩:=ri
 obtain ⟨its,n,r,ho,hz⟩:=I.lst hp
 obtain ⟨h1,h2,h3,h4⟩:=Zm hj
 have hl:=r.length
 have hn:=wU
 have I':Inv X pins σ (upd H p (.lst (xs.set j v))) { s with heap:=s.heap.update p (aZ (·.setIfInBounds j u)) } :=
  I.lstUpd hp ho (XZ its n j u) (r.set rv j) (by rw [iD];exact hz) s.toks
 by_cases h0:0<=k
 ·have hk:k.toNat=j:=by
   rw [mT h0 h4] at h1
   exact aM h1
  exact PySem.W.ki_setAt ho h0 ∅ (by rw [ax,<- hl];exact h4) (by rw [hk];exact ⟨_,I',q⟩)
 ·have hk:(k+(its.toArray.size:Int)).toNat=j:=by
   rw [m8 ∅ h3] at h1
   rw [ax,<- hl]
   exact aM h1
  exact PySem.W.ki_setBack ho ∅ (by rw [ax,<- hl];exact h3) ∅ (by rw [hk];exact ⟨_,I',q⟩)
theorem JF (lo hi:Option Int) (n:Nat):(fL lo hi none n).1=((HT.sIx n 0 lo:Nat):Int)/\(fL lo hi none n).2.1=((HT.sIx n n hi:Nat):Int)/\(fL lo hi none n).2.2=1:=by
 refine ⟨?_,?_,rfl⟩
 ·cases lo with
  | none=>simp [fL,HT.sIx]
  | some i =>
   simp only [fL,HT.sIx,pq,show (1:Int) > 0 by decide,if_true]
   by_cases h:i<0
   ·simp only [h,if_true] <;> omega
   ·simp only [h,if_false] <;> omega
 ·cases hi with
  | none=>simp [fL,HT.sIx]
  | some i =>
   simp only [fL,HT.sIx,pq,show (1:Int) > 0 by decide,if_true]
   by_cases h:i<0
   ·simp only [h,if_true] <;> omega
   ·simp only [h,if_false] <;> omega
theorem gg (its:List ah) (lo hi:Option Int):slicePick its.toArray lo hi none=((its.drop (HT.sIx its.length 0 lo)).take (HT.sIx its.length its.length hi-HT.sIx its.length 0 lo)).toArray:=by
 obtain ⟨h1,h2,h3⟩:=JF lo hi its.toArray.size
 unfold slicePick
 rw [h1,h2,h3]
 simp only [sliceRange_one,pick_run,ax] <;> rfl
noncomputable def rSlL (K:aj):V->Option Int->Option Int->Hp->VK->Prop:=λx lo hi H Q=>∃a xs,x = .ref a/\SqL K H a xs/\∀p,H p=none->Q (.ref p) (upd H p (.lst (uJ xs lo hi)))
theorem Ug:SlR X (rSlL X.K):=by
 intro pins s σ H x v vl vu lo hi sl Q I rx hs pl pu h
 obtain ⟨a,xs,rfl,hx,q⟩:=h
 cases rx
 obtain ⟨its,r,ht,hz⟩:=I.list hx
 have hlen:=r.length
 refine ⟨"list",_,slot_list_getitem.lookup,ht.isList.typeIs,?_⟩
 refine lF ht.isList hs pl pu .none (by simp) ?_ (by rw [ax] <;> omega)
 rw [gg,<- hlen]
 refine ⟨.ref s.heap.objs.size,_,I.laid (t':=s.toks) (o:=.lst (uJ xs lo hi)) (λb ob q=>ai _ q) (ar _) ?_,rfl,q _ (I.hok.fresh (ar _))⟩
 exact ⟨aI (Qb xs lo hi) hz,_,0,(r.drop (HT.sIx xs.length 0 lo)).take (HT.sIx xs.length xs.length hi-HT.sIx xs.length 0 lo),aA _ rfl⟩
noncomputable def vQ:V->Bool
 | .non=>true
 | .bl _=>true
 | .int _=>true
 | .str _=>true
 | _=>false
noncomputable def eqV:V->V->Bool
 | .non,.non=>true
 | .bl a,.bl b=>a == b
 | .bl a,.int b=>(if a then 1 else 0) == b
 | .int a,.bl b=>a == (if b then 1 else 0)
 | .int a,.int b=>a == b
 | .str a,.str b=>a == b
 | _,_=>false
theorem Wl {A:br}{s:Shared}{y x:V}{u v:ah}(ry:jx y u) (rx:jx x v) (fy:vQ y=true) (fx:vQ x=true):SeqAt.EqAt A s u v (eqV y x):=by
 cases y with
 | non =>
  cases ry
  cases x with
  | non=>cases rx;exact SeqAt.EqAt.same _
  | bl b=>cases rx;exact SeqAt.EqAt.none_bool b
  | int b=>obtain ⟨t,rfl⟩:=rx;exact SeqAt.EqAt.none_int b t
  | str b=>obtain ⟨t,rfl⟩:=rx;exact SeqAt.EqAt.none_str b t
  | _=>exact absurd (show false=true from fx) au
 | bl a =>
  cases ry
  cases x with
  | non=>cases rx;exact SeqAt.EqAt.bool_none a
  | bl b=>cases rx;exact SeqAt.EqAt.bool_bool a b
  | int b=>obtain ⟨t,rfl⟩:=rx;exact SeqAt.EqAt.bool_int a b t
  | str b=>obtain ⟨t,rfl⟩:=rx;exact SeqAt.EqAt.bool_str a b t
  | _=>exact absurd (show false=true from fx) au
 | int a =>
  obtain ⟨t',rfl⟩:=ry
  cases x with
  | non=>cases rx;exact SeqAt.EqAt.int_none a t'
  | bl b=>cases rx;exact SeqAt.EqAt.int_bool a t' b
  | int b=>obtain ⟨t,rfl⟩:=rx;exact SeqAt.EqAt.int_int a t' b t
  | str b=>obtain ⟨t,rfl⟩:=rx;exact nX a t' b t
  | _=>exact absurd (show false=true from fx) au
 | str a =>
  obtain ⟨t',rfl⟩:=ry
  cases x with
  | non=>cases rx;exact SeqAt.EqAt.str_none a t'
  | bl b=>cases rx;exact SeqAt.EqAt.str_bool a t' b
  | int b=>obtain ⟨t,rfl⟩:=rx;exact nZ a t' b t
  | str b=>obtain ⟨t,rfl⟩:=rx;exact SeqAt.EqAt.str_str a t' b t
  | _=>exact absurd (show false=true from fx) au
 | _=>exact absurd (show false=true from fy) au
noncomputable def eqU (x:V) (u:ah):Bool:=match u with
 | .none=>eqV .non x
 | .bool b=>eqV (.bl b) x
 | .int i _=>eqV (.int i) x
 | .str z _=>eqV (.str z) x
 | _=>false
theorem Vi {x y:V}{u:ah}(r:jx y u) (f:vQ y=true):eqU x u=eqV y x:=by
 cases y with
 | non=>cases r;rfl
 | bl b=>cases r;rfl
 | int i=>obtain ⟨t,rfl⟩:=r;rfl
 | str z=>obtain ⟨t,rfl⟩:=r;rfl
 | _=>exact absurd (show false=true from f) au
theorem uf {x:V}:∀{xs:List V}{us:List ah},jB xs us->xs.all vQ=true->us.any (eqU x)=xs.any λy=>eqV y x
 | _,_,.nil,_=>rfl
 | y::xs,u::us,.cons r t,f=>by
  rw [nN,bh] at f
  rw [fF,fF,Vi r f.1,uf t f.2]
theorem yG {A:br}{s:Shared}{x:V}{v:ah}(rx:jx x v) (fx:vQ x=true):∀{xs:List V}{us:List ah},jB xs us->xs.all vQ=true->∀u∈us,SeqAt.EqAt A s u v (eqU x u)
 | _,_,.nil,_=>λu hu=>by cases hu
 | y::xs,u::us,.cons r t,f=>λu' hu=>by
  rw [nN,bh] at f
  rcases List.mem_cons.mp hu with rfl | hu
  ·rw [Vi r f.1];exact Wl r rx f.1 fx
  ·exact yG rx fx t f.2 u' hu
noncomputable def inV (x:V) (xs:List V):Bool:=xs.any λy=>eqV y x
noncomputable def rIn (K:aj) (neg:Bool):R2:=λx y H Q=>∃p xs,y = .ref p/\(SqL K H p xs\/SqT K H p xs)/\vQ x=true/\xs.all vQ=true/\Q (.bl (if neg then !inV x xs else inV x xs)) H
theorem ZG:OpR X (cD .In) (rIn X.K false):=by
 intro pins s σ H x y v u Q I rx ry h
 obtain ⟨p,xs,rfl,hq,fx,fs,q⟩:=h
 cases ry
 rcases hq with hq | hq
 ·obtain ⟨its,r,pl,hz⟩:=I.list hq
  refine SeqAt.in_listAt (eqU x) pl.isList (λw hw=>yG rx fx r fs w (by simpa using hw)) ⟨.bl _,H,I,rfl,?_⟩
  rw [show its.toArray.any (eqU x)=its.any (eqU x) by simp,uf r fs]
  exact q
 ·obtain ⟨its,r,pl,hz⟩:=I.tuple hq
  refine SeqAt.in_tupleAt (eqU x) pl (λw hw=>yG rx fx r fs w (by simpa using hw)) ⟨.bl _,H,I,rfl,?_⟩
  rw [show its.toArray.any (eqU x)=its.any (eqU x) by simp,uf r fs]
  exact q
theorem JG:OpR X (cD .NotIn) (rIn X.K true):=by
 intro pins s σ H x y v u Q I rx ry h
 obtain ⟨p,xs,rfl,hq,fx,fs,q⟩:=h
 cases ry
 rcases hq with hq | hq
 ·obtain ⟨its,r,pl,hz⟩:=I.list hq
  refine SeqAt.notIn_listAt (eqU x) pl.isList (λw hw=>yG rx fx r fs w (by simpa using hw)) ⟨.bl _,H,I,rfl,?_⟩
  rw [show its.toArray.any (eqU x)=its.any (eqU x) by simp,uf r fs]
  exact q
 ·obtain ⟨its,r,pl,hz⟩:=I.tuple hq
  refine SeqAt.notIn_tupleAt (eqU x) pl (λw hw=>yG rx fx r fs w (by simpa using hw)) ⟨.bl _,H,I,rfl,?_⟩
  rw [show its.toArray.any (eqU x)=its.any (eqU x) by simp,uf r fs]
  exact q
theorem JB:qE X (.builtin "len") (λxs H Q=>∃p ys,xs=[.ref p]/\(SqL X.K H p ys\/SqT X.K H p ys)/\Q (.int ys.length) H):=by
 intro pins s σ H xs us Q I r h
 obtain ⟨p,ys,rfl,hq,q⟩:=h
 obtain ⟨u,rfl,rx⟩:=xT r
 cases rx
 have hn:=wU
 rcases hq with hq | hq
 ·obtain ⟨its,r',pl,hz⟩:=I.list hq
  have hlen:=r'.length
  exact Calls.call_len_list pl.isList (by simp only [ax] <;> omega) ⟨.int ys.length,H,I.tok _,⟨s.toks+1,by rw [ax,hlen]⟩,q⟩
 ·obtain ⟨its,r',pl,hz⟩:=I.tuple hq
  have hlen:=r'.length
  exact len_tuple pl (by simp only [ax] <;> omega) ⟨.int ys.length,H,I.tok _,⟨s.toks+1,by rw [ax,hlen]⟩,q⟩
theorem Jl:qE X (.type "list") (λxs H Q=>∃p ys,xs=[.ref p]/\(SqL X.K H p ys\/SqT X.K H p ys)/\∀l,H l=none->Q (.ref l) (upd H l (.lst ys))):=by
 intro pins s σ H xs us Q I r h
 obtain ⟨p,ys,rfl,hq,q⟩:=h
 obtain ⟨u,rfl,rx⟩:=xT r
 cases rx
 have fin:∀(its:List ah),jB ys its->ys.length<=sizeLine->∀(h':Heap) (c':Nat),(∀b o',s.heap.get? b=some o'->h'.get? b=some o') ->
   h'.get? s.heap.objs.size=some { cls:=.type "list",dict:=none,data:=.seq its.toArray c',slots:=#[] }->EP X pins σ Q (.ref s.heap.objs.size) { s with heap:=h' }:=λits r' hz h' c' kp e =>
  ⟨.ref s.heap.objs.size,_,I.laid (t':=s.toks) kp (ar _) (show qg X.prog X.w _ h' _ (.lst ys) from ⟨hz,its,c',r',e⟩),rfl,q _ (I.hok.fresh (ar _))⟩
 rcases hq with hq | hq
 ·obtain ⟨its,r',pl,hz⟩:=I.list hq
  have hlen:=r'.length
  obtain ⟨o,ho,hc,n,hd⟩:=pl.isList
  exact sf p (.inl rfl) ho hc hd (λh' c' kp e=>fin its r' hz h' c' kp e) (by simp only [ax] <;> omega)
 ·obtain ⟨its,r',pl,hz⟩:=I.tuple hq
  have hlen:=r'.length
  obtain ⟨o,ho,hc,n,hd⟩:=pl
  exact sf p (.inr rfl) ho hc hd (λh' c' kp e=>fin its r' hz h' c' kp e) (by simp only [ax] <;> omega)
theorem gf:qE X (.type "tuple") (λxs H Q=>∃p ys,xs=[.ref p]/\((SqL X.K H p ys/\∀l,H l=none->Q (.ref l) (upd H l (.tup ys)))\/(SqT X.K H p ys/\Q (.ref p) H))):=by
 intro pins s σ H xs us Q I r h
 obtain ⟨p,ys,rfl,h⟩:=h
 obtain ⟨u,rfl,rx⟩:=xT r
 cases rx
 rcases h with ⟨hq,q⟩ | ⟨hq,q⟩
 ·obtain ⟨its,r',pl,hz⟩:=I.list hq
  have hlen:=r'.length
  refine call_tuple_list pl.isList (λh' kp=>?_) (by simp only [ax] <;> omega)
  have I1:Inv X pins σ H { s with heap:=h' }:=I.kept (t':=s.toks) kp
  have I2:Inv X pins σ (upd H h'.objs.size (.tup ys)) { s with heap:=h'.push { cls:=.type "tuple",data:=.seq its.toArray } } :=
   I1.laid (t':=s.toks) (λb o e=>ai _ e) (ar _) (show qg X.prog X.w _ _ _ (.tup ys) from ⟨hz,its,r',IsTup.new _ _⟩)
  exact ⟨.ref h'.objs.size,_,I2,rfl,q _ (I1.hok.fresh (ar _))⟩
 ·obtain ⟨its,r',pl,hz⟩:=I.tuple hq
  exact call_tuple_same pl ⟨.ref p,H,I,rfl,q⟩
noncomputable def tyV (K:aj) (T:String) (x:V) (H:Hp):Prop:=match x with
 | .str _=>T = "str"
 | .int _=>T = "int"
 | .ref p=>(T = "list" /\ ∃xs,SqL K H p xs)\/(T = "tuple" /\ ∃o,K.lookup p=some o/\o.cls = .type "tuple" /\ o.dict=none) \/
   (T = "dict" /\ ((∃kvs,H p=some (.dK kvs))\/∃kvs,H p=some (.dT kvs)))\/(T = "set" /\ ∃S n,H p=some (.set S n))
 | _=>False
theorem Wy {pins:List (Addr×Obj)}{σ:St}{H:Hp}{s:Shared}{T:String}{x:V}{v:ah}(I:Inv X pins σ H s) (r:jx x v) (ty:tyV X.K T x H) :
  s.TypeIs v T/\∀a,v = .ref a->∃ob,s.heap.get? a=some ob/\ob.dict=none:=by
 cases x with
 | str z =>
  obtain ⟨t,rfl⟩:=r
  cases (show T = "str" from ty)
  exact ⟨typeIs_str s z t,λ_ e=>nomatch e⟩
 | int i =>
  obtain ⟨t,rfl⟩:=r
  cases (show T = "int" from ty)
  exact ⟨typeIs_int s i t,λ_ e=>nomatch e⟩
 | ref p =>
  cases r
  rcases ty with ⟨rfl,xs,hq⟩ | ⟨rfl,o,hk,hc,hd⟩ | ⟨rfl,hk⟩ | ⟨rfl,S,n,hk⟩
  ·obtain ⟨its,_,pl,_⟩:=I.list hq
   refine ⟨pl.isList.typeIs,λa e=>?_⟩
   cases e
   obtain ⟨o,n,e,c,hd,_⟩:=pl
   exact ⟨o,e,hd⟩
  ·refine ⟨⟨o,I.kIn p o hk,hc⟩,λa e=>?_⟩
   cases e
   exact ⟨o,I.kIn _ o hk,hd⟩
  ·have z:∃o,s.heap.get? p=some o/\o.ExactDict:=by
    rcases hk with ⟨kvs,hk⟩ | ⟨kvs,hk⟩
    ·obtain ⟨_,_,_,_,o,_,_,e,ex,_⟩:=I.hok p _ hk
     exact ⟨o,e,ex⟩
    ·obtain ⟨_,_,_,_,o,_,_,e,ex,_⟩:=I.hok p _ hk
     exact ⟨o,e,ex⟩
   obtain ⟨o,e,ex⟩:=z
   refine ⟨⟨o,e,ex.1⟩,λa e2=>?_⟩
   cases e2
   exact ⟨o,e,ex.2.1⟩
  ·obtain ⟨o,_,_,_,e,ex,_⟩:=I.hok p _ hk
   refine ⟨⟨o,e,ex.1⟩,λa e2=>?_⟩
   cases e2
   exact ⟨o,e,ex.2.1⟩
 | _=>exact bH ty
noncomputable def tBM (K:aj) (T:String) (r:V->List V->Hp->VK->Prop) (to:TE) (t:TA):TE:=λσ H Q=>to σ H λx H1=>tyV K T x H1/\t σ H1 λxs H2=>r x xs H2 Q
variable {o e:Expr}{es:List Expr}{to:TE}{t:TA}{name:Str}{apos cpos:Pos}{T id:String}{r:V->List V->Hp->VK->Prop}
theorem GA (pa:PlainAttrs T) (slot:Slot T name id) (hty:sH (.builtin id)=pure (.type "method_descriptor")) (hm:MtR X id r) (ho:PE X o to) (ha:PA X (e::es) t)
  (hbase:fE o name X.env (eval o X.env)=eval o X.env:=by rfl)
  (hfew:((cz cpos (aN (e::es) X.env)).all (λx=>!x.1) && (fS cpos (dI [] X.env)).all (λx=>x.1.isSome)
   && decide ((e::es).length+([]:List m6).length+(if ([]:List m6).isEmpty then 0 else 1)<30))=true:=by rfl)
  (hline:(apos.endLine == cpos.line)=true:=by rfl) (hs:aN (e::es) X.env=(false,eval e X.env)::aN es X.env:=by rfl) (hplain:(cz cpos (aN es X.env)).any (·.1)=false:=by rfl) :
  PE X (.Call (.Attribute o name apos) (e::es) [] cpos) (tBM X.K T r to t):=by
 intro pins s σ H Q I h
 refine wpAny_Call_method_late hbase hfew hline rfl (thn (ho pins s σ H _ I h) λv s1 ⟨x,H1,I1,r1,ty,q1⟩=>?_)
 obtain ⟨h1,h2⟩:=Wy I1 r1 ty
 refine ⟨T,id,pa,slot,hty,h1,h2,?_⟩
 have hA:=ha cpos pins s1 σ H1 _ I1 q1
 rw [hs] at hA ⊢
 refine md (by show (false || (cz cpos (aN es X.env)).any (·.1))=false;rw [hplain] <;> rfl) (iz ?_)
 exact thn hA λus s2 ⟨vs,H2,I2,r2,q2⟩=>hm pins s2 σ H2 x vs v us Q I2 r1 r2 q2
end
end L2
namespace L2
noncomputable def MtM (X:Cx) (id:String) (r:V->List V->Hp->VK->Prop):Prop :=
 ∀(pins:List (Addr×Obj)) (s:Shared) (σ:St) (H:Hp) (x:V) (xs:List V) (v:ah) (us:List ah) (Q:VK),Inv X pins σ H s->jx x v->jB xs us->r x xs H Q ->
  aC (aH X.prog X.w) X.A (call (.builtin id) (v::us)) (EP X pins σ Q) X.xe s
theorem jB.one:∀{x:V}{us:List ah},jB [x] us->∃u,us=[u]/\jx x u
 | _,_,.cons r .nil=>⟨_,rfl,r⟩
theorem jB.dropLast {xs:List V}{us:List ah}(h:jB xs us):jB xs.dropLast us.dropLast:=by
 induction h with
 | nil=>exact .nil
 | cons r t ih =>
  cases t with
  | nil=>exact .nil
  | cons q t'=>exact .cons r ih
theorem jB.reverse {xs:List V}{us:List ah}(h:jB xs us):jB xs.reverse us.reverse:=by
 induction h with
 | nil=>exact .nil
 | cons r t ih=>rw [lx,lx];exact jB.append ih (.cons r .nil)
section
variable {X:Cx}{pins:List (Addr×Obj)}{σ:St}{H:Hp}{s:Shared}{l b:Addr}{xs ys zs:List V}
theorem Inv.lset {its its':List ah}{n:Nat}{f:Array ah->Array ah}{t':Nat}(I:Inv X pins σ H s) (hH:H l=some (.lst xs))
  (e:s.heap.get? l=some { cls:=.type "list",data:=.seq its.toArray n }) (hf:f its.toArray=its'.toArray) (hv:jB ys its') (hz:ys.length<=sizeLine) :
  Inv X pins σ (upd H l (.lst ys)) { s with heap:=s.heap.update l (aZ f),toks:=t' }:=by
 have q:=PySem.IsL.update e f
 rw [hf] at q
 refine I.write (x:=l) (e:=l) (by rw [hH];exact trivial) (.inl rfl) (λb' u hb hu=>(bB s.heap (aZ f) (cA hb)).trans hu) ⟨_,q⟩ ?_
 exact ⟨hz,its',_,hv,q⟩
theorem Inv.lnew {its:List ah}{t':Nat}(I:Inv X pins σ H s) (hv:jB ys its) (hz:ys.length<=sizeLine) :
  Inv X pins σ (upd H s.heap.objs.size (.lst ys)) { s with heap:=s.heap.push { cls:=.type "list",data:=.seq its.toArray },toks:=t' } :=
 I.laid (λ_ _ q=>ai _ q) (ar _) ⟨hz,its,0,hv,aA _ rfl⟩
theorem Inv.fresh (I:Inv X pins σ H s):H s.heap.objs.size=none:=I.hok.fresh (ar _)
theorem Inv.lstM (I:Inv X pins σ H s) (hH:H l=some (.lst xs)):xs.length<=sizeLine/\∃(its:List ah) (n:Nat),jB xs its/\xs.length=its.length/\s.heap.get? l=some { cls:=.type "list",data:=.seq its.toArray n }:=by
 obtain ⟨z,its,n,r,e⟩:=I.hok l _ hH
 exact ⟨z,its,n,r,r.length,e⟩
theorem VS {n:Nat}(h:n<=sizeLine):fG n=false:=by
 unfold fG
 exact decide_eq_false ∅
end
section
variable {X:Cx}
noncomputable def U2:V->List V->Hp->VK->Prop:=λx vs H Q=>∃l xs y,x = .ref l/\vs=[y]/\H l=some (.lst xs)/\xs.length<sizeLine/\Q .non (upd H l (.lst (xs++[y])))
theorem qx:MtM X "list.append" U2:=by
 intro pins s σ H x vs v us Q I rx rv h
 obtain ⟨l,xs,y,rfl,rfl,hH,hz,q⟩:=h
 cases rx
 obtain ⟨u,rfl,ru⟩:=rv.one
 obtain ⟨z,its,n,r,hl,e⟩:=I.lstM hH
 refine oa F.slot_list_append ⟨_,e,rfl⟩ F.entry_list_append (F.args_list_append_2 _ _) (PySem.list_append l its.toArray n u (by rw [ax];omega)) ⟨e,?_⟩
 refine ⟨.non,_,I.lset (its':=its++[u]) hH e (by simp) (r.append (.cons ru .nil)) ?_,rfl,q⟩
 rw [aw,bj]
 omega
noncomputable def UM:V->List V->Hp->VK->Prop:=λx vs H Q=>∃l b xs zs,x = .ref l/\vs=[.ref b]/\H l=some (.lst xs)/\H b=some (.lst zs)/\xs.length+zs.length<=sizeLine/\Q .non (upd H l (.lst (xs++zs)))
theorem G4:MtM X "list.extend" UM:=by
 intro pins s σ H x vs v us Q I rx rv h
 obtain ⟨l,b,xs,zs,rfl,rfl,hH,hB,hz,q⟩:=h
 cases rx
 obtain ⟨u,rfl,ru⟩:=rv.one
 cases ru
 obtain ⟨z,its,n,r,hl,e⟩:=I.lstM hH
 obtain ⟨z2,its2,n2,r2,hl2,e2⟩:=I.lstM hB
 have hsz:its.toArray.size+its2.toArray.size<=sizeLine:=by rw [ax,ax];omega
 have hlong:¬(!its.toArray.isEmpty && fG (its.toArray.size+its2.toArray.size))=true:=by
  rw [VS hsz,Bool.and_false]
  exact au
 refine oa F.slot_list_extend ⟨_,e,rfl⟩ F.entry_list_extend (F.args_list_extend_2 _ _)
  (AutoSeq1.list_extend_list_list_0 l its.toArray n b its2.toArray n2 hlong (by rw [ax];omega) ∅) ⟨e,e2,?_⟩
 refine ⟨.non,_,I.lset (its':=its++its2) hH e (by simp) (r.append r2) ?_,rfl,q⟩
 rw [aw]
 omega
noncomputable def rCat:R2:=λx y H Q=>∃l b xs zs,x = .ref l/\y = .ref b/\H l=some (.lst xs)/\H b=some (.lst zs)/\xs.length+zs.length<=sizeLine/\∀p,H p=none->Q (.ref p) (upd H p (.lst (xs++zs)))
theorem Wd:OpR X (iu .Add) rCat:=by
 intro pins s σ H x y v u Q I rx ry h
 obtain ⟨l,b,xs,zs,rfl,rfl,hH,hB,hz,q⟩:=h
 cases rx
 cases ry
 obtain ⟨z,its,n,r,hl,e⟩:=I.lstM hH
 obtain ⟨z2,its2,n2,r2,hl2,e2⟩:=I.lstM hB
 refine PySem.P.add_list e e2 ?_ (by rw [ax,ax];omega)
 have ea:its.toArray++its2.toArray=(its++its2).toArray:=by simp
 rw [ea]
 exact ⟨.ref _,_,I.lnew (t':=s.toks) (r.append r2) (by rw [aw];omega),rfl,q _ I.fresh⟩
end
section
variable {prog:Program}{w:b8}{A:br}{E:ah->Shared->Prop}{s:Shared}
set_option maxRecDepth 100000 in
end
section
variable {X:Cx}
end
end L2
namespace Att
open PySem PySem.W PySem.Calls PyProof.Rows
theorem wq {P:rg}{h:Heap}:∀(ns:List Int) (vs:List ah),WellAll P h vs (ns.map WData.int)->dm vs ns:=by
 intro ns
 induction ns with
 | nil =>
  intro vs w
  rw [fU] at w
  cases w
  exact .nil
 | cons n ns ih =>
  intro vs w
  rw [aO] at w
  cases w with
  | cons a b =>
   cases a
   exact .cons _ _ (ih _ b)
theorem ZI {l:OpenLaw}{n:Nat}(hn:l.most=some n) {P:rg}{h:Heap}{args:List WData}{vals:List ah}
  (hpre:l.row.toRowW.claim.pre args=true) (hwl:WellAll P h vals args) :
  ∃a vs ns,vals=[aV a]/\args=[WData.list (ns.map WData.int)]/\h.get? a=some { cls:=.type "list",data:=.seq vs.toArray }/\dm vs ns/\ns.length<=n:=by
 have hsh:WShape.hasAll [] args [.list .int]=true:=(pre_splitW hpre).1
 have hc:l.pre.holds [] { args:=args }=true:=(pre_splitW hpre).2
 obtain ⟨d,r,rfl,h1,h2⟩:=hasAllW_cons hsh
 obtain rfl:=hasAllW_nil h2
 obtain ⟨xs,rfl,h3⟩:=hasW_list h1
 obtain ⟨ns,rfl⟩:=items_int h3
 have hlen:ns.length<=n:=by
  unfold OpenLaw.pre at hc
  have h4:(WTm.not (.lt (.lit (.int (n:Int))) (.len (.arg 0)))).holds [] { args:=[.list (ns.map .int)] }=true:=by
   have h4:=(holds_andW hc).1
   rw [hn] at h4
   exact h4
  have h5:=condW_of h4 (w_not (w_lt w_lit (w_len_list (w_arg rfl))))
  rw [aa] at h5
  refine Nat.le_of_not_lt λq=>?_
  have q':(n:Int)<((ns.length:Nat):Int):=∅
  first
   | (rw [decide_eq_true q'] at h5;exact absurd h5 ⋯)
   | (simp at h5;omega)
 cases hwl with
 | cons w1 w2 =>
  cases w2
  cases w1 with
  | list ho hall=>exact ⟨_,_,ns,rfl,rfl,ho,wq ns _ hall,hlen⟩
theorem Yb (l:OpenLaw) (args:List WData):l.row.toRowW.claim.post args (.bool true) args=true :=
 postW_of (r:=l.row.toRowW) (X:=(true == true))
  (show WShape.has [] (.bool true) .bool=true by first | rfl | decide | simp [WShape.has,WShape.arms,WShape.armsAll])
  (show (WTm.eq .res (.lit (.bool true))).value [] { args:=args,res:=some (.bool true),after:=args }=some (.bool (true == true)) from w_eq_bool (w_res rfl) w_lit) rfl
theorem attach_call {l:OpenLaw}{n:Nat}{q:Program}{loose:List Str}{XP:(Str->Option ah)->Heap->Prop}{YP:b8->Heap->Prop}{d:DefRec}
  (hn:l.most=some n) (hdf:d.params.defaults=[])
  (call:∀(w:b8) (s₀ s₁:Shared) (mg mb:Str->Option ah) (fa:Addr) (o:Obj) (pm cd doc:ah) (a:Addr) (vs:List ah) (ns:List Int),
   Ground q loose [] XP w s₀ mg mb s₁.heap->YP w s₁.heap ->
   s₁.heap.get? fa=some o->o.data = .func (docDef d.name d.params d.body d.scope pm cd doc)->s₁.heap.CodeRec cd d.name->mg d.name=some (.ref fa) ->
   s₁.heap.get? a=some { cls:=.type "list",data:=.seq vs.toArray }->dm vs ns->ns.length<=n->s₁.gens = #[] ->
   cO (aH l.prog w) nv (.call (.ref fa) ⟨[.ref a],[]⟩) (λr s'=>r = .ok (.ret (.bool true))/\OldK s₁.heap s'.heap/\s'.os=s₁.os/\ip s'.gens) s₁) :
  WalkO q loose XP YP l.row.toRowW d [] (λf vs=>PySem.call f vs):=by
 intro w s₀ s₁ mg mb G Y fa o pm cd doc dV kV ho hd hcd hD hmg hg args vals as hpre hlay hrd hwl hlo
 obtain rfl:dV = .none:=Dflts.none hD hdf
 obtain rfl:kV = .none:=Dflts.noKw hD
 obtain ⟨a,vs,ns,rfl,rfl,hobj,hints,hlen⟩:=ZI hn hpre hwl
 refine enter_call (dJ (call w s₀ s₁ mg mb fa o pm cd doc a vs ns G Y ho (fd_plain hd) hcd hmg hobj hints hlen hg) λr s' hq=>?_)
 obtain ⟨rfl,h2,h3,h4⟩:=hq
 exact ⟨.inl ⟨.bool true,.bool true,[],rfl,λ_=>rfl,.bool true,Yb l _,λ_=>⟨fV,λ_ hm=>(nomatch hm)⟩⟩,h2,h3,h4⟩
section
variable {prog:Program}{w:b8}{A:br}{E:ah->Shared->Prop}{s:Shared}{K:Frag}
noncomputable def ledger (h:Heap) (L d:Addr):List (Addr×Obj):=(aK h.objs.size).filterMap λa=>if a=L\/a=d then none else (h.get? a).map λo=>(a,o)
end
end Att
namespace L2
theorem uB:∀{vs:List ah}{ns:List Int},dm vs ns->jB (ns.map V.int) vs
 | _,_,.nil=>.nil
 | _,_,.cons n t h=>.cons ⟨t,rfl⟩ (uB h)
end L2
namespace L2
end L2
namespace L2
noncomputable def xb (s:Stmt) (j:Nat):Stmt:=match s with
 | .ClassDef _ _ _ body _ _ _ _ _ _ _=>body.getD j (.Pass ⟨0,0,0,0⟩)
 | _=>.Pass ⟨0,0,0,0⟩
noncomputable def jW (s:Stmt):Arguments:=match s with
 | .FunctionDef _ a _ _ _ _ _ _ _ _=>a
 | _=>{ posonlyargs:=[],args:=[],vararg:=none,kwonlyargs:=[],kw_defaults:=[],kwarg:=none,defaults:=[] }
noncomputable def jP (s:Stmt):List Stmt:=match s with
 | .FunctionDef _ _ b _ _ _ _ _ _ _=>b
 | _=>[]
noncomputable def j7 (s:Stmt):Scope:=match s with
 | .FunctionDef _ _ _ _ _ _ sc _ _ _=>sc
 | _=>{ kind:=.function,names:=[],isGenerator:=false,isCoroutine:=false }
noncomputable abbrev CX0:CXT:=λ_ _ _ _ _ _=>False
noncomputable abbrev E0:XK:=λ_ _ _=>False
theorem YT {X:Cx}:wS CX0 X E0:=λ_ _ _ _ _ _ _ h=>h.elim
structure Fun (K:aj) (x qual:Str) (st:Stmt) (f:Addr) (fd:FuncData):Prop where
 ex:∃(oc:ah) (od:Option Addr) (kV doc pm:ah) (an:Option Addr) (cdv ct:ah) (osl:Array (Option ah)),
  fd=bL x qual (jW st) (jP st) (j7 st) .none kV doc pm an cdv ct/\K.lookup f=some ⟨oc,od,.func fd,osl⟩/\cQ K cdv qual=true
 kp:c6 K (.ref f)=true
section
variable {P:Program}{w:b8}{K:aj}{mg:Str->Option ah}{base:Heap}
theorem Fun.ok {x qual:Str}{st:Stmt}{f:Addr}{fd:FuncData}{N ps:List Str}{k:Nat}{sp:Sp}(F:Fun K x qual st f fd) (S:FnScope N ps (j7 st)) (len:∀vs H Q E,sp vs H Q E->vs.length=ps.length)
  (hbody:∀(cdv:ah) (A:br) (outer:List Env) (s:Shared) (H:Hp) (vs:List V) (Q:VK) (E:XK),Room k (A.deeper (lC qual (j7 st) s.heap.objs.size f cdv))->sp vs H Q E ->
   ∃t,PSs (vx CX0 P w K mg base N qual (j7 st) f cdv A outer s H E).nox (jP st) t/\t { nx:=λ_ H'=>Q .non H',rt:=Q } (start N vs) H):FnOk P w K mg base CX0 (k+1) f fd ps sp:=by
 obtain ⟨oc,od,kV,doc,pm,an,cdv,ct,osl,rfl,lk,hcd⟩:=F.ex
 refine VB lk hcd S len λA outer s H vs Q E hr hsp=>?_
 obtain ⟨t,h,q⟩:=hbody cdv A outer s H vs Q E hr hsp
 exact ⟨t,h.nox,q⟩
theorem Fun.binds {x qual:Str}{st:Stmt}{f:Addr}{fd:FuncData}{ps:List Str}(F:Fun K x qual st f fd)
  (h:∀(kV doc pm:ah) (an:Option Addr) (cdv ct:ah) (us:List ah),us.length=ps.length->cP (bL x qual (jW st) (jP st) (j7 st) .none kV doc pm an cdv ct) ⟨us,[]⟩=pure (ps.zip us)):zZ K fd ps []:=by
 obtain ⟨oc,od,kV,doc,pm,an,cdv,ct,osl,rfl,lk,hcd⟩:=F.ex
 exact .all (h kV doc pm an cdv ct)
theorem vA {x qual:Str}{st:Stmt}{f:Addr}{oc:ah}{od an:Option Addr}{osl:Array (Option ah)}{kV doc pm cdv ct:ah}(l:K.lookup f=some ⟨oc,od,.func (bL x qual (jW st) (jP st) (j7 st) .none kV doc pm an cdv ct),osl⟩)
  (c:cQ K cdv qual=true) (k:c6 K (.ref f)=true):Fun K x qual st f (bL x qual (jW st) (jP st) (j7 st) .none kV doc pm an cdv ct):=⟨⟨oc,od,kV,doc,pm,an,cdv,ct,osl,rfl,l,c⟩,k⟩
end
theorem jQ {A:br}{k:Nat}(hr:Room k A):A.units+1<cLine:=bS (Nat.add_le_add_left (by decide:1<=64) _) hr.units
theorem ja {n:Nat}(h:n<=1000):n<sizeLine:=bS h ⋯
section
variable {X:Cx}
theorem pv (i:Nat) {x:Str}{pos:Pos}(hN:X.N[i]? = some x:=by rfl) (hv:Vis X.env.scope x:=by first | exact aW rfl | exact dz (aW rfl) | exact dz (dz rfl)) (hd:(x == ("__debug__" : Str))=false:=by decide)
  (hcd:(x == ("__classdict__" : Str))=false:=by decide):PE X (.Name x pos) (Xl i):=Wp hN hv hd hcd
end
theorem kI {A B:Prop}(h:B):if false=true then A else B:=by
 rw [if_neg au]
 exact h
theorem vj {A B:Prop}(h:A):if true=true then A else B:=by
 rw [if_pos rfl]
 exact h
noncomputable def jg (H H':Hp):Prop:=∀b o,H b=some o->H' b=some o
theorem jg.refl (H:Hp):jg H H:=λ_ _ h=>h
theorem jg.trans {H H1 H2:Hp}(a:jg H H1) (b:jg H1 H2):jg H H2:=λc o h=>b c o (a c o h)
theorem jg.free {H H':Hp}(e:jg H H') {l:Addr}(h:H' l=Option.none):H l=Option.none:=by
 cases q:H l with
 | none=>rfl
 | some o =>
  rw [e l o q] at h
  cases h
end L2
section
namespace L2
theorem Xv (env:Env) (f:Str×ez->List (Str×Addr)->Sem (ForInStep (List (Str×Addr))))
  (hf:∀n k r,f (n,k) r=if (k == aP)=true then (sI env n >>= λa=>pure (c7 ((n,a)::r))) else pure (c7 r)) :
  ∀(names:List (Str×ez)) (acc:List (Str×Addr)),(∀x∈names,x.2 = .free->∃c,env.cells.lookup x.1=some c) ->
  ∃cl,sU names acc f=pure cl/\∀x,cl.lookup x=if (x,aP)∈names then env.cells.lookup x else acc.lookup x:=by
 intro names
 induction names with
 | nil=>intro acc _;exact ⟨acc,rfl,λx=>by rw [if_neg (by simp)]⟩
 | cons y r ih =>
  intro acc h
  obtain ⟨n,k⟩:=y
  have hr:∀x∈r,x.2 = .free->∃c,env.cells.lookup x.1=some c:=λx hx=>h x (az _ hx)
  by_cases hk:k = .free
  ·subst hk
   obtain ⟨c,hc⟩:=h (n,.free) aG rfl
   obtain ⟨cl,e,p⟩:=ih ((n,c)::acc) hr
   refine ⟨cl,?_,λx=>?_⟩
   ·rw [iE,hf,if_pos (by rfl)]
    have e1:sI env n=pure c:=by unfold sI;rw [hc]
    rw [e1]
    exact e
   ·rw [p x]
    by_cases hx:x=n
    ·subst hx
     rw [if_pos (aG),bO,beq_self_eq_true]
     by_cases hm:(x,aP)∈r
     ·rw [if_pos hm]
     ·rw [if_neg hm];exact hc.symm
    ·have hb:(x == n)=false:=beq_eq_false_iff_ne.mpr hx
     rw [bO,hb]
     by_cases hm:(x,aP)∈r
     ·rw [if_pos hm,if_pos (az _ hm)]
     ·rw [if_neg hm,if_neg (by
       intro z
       rcases List.mem_cons.mp z with z | z
       ·exact hx (congrArg sV z)
       ·exact hm z)]
  ·obtain ⟨cl,e,p⟩:=ih acc hr
   have hb:(k == aP)=false:=by simpa using hk
   refine ⟨cl,?_,λx=>?_⟩
   ·rw [iE,hf,hb,if_neg au]
    exact e
   ·rw [p x]
    by_cases hm:(x,aP)∈r
    ·rw [if_pos hm,if_pos (az _ hm)]
    ·rw [if_neg hm,if_neg (by
      intro z
      rcases List.mem_cons.mp z with z | z
      ·exact hk (congrArg sW z).symm
      ·exact hm z)]
theorem yi {scope:Scope}{env:Env}(h:∀x∈scope.names,x.2 = .free->∃c,env.cells.lookup x.1=some c) :
  ∃cl,og scope env=pure cl/\∀x,cl.lookup x=if (x,aP)∈scope.names then env.cells.lookup x else none:=by
 have hh:=Xv env (λ(x:Str×ez) r=>match x with | (n,k)=>if (k == aP)=true then (sI env n >>= λa=>pure (c7 ((n,a)::r))) else pure (c7 r)) (λ_ _ _=>rfl) scope.names [] h
 obtain ⟨cl,e,p⟩:=hh
 refine ⟨cl,?_,λx=>by rw [p x];rfl⟩
 unfold og
 have e':sU scope.names ([]:List (Str×Addr)) (λ(x:Str×ez) r=>match x with | (n,k)=>if (k == aP)=true then (sI env n >>= λa=>pure (c7 ((n,a)::r))) else pure (c7 r))=(pure cl:Sem _):=e
 show (sU scope.names ([]:List (Str×Addr)) _ >>= λcs=>pure cs)=_
 first
  | (rw [e'];rfl)
  | (simp only [bind_pure];exact e')
structure CompSc (osc:Scope) (ON:List Str) (scope:Scope) (own:Nat) (N:List Str) (caps:List Nat):Prop where
 kind:scope.kind = .function
 nocell:∀y∈scope.names,y.2≠.cell
 loc:∀y∈scope.names,y.2 = .local->scope.names.lookup y.1=some .local
 fre:∀y∈scope.names,y.2 = .free->scope.names.lookup y.1=some .free/\(osc.names.lookup y.1=some .cell\/osc.names.lookup y.1=some .free)
 len:N.length=own+caps.length
 cap:∀p∈(N.drop own).zip caps,ON[p.2]? = some p.1/\(p.1,aP)∈scope.names
noncomputable def zc (own:Nat) (caps:List Nat) (σ:St):St:=bX own none++caps.map λj=>(σ[j]?).getD none
noncomputable def Cx.block (X:Cx) (scope:Scope) (cl:List (Str×Addr)) (C:Addr) (N:List Str) (s:Shared) (H:Hp) (ex:List Addr):Cx :=
 { X with N:=N,s₀:=s,H₀:=H,env:=mV scope cl C X.env,outer:=X.stack,ex:=ex,fn:=λx=>decide (scope.names.lookup x=some .local),pn:=[],xe:=λ_ _=>False }
theorem xp {env:Env}:∀{names:List (Str×ez)}{x:Str}{k:ez},
  (names.map λ(n,k)=>if (k == aP && env.scope.kind == .function && env.kindOf n == some .cell) then (n,bC) else (n,k)).lookup x=some k ->
  ∃k',names.lookup x=some k'/\(k'=k\/(k' = .free/\k = .cell))
 | [],_,_,h=>by simp at h
 | (n,k0)::r,x,k,h=>by
  have ih:=@xp env r x k
  have h':eK x ((if (k0 == aP && env.scope.kind == .function && env.kindOf n == some .cell)=true then (n,bC) else (n,k0))::r.map λ(n,k)=>if (k == aP && env.scope.kind == .function && env.kindOf n == some .cell) then (n,bC) else (n,k))=some k:=h
  cases hx:x == n with
  | true =>
   by_cases hc:(k0 == aP && env.scope.kind == .function && env.kindOf n == some .cell)=true
   ·rw [if_pos hc,bO,hx] at h'
    cases h'
    refine ⟨k0,by rw [bO,hx],.inr ⟨?_,rfl⟩⟩
    rw [bh,bh] at hc
    exact sy hc.1.1
   ·rw [if_neg hc,bO,hx] at h'
    cases h'
    exact ⟨k0,by rw [bO,hx],.inl rfl⟩
  | false =>
   have h2:eK x (r.map λ(n,k)=>if (k == aP && env.scope.kind == .function && env.kindOf n == some .cell) then (n,bC) else (n,k))=some k:=by
    by_cases hc:(k0 == aP && env.scope.kind == .function && env.kindOf n == some .cell)=true
    ·rw [if_pos hc,bO,hx] at h';exact h'
    ·rw [if_neg hc,bO,hx] at h';exact h'
   obtain ⟨k',e,d⟩:=ih h2
   exact ⟨k',by rw [bO,hx];exact e,d⟩
noncomputable def wN (X:Cx) (ifs:List Expr) (t:TT):Prop :=
 ∀(pins:List (Addr×Obj)) (s:Shared) (σ:St) (H:Hp) (Q:Bool->Hp->Prop),Inv X pins σ H s->t σ H Q ->
  aC (aH X.prog X.w) X.A (sU ifs true λc r=>if r=true then do let ok <- isTrue c X.env (eval c X.env);pure (c7 ok) else pure (c7 r)) (TP X pins σ Q) X.xe s
noncomputable def GR:TT:=λ_ H Q=>Q true H
theorem jq {X:Cx}:wN X [] GR:=λ_ _ _ H _ I h=>wpAny_tests_nil ⟨H,I,h⟩
theorem yJ {X:Cx}{c:Expr}{t:TT}(h:PT X c t):wN X [c] t:=λpins s σ H Q I hw=>wpAny_tests_one (h pins s σ H Q I hw)
section
variable {prog:Program}{w:b8}{A:br}{R:lY->Shared->Prop}{s:Shared}
theorem wb {elt target iter:Expr}{ifs:List Expr}{scope:Scope}{pos:Pos}{it acc:ah}{env:Env}(I:Nat->Shared->Prop)
  (turn:∀n s,I n s->aC (aH prog w) A (fQ it) (λr s₁=>match r with
   | none=>R (.ok .next) s₁
   | some v=>aC (aH prog w) A (dh target it v) (λ_ s₂=>aC (aH prog w) A (fB target env v) (λ_ s₃ =>
     aC (aH prog w) A (sU ifs true λc r=>if r=true then do let ok <- isTrue c env (eval c env);pure (c7 ok) else pure (c7 r)) (λok s₄ =>
      if ok=true then aC (aH prog w) A (eval elt env) (λx s₅ =>
       aC (aH prog w) A (call (.builtin "list.append") [acc,x]) (λ_ s₆=>∃m,m<n/\I m s₆) (λ_ _=>False) s₅) (λ_ _=>False) s₄
      else ∃m,m<n/\I m s₄) (λ_ _=>False) s₃) (λ_ _=>False) s₂) (λ_ _=>False) s₁) (λ_ _=>False) s)
  (n:Nat) (h:I n s) :
  cO (aH prog w) A (.compLoop (.ListComp elt [⟨target,iter,ifs,0⟩] scope pos) 0 it acc env) R s:=by
 refine oN rfl I (λn s hI=>?_) n h
 show aC _ A ((oO (.ListComp elt [⟨target,iter,ifs,0⟩] scope pos) 0 it acc env).onRaise (λx=>do iO x env;mx x)) _ _ s
 refine pN ?_
 rw [compTurn_list]
 refine af (cF (af (b9 (turn n s hI) (λr s₁ h₁=>?_) λ_ _ h'=>h'.elim)))
 cases r with
 | none=>exact wpAny_pure h₁
 | some v =>
  refine af (b9 h₁ (λ_ s₂ h₂=>?_) λ_ _ h'=>h'.elim)
  refine af (b9 h₂ (λ_ s₃ h₃=>af (b9 h₃ (λok s₄ h₄=>?_) λ_ _ h'=>h'.elim)) λ_ _ h'=>h'.elim)
  cases ok with
  | false=>exact wpAny_pure ⟨rfl,h₄⟩
  | true =>
   exact af (af (b9 h₄ (λx s₅ h₅=>af (b9 h₅ (λ_ s₆ h₆=>wpAny_pure (wpAny_pure ⟨rfl,h₆⟩)) λ_ _ h'=>h'.elim)) λ_ _ h'=>h'.elim))
end
section
variable {X:Cx}{pos:Pos}
noncomputable def VC (own:Nat) (caps:List Nat) (wi:TI) (g:TG) (ti:TT) (te:TE):TE:=λσ H Q=>wi σ H λJ H1=>∀acc,H1 acc=none ->
 ∃W:Nat->Nat->St->Hp->Prop,(∃m,W 0 m (zc own caps σ) (upd H1 acc (.lst [])))/\∀i m σ' H',W i m σ' H' ->
  (J.stop i H'/\Q (.ref acc) H') \/
  (J.go i H'/\∃NX:St->Hp->Prop,(∀σ2 H2,NX σ2 H2->∃m',m'<m/\W (i+1) m' σ2 H2) /\
   ∀x H2,J.yld i H' x H2->g x σ' H2 λσ3 H3=>ti σ3 H3 λok H4=>if ok=true then te σ3 H4 λv H5=>∃ys,H5 acc=some (.lst ys)/\ys.length<sizeLine/\NX σ3 (upd H5 acc (.lst (ys++[v]))) else NX σ3 H4)
theorem YI {osc:Scope}{ON N:List Str}{scope:Scope}{own:Nat}{caps:List Nat}{cl:List (Str×Addr)}{C:Addr}{pins:List (Addr×Obj)}{σ:St}{H:Hp}{s:Shared}{fp:List Addr}
  (S:CompSc osc ON scope own N caps) (hsc:X.env.scope=osc) (hcl:∀x,cl.lookup x=if (x,aP)∈scope.names then X.env.cells.lookup x else none)
  (I:Inv X pins σ H s) (hC:s.heap.objs.size<=C) (hf:∀b∈fp,yT X pins H b) (hfs:∀b∈fp,b<s.heap.objs.size):(X.block scope cl C N s H fp).Ok:=by
 have fromX:∀x c,cl.lookup x=some c->X.env.cells.lookup x=some c/\(x,aP)∈scope.names:=λx c e=>by
  rw [hcl x] at e
  by_cases hm:(x,aP)∈scope.names
  ·rw [if_pos hm] at e;exact ⟨e,hm⟩
  ·rw [if_neg hm] at e;cases e
 refine ⟨I.ok.mod,S.kind,I.ok.glob,I.ok.blt,hC,λx y c h1 h2=>I.ok.inj x y c (fromX x c h1).1 (fromX y c h2).1,λx hx=>?_,λx c h1 h2=>?_,I.ok.hd,I.ok.frames,.inl rfl,λb hb=>?_,I.bs,aI I.ok.bsz I.sz,λb o e hb=>?_,λb hb hb2=>?_,I.stack,I.stkFree⟩
 ·-- has
  have key:∀k,(k=bC\/k=aP)->(pZ scope X.env).names.lookup x=some k->∃c,cl.lookup x=some c:=λk hk e=>by
   obtain ⟨k',e',d⟩:=xp (env:=X.env) e
   have hmem:=cT e'
   have hfree:k' = .free:=by
    rcases d with d | d
    ·subst d
     rcases hk with z | z
     ·exact absurd z (S.nocell _ hmem)
     ·exact z
    ·exact d.1
   subst hfree
   obtain ⟨_,hk2⟩:=S.fre _ hmem rfl
   obtain ⟨c,hc⟩:=I.ok.has x (by unfold iU;rw [hsc];exact hk2)
   exact ⟨c,by rw [hcl x,if_pos hmem];exact hc⟩
  rcases hx with z | z
  ·exact key _ (.inl rfl) z
  ·exact key _ (.inr rfl) z
 ·-- cab
  have h1':scope.names.lookup x=some .local:=of_decide_eq_true h1
  have hm:=(fromX x c h2).2
  have:=(S.fre _ hm rfl).1
  rw [h1'] at this
  cases this
 ·refine ⟨aD (aJ (hfs b hb) hC),λx c e=>(hf b hb).2.2.2.2.1 x c (fromX x c e).1⟩
 ·rcases (hf b hb).2.2.2.1 with z | z
  ·exact I.ok.noex b o e z
  ·exact absurd (aJ (av e) (aI I.ok.bsz z)) (cc _)
 ·rcases List.mem_cons.mp (I.stkSub b hb2) with z | z
  ·exact (hf b hb).2.1 z
  ·exact (hf b hb).2.2.1 z
theorem uT {osc:Scope}{ON N:List Str}{scope:Scope}{own:Nat}{caps:List Nat}{cl:List (Str×Addr)}{C D:Addr}{pins:List (Addr×Obj)}{σ:St}{H:Hp}{s:Shared}{h1:Heap}{fp:List Addr}
  (S:CompSc osc ON scope own N caps) (hsc:X.env.scope=osc) (hN:X.N=ON) (hcl:∀x,cl.lookup x=if (x,aP)∈scope.names then X.env.cells.lookup x else none)
  (I:Inv X pins σ H s) (hf:∀b∈fp,yT X pins H b) (hfs:∀b∈fp,b<s.heap.objs.size) (hD:D=s.heap.objs.size) (hC:C=s.heap.objs.size+1)
  (k:∀b o,s.heap.get? b=some o->h1.get? b=some o) (eD:h1.get? D=some { cls:=.type "list",data:=.seq #[] }) (hn:h1.Ns C λ_=>none) (t':Nat) :
  Inv (X.block scope cl C N s H fp) [] (zc own caps σ) (upd H D (.lst [])) { s with heap:=h1,toks:=t' }:=by
 subst hD
 subst hC
 have hCs:s.heap.objs.size<=s.heap.objs.size+1:=dM _
 have ok:=YI (C:=s.heap.objs.size+1) S hsc hcl I hCs hf hfs
 have fromX:∀x c,cl.lookup x=some c->X.env.cells.lookup x=some c/\(x,aP)∈scope.names:=λx c e=>by
  rw [hcl x] at e
  by_cases hm:(x,aP)∈scope.names
  ·rw [if_pos hm] at e;exact ⟨e,hm⟩
  ·rw [if_neg hm] at e;cases e
 have fr:∀a,s.heap.objs.size<=a->H a=none:=λa ha=>I.hok.fresh ha
 have newD:qg X.prog X.w (upd H s.heap.objs.size (.lst [])) h1 s.heap.objs.size (.lst []):=⟨aQ _,[],0,.nil,eD⟩
 have cellK:∀x c,X.env.cells.lookup x=some c->∀v,s.heap.IsCell c v->h1.IsCell c v:=λx c _ v ⟨o,ho,hd⟩=>⟨o,k c o ho,hd⟩
 refine ⟨ok,rfl,I.bare,Un.laid k (ar _) (fr _ (ar _)),⟨_,hn,λi x v e1 e2 e3=>?_⟩,λx c e=>?_,?_,λx c e=>?_,λp hp=>absurd (show p∈([]:List (Addr×Obj)) from hp) (by simp),I.hok.laid k (ar _) newD,?_⟩
 ·-- the captured names
  have e1':N[i]? = some x:=e1
  have hi:own<=i:=by
   by_cases hi:own<=i
   ·exact hi
   ·unfold zc at e2
    rw [cx (by simp;omega),eA] at e2
    split at e2 <;> cases e2
  obtain ⟨j',rfl⟩:∃j',i=own+j':=⟨i-own,∅⟩
  have e2':(caps.map λj=>(σ[j]?).getD none)[j']? = some (some v):=by
   unfold zc at e2
   rw [cn (by simp)] at e2
   simpa using e2
  rw [aB] at e2'
  cases hj:caps[j']? with
  | none=>rw [hj] at e2';cases e2'
  | some j =>
   rw [hj] at e2'
   have e3':(σ[j]?).getD none=some v:=aM e2'
   have e4:σ[j]? = some (some v):=by
    cases q:σ[j]? with
    | none=>rw [q] at e3';cases e3'
    | some z=>rw [q] at e3';exact congrArg some e3'
   have hz:(x,j)∈(N.drop own).zip caps:=by
    refine ay (i:=j') ?_
    rw [lg]
    exact ⟨by rw [oh];exact e1',hj⟩
   obtain ⟨c1,c2⟩:=S.cap _ hz
   obtain ⟨_,hk⟩:=S.fre _ c2 rfl
   have hkX:X.env.kindOf x=some .cell\/X.env.kindOf x=some .free:=by unfold iU;rw [hsc];exact hk
   obtain ⟨m,hm,hl⟩:=I.loc
   obtain ⟨u,ru,l⟩:=hl j x v (by rw [hN];exact c1) e4 (by
    rcases hkX with z | z
    ·exact .inr (.inl z)
    ·exact .inr (.inr z))
   refine ⟨u,ru,?_⟩
   rcases l with ⟨l1,_⟩ | ⟨_,c,lc,lv⟩
   ·rcases hkX with z | z
    ·rw [z] at l1;cases l1
    ·rw [z] at l1;cases l1
   ·refine .inr ⟨?_,c,by show cl.lookup x=some c;rw [hcl x,if_pos c2];exact lc,cellK x c lc _ lv⟩
    rcases e3 with z | z
    ·obtain ⟨k',e',d⟩:=xp (env:=X.env) z
     have:=(S.fre _ c2 rfl).1
     rw [e'] at this
     cases this
     rcases d with d | d
     ·cases d
     ·cases d.2
    ·exact z
 ·obtain ⟨v,z⟩:=I.cell x c (fromX x c e).1
  exact ⟨v,cellK x c (fromX x c e).1 v z⟩
 ·show upd H s.heap.objs.size (.lst []) (s.heap.objs.size+1)=none
  rw [j5 (c5 (cX _))]
  exact fr _ hCs
 ·have e':=(fromX x c e).1
  obtain ⟨v,z⟩:=I.cell x c e'
  rw [j5 (aD z.lt)]
  exact I.freeC x c e'
 ·unfold zc
  show _=N.length
  rw [aw,bg,aa,S.len]
structure BlockAt (X:Cx) (pins:List (Addr×Obj)) (H:Hp) (C:Addr):Prop where
 free:H C=none
 loc:C≠X.env.locals
 new:X.s₀.heap.objs.size<=C
 cell:∀x c,X.env.cells.lookup x=some c->c≠C
 pin:∀p∈X.pn++pins,p.1≠C
theorem BlockAt.gone {pins:List (Addr×Obj)}{σ:St}{H:Hp}{C:Addr}{s:Shared}{h':Heap}(B:BlockAt X pins H C) (I:Inv X pins σ H s) (hs:eM C s.heap h'):Inv X pins σ H { s with heap:=h' } :=
 I.turned (t':=s.toks) (λb o hb e=>(hs.2 b hb).trans e) B.free B.loc (.inr B.new) B.cell B.pin
theorem QV {osc:Scope}{ON N:List Str}{scope:Scope}{own:Nat}{caps:List Nat}{cl:List (Str×Addr)}{tg elt iter:Expr}{ifs:List Expr}{g:TG}{ti:TT}{te:TE}{pins:List (Addr×Obj)}{σ:St}{H:Hp}{s:Shared}{fp:List Addr}{it:Addr}
  {tn:Nat->Heap->Prop} {J:It} {Q:VK} {RR:ah->Addr->lY->Shared->Prop} {E:ah->Shared->Prop}
  (hc:X.calm=true) (S:CompSc osc ON scope own N caps) (hsc:X.env.scope=osc) (hN:X.N=ON) (hcl:∀x,cl.lookup x=if (x,aP)∈scope.names then X.env.cells.lookup x else none)
  (hg:∀cl C s H ex,PG (X.block scope cl C N s H ex) tg g) (hif:∀cl C s H ex,wN (X.block scope cl C N s H ex) ifs ti) (he:∀cl C s H ex,PE (X.block scope cl C N s H ex) elt te)
  (I:Inv X pins σ H s) (T:Turn X.prog X.w X.K tg J fp it tn) (st:tn 0 s.heap) (hf:∀b∈fp,yT X pins H b)
  (hw:∀acc,H acc=none->∃W:Nat->Nat->St->Hp->Prop,(∃m,W 0 m (zc own caps σ) (upd H acc (.lst [])))/\∀i m σ' H',W i m σ' H' ->
   (J.stop i H'/\Q (.ref acc) H')\/(J.go i H'/\∃NX:St->Hp->Prop,(∀σ2 H2,NX σ2 H2->∃m',m'<m/\W (i+1) m' σ2 H2) /\
    ∀x H2,J.yld i H' x H2->g x σ' H2 λσ3 H3=>ti σ3 H3 λok H4=>if ok=true then te σ3 H4 λv H5=>∃ys,H5 acc=some (.lst ys)/\ys.length<sizeLine/\NX σ3 (upd H5 acc (.lst (ys++[v]))) else NX σ3 H4))
  (fin:∀(D C:Addr) (H':Hp) (s':Shared),Inv X pins σ H' s'->BlockAt X pins H' C->(∃m,s'.heap.Ns C m)->Q (.ref D) H'->RR (.ref D) C (.ok .next) s') :
  aC (aH X.prog X.w) X.A (nA []) (λacc s₃=>aC (aH X.prog X.w) X.A (fW scope X.env.globals cl [] X.env.qual none .none (some X.env)) (λcenv s₄ =>
   cO (aH X.prog X.w) X.A (.compStart (.ListComp elt [⟨tg,iter,ifs,0⟩] scope pos) 0 (.ref it) acc { cenv with scope:=pZ scope X.env }) (RR acc cenv.locals) s₄) E s₃) E s:=by
 have hfs:∀b∈fp,b<s.heap.objs.size:=λb hb=>by
  obtain ⟨o,e,_⟩:=T.obj _ _ st b hb
  exact av e
 refine c3 (mW S.nocell (by intro y hy;simp at hy) (λh₁ hns₁ hsb₁=>?_) S.kind)
 dsimp only at hns₁ hsb₁ ⊢
 generalize hH2:s.heap.push { cls:=.type "list",dict:=none,data:=.seq ([]:List ah).toArray }=H2 at hns₁ hsb₁ ⊢
 have hCsz:H2.objs.size=s.heap.objs.size+1:=by rw [<- hH2,bK]
 have old:∀b o,s.heap.get? b=some o->h₁.get? b=some o:=λb o e=>hsb₁.extBut b o (aD (by rw [hCsz];exact bE (av e))) (ai _ (hH2 ▸ ai _ e))
 have eD:h₁.get? s.heap.objs.size=some { cls:=.type "list",data:=.seq #[] }:=hsb₁.extBut _ _ (aD ∅) (ai _ (hH2 ▸ aA _ rfl))
 have hDn:H s.heap.objs.size=none:=I.hok.fresh (ar _)
 obtain ⟨W,⟨m0,w0⟩,turn⟩:=hw s.heap.objs.size hDn
 have hns:h₁.Ns H2.objs.size λ_=>none:=hns₁
 have I1:Inv (X.block scope cl H2.objs.size N s H fp) [] (zc own caps σ) (upd H s.heap.objs.size (.lst [])) { s with heap:=h₁,toks:=s.toks+([]:List (Str×ah)).length } :=
  uT S hsc hN hcl I hf hfs rfl hCsz old eD hns _
 have st1:tn 0 h₁:=T.keep 0 _ _ st λb _ o e=>old b o e
 have fpB:∀{H':Hp},(∀b∈fp,H' b=none)->∀b∈fp,yT (X.block scope cl H2.objs.size N s H fp) [] H' b:=λ{H'} hn b hb=>by
  have ok:=I1.ok
  exact ⟨hn b hb,(ok.exf b hb).1,ok.exfs b hb,.inl hb,(ok.exf b hb).2,λp hp=>absurd (show p∈([]:List (Addr×Obj)) from hp) (by simp)⟩
 have back:∀{σ':St} {H':Hp} {s':Shared},Inv (X.block scope cl H2.objs.size N s H fp) [] σ' H' s'->Q (.ref s.heap.objs.size) H'->RR (.ref s.heap.objs.size) H2.objs.size (.ok .next) s':=λ{σ' H' s'} J1 q=>by
  have J2:Inv X pins σ H' s':=I.call' (ch:=fp) J1.os J1.base J1.hok J1.bare λb hb=>⟨(hf b hb).2.2.2.1,(hf b hb).2.1,(hf b hb).2.2.2.2.1,(hf b hb).2.2.2.2.2⟩
  obtain ⟨m,hm,_⟩:=J1.loc
  refine fin _ _ H' s' J2 ⟨J1.free,c5 (aJ I.lt ∅),aI I.sz ∅,λx c e z=>?_,λp hp z=>?_⟩ ⟨m,hm⟩ q
  ·obtain ⟨v,y⟩:=I.cell x c e
   have h1:H2.objs.size<s.heap.objs.size:=z ▸ y.lt
   exact absurd h1 ∅
  ·have h1:H2.objs.size<s.heap.objs.size:=z ▸ av (I.pin p hp).1
   exact absurd h1 ∅
 have loop:∀s₃:Shared,s₃={ s with heap:=h₁,toks:=s.toks+([]:List (Str×ah)).length } ->
   cO (aH X.prog X.w) X.A (.compLoop (.ListComp elt [⟨tg,iter,ifs,0⟩] scope pos) 0 (.ref it) (.ref s.heap.objs.size) (mV scope cl H2.objs.size X.env)) (RR (.ref s.heap.objs.size) H2.objs.size) s₃:=by
  rintro s₃ rfl
  refine wb (λn s'=>∃i σ' H',Inv (X.block scope cl H2.objs.size N s H fp) [] σ' H' s'/\tn i s'.heap/\(∀b∈fp,H' b=none)/\W i n σ' H') ?_ m0
   ⟨0,_,_,I1,st1,λb hb=>by rw [j5 (aD (hfs b hb))];exact (hf b hb).1,w0⟩
  rintro n s3 ⟨i,σ3,H3,I3,st3,fr3,w3⟩
  rcases turn i n σ3 H3 w3 with ⟨stop,qn⟩ | ⟨go,NX,hNX,step⟩
  ·refine thn (T.done (X.block scope cl H2.objs.size N s H fp) rfl rfl rfl hc i [] s3 σ3 H3 _ I3 (fpB fr3) st3 stop) λr s4 ⟨hr,I4⟩=>?_
   subst hr
   exact back I4 qn
  ·refine thn (T.item (X.block scope cl H2.objs.size N s H fp) rfl rfl rfl hc i [] s3 σ3 H3 _ I3 (fpB fr3) st3 go) λr s4 ⟨u,hr,h4⟩=>?_
   subst hr
   refine thn h4 λ_ s5 ⟨x,H5,I5,r5,y5,st5,fr5⟩=>?_
   have I5':=I5.pinned (fpB fr5) (T.obj _ _ st5)
   refine thn (hg cl H2.objs.size s H fp _ s5 σ3 H5 x u _ I5' r5 (step x H5 y5)) λ_ s6 ⟨σ6,H6,I6,q6⟩=>?_
   refine thn (hif cl H2.objs.size s H fp _ s6 σ6 H6 _ I6 q6) λok s7 ⟨H7,I7,q7⟩=>?_
   have again:∀{s8:Shared} {σ8:St} {H8:Hp},Inv (X.block scope cl H2.objs.size N s H fp) ([]++xZ fp s5.heap) σ8 H8 s8->NX σ8 H8->∃m,m<n/\∃i σ' H',Inv (X.block scope cl H2.objs.size N s H fp) [] σ' H' s8/\tn i s8.heap/\(∀b∈fp,H' b=none)/\W i m σ' H':=λ{s8 σ8 H8} I8 n8=>by
    obtain ⟨m',hm,w8⟩:=hNX σ8 H8 n8
    refine ⟨m',hm,i+1,σ8,H8,I8.unpinned,T.keep _ _ _ st5 λb hb o e=>(I8.pin (b,o) (aE _ (aE _ (qv hb e)))).1,λb hb=>?_,w8⟩
    obtain ⟨o,e,d⟩:=T.obj _ _ st5 b hb
    exact (I8.pin (b,o) (aE _ (aE _ (qv hb e)))).2.1
   cases ok with
   | false =>
    rw [if_neg au] at q7 ⊢
    exact again I7 q7
   | true =>
    rw [if_pos rfl] at q7 ⊢
    refine thn (he cl H2.objs.size s H fp _ s7 σ6 H7 _ I7 q7) λv s8 ⟨y,H8,I8,r8,ys,e8,z8,q8⟩=>?_
    refine thn (qx _ s8 σ6 H8 (.ref s.heap.objs.size) [y] _ [v] (λ_ H9=>NX σ6 H9) I8 rfl (.cons r8 .nil) ⟨_,ys,y,rfl,rfl,e8,z8,q8⟩) λ_ s9 ⟨_,H9,I9,_,q9⟩=>?_
    exact again I9 q9
 exact fX (loop _ rfl) (T.self _ 0 _ _ _ st1 (loop _ rfl))
theorem XJ {osc:Scope}{ON N:List Str}{scope:Scope}{own:Nat}{caps:List Nat}{pins:List (Addr×Obj)}{σ:St}{H:Hp}{s:Shared}(S:CompSc osc ON scope own N caps) (hsc:X.env.scope=osc) (I:Inv X pins σ H s) :
  ∀x∈scope.names,x.2 = .free->∃c,X.env.cells.lookup x.1=some c:=λx hx hk=>I.ok.has x.1 (by unfold iU;rw [hsc];exact (S.fre x hx hk).2)
theorem jA {osc:Scope}{ON N:List Str}{scope:Scope}{own:Nat}{caps:List Nat}{tg elt iter:Expr}{ifs:List Expr}{wi:TI}{g:TG}{ti:TT}{te:TE}(S:CompSc osc ON scope own N caps)
  (hc:X.calm=true) (hsc:X.env.scope=osc) (hN:X.N=ON) (hi:PI X tg iter wi)
  (hg:∀cl C s H ex,PG (X.block scope cl C N s H ex) tg g) (hif:∀cl C s H ex,wN (X.block scope cl C N s H ex) ifs ti) (he:∀cl C s H ex,PE (X.block scope cl C N s H ex) elt te)
  (hs:∀x,cB iter X.env x=pure x:=by intro _;rfl):PE X (.ListComp elt [⟨tg,iter,ifs,0⟩] scope pos) (VC own caps wi g ti te):=by
 intro pins s σ H Q I h
 obtain ⟨cl,hclos,hcl⟩:=yi (XJ S hsc I)
 rw [si]
 refine dQ (use:=none) rfl hs hclos S.kind S.loc (thn (hi pins s σ H _ I h) λv s1 h1=>thn h1 λitv s2 h2=>?_)
 obtain ⟨it,fp,tn,J,H2,e,I2,T,st2,f2,hw⟩:=h2
 subst e
 refine QV (RR:=λacc C=>rM (aH X.prog X.w) X.A X.xe none (EP X pins σ Q) acc C) hc S hsc hN hcl hg hif he I2 T st2 f2 hw λD C H' s' J1 B ⟨m,hm⟩ q=>?_
 exact ⟨m,hm,λh' hs'=>⟨.ref D,H',B.gone J1 hs',rfl,q⟩⟩
theorem vh {osc:Scope}{ON N:List Str}{scope:Scope}{own:Nat}{caps:List Nat}{tg elt iter:Expr}{ifs:List Expr}{wi:TI}{g:TG}{ti:TT}{te:TE}{j:Nat}{y:Str}{py spos:Pos}(S:CompSc osc ON scope own N caps)
  (hnd:X.N.Nodup) (hj:X.N[j]? = some y) (hy:Loc X.env.scope y)
  (hc:X.calm=true) (hsc:X.env.scope=osc) (hN:X.N=ON) (hi:PI X tg iter wi)
  (hg:∀cl C s H ex,PG (X.block scope cl C N s H ex) tg g) (hif:∀cl C s H ex,wN (X.block scope cl C N s H ex) ifs ti) (he:∀cl C s H ex,PE (X.block scope cl C N s H ex) elt te)
  (hsw:ig (.ListComp elt [⟨tg,iter,ifs,0⟩] scope pos) (some (.Name y py)) spos.line X.env=pure true:=by rfl)
  (hf:X.fn y=true\/X.env.scope.names.lookup y=some .local:=by first | exact .inl rfl | exact .inr rfl | assumption)
  (hs:∀x,cB iter X.env x=pure x:=by intro _;rfl):PS X (.Assign [.Name y py] (.ListComp elt [⟨tg,iter,ifs,0⟩] scope pos) spos) (YN (VC own caps wi g ti te) (vo j)):=by
 intro pins s σ H D0 I h
 obtain ⟨cl,hclos,hcl⟩:=yi (XJ S hsc I)
 rw [mI _ _ _ _ hsw]
 refine af (cF (af ?_))
 show aC _ X.A (do let _ <- sj (.ListComp elt [⟨tg,iter,ifs,0⟩] scope pos) scope X.env _ (nA []) false (eval iter X.env) (some (fB (.Name y py) X.env))) _ _ s
 refine af (b9 (dQ (use:=some (fB (.Name y py) X.env)) (Q:=λ_ s'=>SP X pins D0 .next s') rfl hs hclos S.kind S.loc
  (thn (hi pins s σ H _ I h) λv s1 h1=>thn h1 λitv s2 h2=>?_)) (λ_ s' hq=>wpAny_pure (wpAny_pure hq)) λ_ _ e=>e)
 obtain ⟨it,fp,tn,J,H2,e,I2,T,st2,f2,hw⟩:=h2
 subst e
 refine QV (Q:=λv H'=>D0.nx (σ.set j (some v)) H') (RR:=λacc C=>rM (aH X.prog X.w) X.A X.xe (some (fB (.Name y py) X.env)) (λ_ s'=>SP X pins D0 .next s') acc C) hc S hsc hN hcl hg hif he I2 T st2 f2 hw λD C H' s' J1 B ⟨m,hm⟩ q=>?_
 show aC _ X.A (fB (.Name y py) X.env (.ref D)) _ _ s'
 refine lp (uI (v:=V.ref D) J1 hnd hj hy rfl (λs2 J2 ⟨a,hsame,ha⟩=>?_) hf)
 have hCa:C≠a:=by
  rcases ha with z | z
  ·rw [z];exact B.loc
  ·exact λz2=>B.cell y a z z2.symm
 exact ⟨m,hm.sameBut hsame hCa,λh' hs'=>⟨_,H',B.gone J2 hs',q⟩⟩
end
theorem jK {K:aj}{a acc:Addr}{xs:List V}{g:TG}{ti:TT}{te:TE}{R:Hp->Prop}{σ:St}{H:Hp}(Pv:Nat->St->Hp->Prop) (h0:Pv 0 σ H) (hl:∀i σ H,i<=xs.length->Pv i σ H->SqL K H a xs)
  (hs:∀i x σ H,xs[i]? = some x->Pv i σ H->g x σ H λσ3 H3=>ti σ3 H3 λok H4=>if ok=true then te σ3 H4 λv H5=>∃ys,H5 acc=some (.lst ys)/\ys.length<sizeLine/\Pv (i+1) σ3 (upd H5 acc (.lst (ys++[v]))) else Pv (i+1) σ3 H4)
  (hd:∀σ H,Pv xs.length σ H->R H) :
  ∃W:Nat->Nat->St->Hp->Prop,(∃m,W 0 m σ H)/\∀i m σ' H',W i m σ' H' ->
   ((Itl K a).stop i H'/\R H')\/((Itl K a).go i H'/\∃NX:St->Hp->Prop,(∀σ2 H2,NX σ2 H2->∃m',m'<m/\W (i+1) m' σ2 H2) /\
    ∀x H2,(Itl K a).yld i H' x H2->g x σ' H2 λσ3 H3=>ti σ3 H3 λok H4=>if ok=true then te σ3 H4 λv H5=>∃ys,H5 acc=some (.lst ys)/\ys.length<sizeLine/\NX σ3 (upd H5 acc (.lst (ys++[v]))) else NX σ3 H4):=by
 refine ⟨λi m σ H=>m=xs.length-i/\i<=xs.length/\Pv i σ H,⟨xs.length,by simp,aQ _,h0⟩,?_⟩
 rintro i m σ H ⟨rfl,hi,p⟩
 have q:=hl i σ H hi p
 by_cases hlt:i<xs.length
 ·refine .inr ⟨⟨xs,xs[i],q,by simp [hlt]⟩,Pv (i+1),λσ' H' p'=>⟨xs.length-(i+1),∅,rfl,hlt,p'⟩,λx H' y=>?_⟩
  obtain ⟨e,y⟩:=y
  subst e
  exact hs i x σ _ (y xs q) p
 ·have e:i=xs.length:=∅
  subst e
  exact .inl ⟨⟨xs,q,ar _⟩,hd σ H p⟩
theorem kE {K:aj}{a acc:Addr}{xs:List V}{g:TG}{ti:TT}{te:TE}{R:Hp->Prop}{σ:St}{H:Hp}(Pv:Nat->St->Hp->Prop) (h0:Pv 0 σ H) (hl:∀i σ H,i<=xs.length->Pv i σ H->SqT K H a xs)
  (hs:∀i x σ H,xs[i]? = some x->Pv i σ H->g x σ H λσ3 H3=>ti σ3 H3 λok H4=>if ok=true then te σ3 H4 λv H5=>∃ys,H5 acc=some (.lst ys)/\ys.length<sizeLine/\Pv (i+1) σ3 (upd H5 acc (.lst (ys++[v]))) else Pv (i+1) σ3 H4)
  (hd:∀σ H,Pv xs.length σ H->R H) :
  ∃W:Nat->Nat->St->Hp->Prop,(∃m,W 0 m σ H)/\∀i m σ' H',W i m σ' H' ->
   ((Itt K a).stop i H'/\R H')\/((Itt K a).go i H'/\∃NX:St->Hp->Prop,(∀σ2 H2,NX σ2 H2->∃m',m'<m/\W (i+1) m' σ2 H2) /\
    ∀x H2,(Itt K a).yld i H' x H2->g x σ' H2 λσ3 H3=>ti σ3 H3 λok H4=>if ok=true then te σ3 H4 λv H5=>∃ys,H5 acc=some (.lst ys)/\ys.length<sizeLine/\NX σ3 (upd H5 acc (.lst (ys++[v]))) else NX σ3 H4):=by
 refine ⟨λi m σ H=>m=xs.length-i/\i<=xs.length/\Pv i σ H,⟨xs.length,by simp,aQ _,h0⟩,?_⟩
 rintro i m σ H ⟨rfl,hi,p⟩
 have q:=hl i σ H hi p
 by_cases hlt:i<xs.length
 ·refine .inr ⟨⟨xs,xs[i],q,by simp [hlt]⟩,Pv (i+1),λσ' H' p'=>⟨xs.length-(i+1),∅,rfl,hlt,p'⟩,λx H' y=>?_⟩
  obtain ⟨e,y⟩:=y
  subst e
  exact hs i x σ _ (y xs q) p
 ·have e:i=xs.length:=∅
  subst e
  exact .inl ⟨⟨xs,q,ar _⟩,hd σ H p⟩
theorem qu {lo:Int}{n:Nat}{acc:Addr}{g:TG}{ti:TT}{te:TE}{R:Hp->Prop}{σ:St}{H:Hp}(Pv:Nat->St->Hp->Prop) (h0:Pv 0 σ H)
  (hs:∀i σ H,i<n->Pv i σ H->g (.int (lo+i)) σ H λσ3 H3=>ti σ3 H3 λok H4=>if ok=true then te σ3 H4 λv H5=>∃ys,H5 acc=some (.lst ys)/\ys.length<sizeLine/\Pv (i+1) σ3 (upd H5 acc (.lst (ys++[v]))) else Pv (i+1) σ3 H4)
  (hd:∀σ H,Pv n σ H->R H) :
  ∃W:Nat->Nat->St->Hp->Prop,(∃m,W 0 m σ H)/\∀i m σ' H',W i m σ' H' ->
   ((Itr lo n).stop i H'/\R H')\/((Itr lo n).go i H'/\∃NX:St->Hp->Prop,(∀σ2 H2,NX σ2 H2->∃m',m'<m/\W (i+1) m' σ2 H2) /\
    ∀x H2,(Itr lo n).yld i H' x H2->g x σ' H2 λσ3 H3=>ti σ3 H3 λok H4=>if ok=true then te σ3 H4 λv H5=>∃ys,H5 acc=some (.lst ys)/\ys.length<sizeLine/\NX σ3 (upd H5 acc (.lst (ys++[v]))) else NX σ3 H4):=by
 refine ⟨λi m σ H=>m=n-i/\i<=n/\Pv i σ H,⟨n,by simp,aQ _,h0⟩,?_⟩
 rintro i m σ H ⟨rfl,hi,p⟩
 by_cases hlt:i<n
 ·refine .inr ⟨hlt,Pv (i+1),λσ' H' p'=>⟨n-(i+1),∅,rfl,hlt,p'⟩,λx H' y=>?_⟩
  obtain ⟨e,y⟩:=y
  subst e y
  exact hs i σ _ hlt p
 ·have e:i=n:=∅
  subst e
  exact .inl ⟨ar _,hd σ H p⟩
end L2
end
section
namespace L2
structure Cal (P:Program) (w:b8) (K:aj) (mg:Str->Option ah) (base:Heap) (k:Nat) (x:Str) (ps:List Str) (sp:Sp):Prop where
 ex:∃f fd,FnOk P w K mg base CX0 k f fd ps sp/\zZ K fd ps []/\mg x=some (.ref f)/\c6 K (.ref f)=true
theorem jf {X:Cx}{k:Nat}{x:Str}{ps:List Str}{sp:Sp}{e:Expr}{es:List Expr}{t:TA}{p pos:Pos}(c:Cal X.prog X.w X.K X.mg X.base k x ps sp) (hr:Room k X.A) (hg:Gl X x) (ha:PA X (e::es) t)
  (hdb:(x == ("__debug__" : Str))=false:=by decide) (he:aN (e::es) X.env=(false,eval e X.env)::aN es X.env:=by rfl) (hpl:(cz pos (aN es X.env)).any (·.1)=false:=by rfl) :
  PE X (.Call (.Name x p) (e::es) [] pos) (UT sp [] E0 t):=by
 obtain ⟨f,fd,F,hb,hm,hk⟩:=c.ex
 exact Uj F hr hg hm hk hb .nil YT ha hdb he hpl
theorem Cal.mk' {P:Program}{w:b8}{K:aj}{mg:Str->Option ah}{base:Heap}{k:Nat}{x:Str}{ps:List Str}{sp:Sp}{st:Stmt}{h:Heap}{f:Addr}{oc:ah}{od an:Option Addr}{osl:Array (Option ah)}{kV doc pm cdv ct:ah}
  (X:K.In h) (G:h.Ns mainGlobals mg) (a:aU K mainGlobals x=some (some (.ref f)))
  (l:K.lookup f=some ⟨oc,od,.func (bL x x (jW st) (jP st) (j7 st) .none kV doc pm an cdv ct),osl⟩) (c:cQ K cdv x=true) (k':c6 K (.ref f)=true)
  (hb:∀(kV doc pm:ah) (an:Option Addr) (cdv ct:ah) (us:List ah),us.length=ps.length->cP (bL x x (jW st) (jP st) (j7 st) .none kV doc pm an cdv ct) ⟨us,[]⟩=pure (ps.zip us))
  (ok:∀{f:Addr} {fd:FuncData},Fun K x x st f fd->FnOk P w K mg base CX0 k f fd ps sp):Cal P w K mg base k x ps sp:=by
 have F:=vA (st:=st) l c k'
 exact ⟨f,_,ok F,F.binds hb,bw X G a,k'⟩
section
variable {X:Cx}
theorem Qv:qE X (.builtin "isinstance") (λxs H Q=>∃x n t b,xs=[x,.ty n]/\TyOf X.K H x t/\bx X.K t (.type n)=some b/\Q (.bl b) H):=by
 intro pins s σ H xs us Q I r h
 obtain ⟨x,n,t,b,rfl,ty,e,q⟩:=h
 obtain ⟨u,w',rfl,r1,r2⟩:=Zo r
 cases (show w'=dP n from r2)
 exact Yl I r1 ty e λtk=>⟨.bl b,H,I.tok tk,rfl,q⟩
noncomputable def US (i j:Int):Prop:=0<j/\j<2 ^ 200
theorem yL:OpR X (iu .FloorDiv) (rI US λi j=>.int (i / j)):=opI λi j _ _ _ _ _ hc q=>by
 have h1:(0:Int)<j:=hc.1
 have h2:j<2 ^ 200:=hc.2
 refine floordiv_int ∅ (by rw [Int.fdiv_eq_ediv_of_nonneg i ∅];exact q) (.inl (PyProof.noPylong_of_log2 ?_))
 have h3:j.natAbs<2 ^ 200:=∅
 have h4:j.natAbs≠0:=∅
 have:=(Nat.log2_lt h4).mpr h3
 omega
theorem YL (hc:X.calm=true):qE X (.builtin "all") (λxs H Q=>∃(p:Addr) (bs:List Bool),xs=[.ref p]/\SqL X.K H p (bs.map V.bl)/\Q (.bl (bs.all λb=>b)) H):=by
 intro pins s σ H xs us Q I r h
 obtain ⟨p,bs,rfl,hq,q⟩:=h
 obtain ⟨u,rfl,ru⟩:=xT r
 cases ru
 obtain ⟨its,rv,pl,hz⟩:=I.list hq
 have hne:p≠s.heap.objs.size:=by
  obtain ⟨o,n,e,_⟩:=id pl
  exact aD (av e)
 have hlen:its.length=bs.length:=by rw [<- rv.length,aa]
 have itsAt:∀i v,its[i]? = some v->∃b,bs[i]? = some b/\v=lU b:=λi v e=>by
  have hi:i<its.length:=(List.getElem?_eq_some_iff.mp e).1
  have hb:(bs.map V.bl)[i]? = some (V.bl (bs[i]'∅)):=by rw [aB,ae ∅];rfl
  obtain ⟨u,h1,h2⟩:=rv.get hb
  rw [e] at h1
  cases h1
  exact ⟨bs[i]'∅,ae ∅,h2⟩
 refine call_all_walk (d8 pl.isList ?_)
 refine ⟨s.heap.objs.size,_,_,_,_,_,λi=>bs.getD i true,rfl,oi (show (X.A.in1).handled=none from I.ok.hd hc) s.heap.objs.size p hne its.toArray,⟨⟨_,aA _ rfl,rfl,rfl⟩,pl.isList.at λo e=>ai _ e⟩,?_,?_⟩
 ·intro i v s' Q' E' hP hQ
  obtain ⟨b,hb,rfl⟩:=itsAt i v (by simpa using hP)
  have e:bs.getD i true=b:=by rw [ak,hb];rfl
  have hQ:Q' (bs.getD i true) s':=hQ
  rw [e] at hQ
  exact c0 hQ
 ·intro h' tk hk
  have e:((aK its.toArray.size).all λi=>bs.getD i true)=bs.all λb=>b:=by
   rw [ax,hlen,eQ,bY,bY]
   constructor
   ·intro z b hb
    obtain ⟨i,hi,rfl⟩:=List.mem_iff_getElem.mp hb
    have:=z i (List.mem_range.mpr hi)
    rw [ak,ae hi] at this
    exact this
   ·intro z i hi
    have hi':=List.mem_range.mp hi
    rw [ak,ae hi']
    exact z _ (bP hi')
  rw [e]
  refine ⟨.bl _,H,I.kept (t':=tk) λb o eo=>hk b o (by
   intro z
   have:=List.mem_singleton.mp z
   subst this
   exact absurd (av eo) (cc _)) (ai _ eo),rfl,q⟩
end
noncomputable def kitT (a b:String):Option Bool:=if (dP a == dP b)=true then some true else if PySem.W.kitMeta b=true then (fastBuiltinMro a).map (·.contains (.type b)) else none
theorem qf (K:aj) (a b:String):bx K (.type a) (.type b)=kitT a b:=rfl
theorem w9 (K:aj):bx K (.type "int") (.type "bool")=some false:=(qf K _ _).trans (by decide +kernel)
theorem wJ (K:aj):bx K (.type "int") (.type "int")=some true:=(qf K _ _).trans (by decide +kernel)
theorem uu (K:aj):bx K (.type "bool") (.type "bool")=some true:=(qf K _ _).trans (by decide +kernel)
theorem JH (K:aj):bx K (.type "list") (.type "bool")=some false:=(qf K _ _).trans (by decide +kernel)
theorem QB (K:aj):bx K (.type "list") (.type "int")=some false:=(qf K _ _).trans (by decide +kernel)
theorem Qr (K:aj):bx K (.type "list") (.type "str")=some false:=(qf K _ _).trans (by decide +kernel)
theorem vT (K:aj):bx K (.type "list") (.type "list")=some true:=(qf K _ _).trans (by decide +kernel)
theorem vm (K:aj):bx K (.type "list") (.type "tuple")=some false:=(qf K _ _).trans (by decide +kernel)
theorem gj (K:aj):bx K (.type "tuple") (.type "bool")=some false:=(qf K _ _).trans (by decide +kernel)
theorem Jz (K:aj):bx K (.type "tuple") (.type "int")=some false:=(qf K _ _).trans (by decide +kernel)
theorem Jy (K:aj):bx K (.type "tuple") (.type "str")=some false:=(qf K _ _).trans (by decide +kernel)
theorem vt (K:aj):bx K (.type "tuple") (.type "list")=some false:=(qf K _ _).trans (by decide +kernel)
theorem yU (K:aj):bx K (.type "tuple") (.type "tuple")=some true:=(qf K _ _).trans (by decide +kernel)
noncomputable def Ext (b:Addr) (H H':Hp):Prop:=∀c o,H c=some o->c≠b->H' c=some o
theorem Ext.refl {b:Addr}{H:Hp}:Ext b H H:=λ_ _ h _=>h
theorem Ext.trans {b:Addr}{H H1 H2:Hp}(x:Ext b H H1) (y:Ext b H1 H2):Ext b H H2:=λc o h n=>y c o (x c o h n) n
theorem Ext.of_same {b:Addr}{H H':Hp}(x:jg H H'):Ext b H H':=λc o h _=>x c o h
theorem Ext.put {b:Addr}{H:Hp}{o:HO}:Ext b H (upd H b o):=λc _ h n=>by rw [j5 n];exact h
theorem jg.new {H:Hp}{p:Addr}{o:HO}(n:H p=none):jg H (upd H p o):=λc u h=>by rw [j5 (j1 h n)];exact h
theorem Ext.new {b:Addr}{H:Hp}{p:Addr}{o:HO}(n:H p=none):Ext b H (upd H p o):=Ext.of_same (jg.new n)
theorem Ext.free {b:Addr}{H H':Hp}(x:Ext b H H') {p:Addr}(h:H' p=none) (n:p≠b):H p=none:=by
 cases q:H p with
 | none=>rfl
 | some o=>rw [x p o q n] at h;cases h
end L2
end
section
namespace L2
section
variable {X:Cx}
theorem je (K:aj) (h:X.K=K:=by rfl):IxR X (U8 K):=by subst h;exact VW
theorem qM (K:aj) (h:X.K=K:=by rfl):IxR X (Wm K):=by subst h;exact WJ
theorem jh (K:aj) (h:X.K=K:=by rfl):qE X (.builtin "len") (λxs H Q=>∃p ys,xs=[.ref p]/\(SqL K H p ys\/SqT K H p ys)/\Q (.int ys.length) H):=by subst h;exact JB
theorem Xz (K:aj) (h:X.K=K:=by rfl):OpR X (cD .In) (rIn K false):=by subst h;exact ZG
theorem xM (K:aj) (h:X.K=K:=by rfl):OpR X (cD .NotIn) (rIn K true):=by subst h;exact JG
theorem jR (K:aj) (h:X.K=K:=by rfl):qE X (.builtin "isinstance") (λxs H Q=>∃x n t b,xs=[x,.ty n]/\TyOf K H x t/\bx K t (.type n)=some b/\Q (.bl b) H):=by subst h;exact Qv
theorem y9 (K:aj) (hc:X.calm=true) (h:X.K=K:=by rfl):qE X (.builtin "all") (λxs H Q=>∃(p:Addr) (bs:List Bool),xs=[.ref p]/\SqL K H p (bs.map V.bl)/\Q (.bl (bs.all λb=>b)) H):=by subst h;exact YL hc
theorem jL {tg l:Expr}{tl:TE}(K:aj) (hl:PE X l tl) (h:X.K=K:=by rfl):PI X tg l (UY K tl):=by subst h;exact U1 hl
theorem vd {tg l:Expr}{tl:TE}(K:aj) (hl:PE X l tl) (h:X.K=K:=by rfl):PI X tg l (GX K tl):=by subst h;exact Wg hl
theorem qT {es:List Expr}{k:Nat}{t:TGs}{n:Nat}{pos:Pos}(K:aj) (hc:X.calm=true) (h:PGs X es t)
  (hn:(eN es X.env).length=n:=by rfl) (hst:(eN es X.env).findIdx? (·.1)=none:=by rfl) (hK:X.K=K:=by rfl):PG X (.Tuple es k pos) (G6 K n t):=by subst hK;exact Wc hc h hn hst
theorem yE {T id:String}{name:Str}{r:V->List V->Hp->VK->Prop}{o e:Expr}{es:List Expr}{to:TE}{t:TA}{apos cpos:Pos}(K:aj) (pa:PlainAttrs T) (slot:Slot T name id) (hty:sH (.builtin id)=pure (.type "method_descriptor")) (hm:MtR X id r) (ho:PE X o to) (ha:PA X (e::es) t)
  (hbase:fE o name X.env (eval o X.env)=eval o X.env:=by rfl)
  (hfew:((cz cpos (aN (e::es) X.env)).all (λx=>!x.1) && (fS cpos (dI [] X.env)).all (λx=>x.1.isSome)
   && decide ((e::es).length+([]:List m6).length+(if ([]:List m6).isEmpty then 0 else 1)<30))=true:=by rfl)
  (hline:(apos.endLine == cpos.line)=true:=by rfl) (hs:aN (e::es) X.env=(false,eval e X.env)::aN es X.env:=by rfl) (hplain:(cz cpos (aN es X.env)).any (·.1)=false:=by rfl) (hK:X.K=K:=by rfl) :
  PE X (.Call (.Attribute o name apos) (e::es) [] cpos) (tBM K T r to t):=by subst hK;exact GA pa slot hty hm ho ha hbase hfew hline hs hplain
end
noncomputable def New (H:Hp) (o:HO) (Q:VK):Prop:=∀p H',H p=none->H' p=some o->jg H H'->Q (.ref p) H'
theorem New.at {H:Hp}{o:HO}{Q:VK}(h:New H o Q):∀p,H p=none->Q (.ref p) (upd H p o):=λp n=>h p _ n j4 (jg.new n)
section
variable {X:Cx}{es:List Expr}{t:TA}{pos:Pos}
noncomputable def GP (t:TA):TE:=λσ H Q=>t σ H λxs H1=>xs.length<=sizeLine/\New H1 (.tup xs) Q
noncomputable def GU (t:TA):TE:=λσ H Q=>t σ H λxs H1=>xs.length<=sizeLine/\New H1 (.lst xs) Q
theorem xN {x1}(h:PA X es t):PE X (.Tuple es x1 pos) (GP t):=by
 intro pins s σ H Q I hq
 refine wpAny_Tuple_spliced (thn (h pos pins s σ H _ I hq) λus s1 ⟨xs,H1,I1,r,z,q⟩=>⟨by rw [<- r.length];exact z,?_⟩)
 have hf:H1 s1.heap.objs.size=none:=I1.hok.fresh (ar _)
 refine ⟨.ref s1.heap.objs.size,upd H1 s1.heap.objs.size (.tup xs),I1.laid (t':=s1.toks) (λb u e=>ai _ e) (ar _) ?_,rfl,q.at _ hf⟩
 exact ⟨z,us,r,⟨_,aA _ rfl,rfl,_,rfl⟩⟩
theorem jU (h:PA X es t):PE X (.List es pos) (GU t):=by
 intro pins s σ H Q I hq
 refine wpAny_List_spliced (thn (h pos pins s σ H _ I hq) λus s1 ⟨xs,H1,I1,r,z,q⟩=>⟨by rw [<- r.length];exact z,?_⟩)
 have hf:H1 s1.heap.objs.size=none:=I1.hok.fresh (ar _)
 refine ⟨.ref s1.heap.objs.size,upd H1 s1.heap.objs.size (.lst xs),I1.laid (t':=s1.toks) (λb u e=>ai _ e) (ar _) ?_,rfl,q.at _ hf⟩
 exact ⟨z,us,0,r,aA _ rfl⟩
theorem OpR.weak {f:ah->ah->Sem ah}{r r':R2}(h:OpR X f r) (w:∀x y H Q,r' x y H Q->r x y H Q):OpR X f r':=λpins s σ H x y v u Q I rx ry q=>h pins s σ H x y v u Q I rx ry (w _ _ _ _ q)
theorem qE.weak {f:ah}{r r':List V->Hp->VK->Prop}(h:qE X f r) (w:∀x H Q,r' x H Q->r x H Q):qE X f r':=λpins s σ H xs us Q I rx q=>h pins s σ H xs us Q I rx (w _ _ _ q)
theorem SlR.weak {r r':V->Option Int->Option Int->Hp->VK->Prop}(h:SlR X r) (w:∀x lo hi H Q,r' x lo hi H Q->r x lo hi H Q):SlR X r':=λpins s σ H x v vl vu lo hi sl Q I rx hs pl pu q=>h pins s σ H x v vl vu lo hi sl Q I rx hs pl pu (w _ _ _ _ _ q)
noncomputable def G9:R2:=λx y H Q=>∃l b xs zs,x = .ref l/\y = .ref b/\H l=some (.lst xs)/\H b=some (.lst zs)/\xs.length+zs.length<=sizeLine/\New H (.lst (xs++zs)) Q
theorem ut:OpR X (iu .Add) G9:=Wd.weak λ_ _ _ _ ⟨l,b,xs,zs,h1,h2,h3,h4,h5,q⟩=>⟨l,b,xs,zs,h1,h2,h3,h4,h5,q.at⟩
theorem qA (K:aj) (h:X.K=K:=by rfl):qE X (.type "list") (λxs H Q=>∃p ys,xs=[.ref p]/\(SqL K H p ys\/SqT K H p ys)/\New H (.lst ys) Q):=by
 subst h
 exact Jl.weak λ_ _ _ ⟨p,ys,h1,h2,q⟩=>⟨p,ys,h1,h2,q.at⟩
theorem y6 (K:aj) (h:X.K=K:=by rfl):SlR X (λx lo hi H Q=>∃a xs,x = .ref a/\SqL K H a xs/\New H (.lst (uJ xs lo hi)) Q):=by
 subst h
 exact Ug.weak λ_ _ _ _ _ ⟨a,xs,h1,h2,q⟩=>⟨a,xs,h1,h2,q.at⟩
end
theorem xo {p A B:Prop} [Decidable p] (h1:p->A) (h2:¬p->B):if decide p=true then A else B:=by
 by_cases h:p
 ·rw [if_pos (decide_eq_true h)];exact h1 h
 ·rw [if_neg (by rw [decide_eq_false h];exact au)];exact h2 h
theorem y4 {p A B:Prop} [Decidable p] (h1:¬p->A) (h2:p->B):if (!decide p)=true then A else B:=by
 by_cases h:p
 ·rw [if_neg (by rw [decide_eq_true h];exact au)];exact h2 h
 ·rw [if_pos (by rw [decide_eq_false h];rfl)];exact h1 h
theorem xg {α:Type}{xs:List α}{i:Int}{v:α}(h0:0<=i) (h:xs[i.toNat]? = some v):atI xs i=some v:=by
 obtain ⟨n,rfl⟩:=Int.eq_ofNat_of_zero_le h0
 exact zB (by simpa using h)
theorem xq {ns:List Int}{i:Int}(h0:0<=i) (h:i<ns.length):∃z,atI (ns.map V.int) i=some (.int z):=by
 refine ⟨ns[i.toNat]'∅,xg h0 ?_⟩
 rw [aB,ae ∅]
 rfl
theorem yK {ns:List Int}{i:Nat}{y:V}(h:(ns.map V.int)[i]? = some y):∃z,y=V.int z:=by
 rw [aB] at h
 cases e:ns[i]? with
 | none=>rw [e] at h;cases h
 | some z=>rw [e] at h;exact ⟨z,(aM h).symm⟩
noncomputable def Zj:Sp:=λvs H Q _=>∃a b:Int,vs=[.int a,.int b]/\∀r:Int,Q (.int r) H
noncomputable def Z4:Sp:=λvs H Q _=>∃i:Int,vs=[.int i]/\Q (.bl true) H
structure Nb (mg:Str->Option ah):Prop where
 b_len:mg "len" = none
 b_range:mg "range" = none
 b_isinstance:mg "isinstance" = none
 b_int:mg "int" = none
 b_bool:mg "bool" = none
 b_str:mg "str" = none
 b_list:mg "list" = none
 b_tuple:mg "tuple" = none
 b_min:mg "min" = none
 b_max:mg "max" = none
 b_all:mg "all" = none
 b_zip:mg "zip" = none
end L2
end
section
namespace L2
noncomputable def YF (M:Addr->Prop) (H H':Hp):Prop:=∀c o,H c=some o->¬M c->H' c=some o
theorem YF.of_same {M:Addr->Prop}{H H':Hp}(x:jg H H'):YF M H H':=λc o h _=>x c o h
section
variable {X:Cx}
end
end L2
end
section
namespace L2
noncomputable def tCut (t u:TS):TS:=λD σ H=>∃P:St->Hp->Prop,t { D with nx:=P } σ H/\∀σ' H',P σ' H'->u D σ' H'
theorem wA {X:Cx}{st:Stmt}{vC:List Stmt}{t u:TS}(h1:PS X st t) (h2:PSs X vC u):PSs X (st::vC) (tCut t u):=by
 intro pins s σ H D I h
 obtain ⟨P,h,hP⟩:=h
 refine lL (thn (h1 pins s σ H { D with nx:=P } I h) λf s1 q=>?_)
 cases f with
 | next =>
  obtain ⟨σ',H',I',q⟩:=q
  exact h2 pins s1 σ' H' D I' (hP _ _ q)
 | ret v=>exact q
 | brk=>exact q
 | cont=>exact q
section
variable {X:Cx}
end
noncomputable def qh (L:Addr) (H:Hp) (b:Addr):Prop:=∃(ns:List Int) (a r c d:Int),H b=some (.lst [.ref L,.int a,.int r,.int c,.int d])/\L≠b/\H L=some (.lst (ns.map V.int))/\0<=a
theorem qh.same {L:Addr}{H H':Hp}{b:Addr}(B:qh L H b) (s:jg H H'):qh L H' b:=by
 obtain ⟨ns,a,r,c,d,h1,h2,h3,h4⟩:=B
 exact ⟨ns,a,r,c,d,s _ _ h1,h2,s _ _ h3,h4⟩
theorem qh.ext {L:Addr}{H H':Hp}{b acc:Addr}(B:qh L H b) (n:acc≠b) (m:acc≠L) (e:Ext acc H H'):qh L H' b:=by
 obtain ⟨ns,a,r,c,d,h1,h2,h3,h4⟩:=B
 exact ⟨ns,a,r,c,d,e _ _ h1 n.symm,h2,e _ _ h3 m.symm,h4⟩
theorem qh.put {L:Addr}{H:Hp}{b acc:Addr}{o:HO}(B:qh L H b) (n:acc≠b) (m:acc≠L):qh L (upd H acc o) b:=B.ext n m Ext.put
theorem qh.ne {L:Addr}{H:Hp}{b p:Addr}(B:qh L H b) (n:H p=none):p≠b:=by
 obtain ⟨ns,a,r,c,d,h1,h2,h3,h4⟩:=B
 exact (j1 h1 n).symm
theorem qh.neL {L:Addr}{H:Hp}{b p:Addr}(B:qh L H b) (n:H p=none):p≠L:=by
 obtain ⟨ns,a,r,c,d,h1,h2,h3,h4⟩:=B
 exact (j1 h3 n).symm
theorem qh.ne_tup {L:Addr}{H:Hp}{b p:Addr}{xs:List V}(B:qh L H b) (n:H p=some (.tup xs)):p≠b:=by
 obtain ⟨ns,a,r,c,d,h1,h2,h3,h4⟩:=B
 exact jk n h1 (by intro z;cases z)
noncomputable def zy:Sp:=λvs H Q _=>∃(L b:Addr) (n:Int),vs=[.ref b,.int n]/\qh L H b/\(0<n/\n<2 ^ 200)/\∀(v:Int) (H':Hp),0<=v->v<n->qh L H' b->Ext b H H'->Q (.int v) H'
noncomputable def Vl (K:aj):Sp:=λvs H Q _=>∃(a:Addr) (ns:List Int),vs=[.ref a]/\SqL K H a (ns.map V.int)/\∀(L b:Addr) (H':Hp),H b=none->qh L H' b->jg H H'->Q (.ref b) H'
noncomputable abbrev T3:=Int×Int×Int
noncomputable abbrev yq (t:T3):HO:=.tup [.int t.1,.int t.2.1,.int t.2.2]
noncomputable def WY (H:Hp) (v:V) (t:T3):Prop:=∃p,v = .ref p/\H p=some (yq t)
noncomputable def qN (H:Hp) (vs:List V) (ts:List T3):Prop:=ck (WY H) vs ts
theorem qN.length {H:Hp}{vs:List V}{ts:List T3}(r:qN H vs ts):vs.length=ts.length:=aY r
theorem qN.get {H:Hp}:∀{vs:List V}{ts:List T3}{i:Nat}{v:V},qN H vs ts->vs[i]? = some v->∃t,ts[i]? = some t/\WY H v t
 | _,_,_,_,.nil,e=>by simp at e
 | _,_,0,_,.cons r _,e=>by simp at e;subst e;exact ⟨_,rfl,r⟩
 | _,_,i+1,v,.cons _ t,e=>by
  obtain ⟨d,h1,h2⟩:=qN.get (i:=i) (v:=v) t (by simpa using e)
  exact ⟨d,by simpa using h1,h2⟩
theorem qN.imp {H H':Hp}{vs:List V}{ts:List T3}(r:qN H vs ts) (h:∀p t,H p=some (yq t)->H' p=some (yq t)):qN H' vs ts :=
 Paired.mapP r λ_ t ⟨p,e,q⟩=>⟨p,e,h p t q⟩
theorem qN.snoc {H:Hp}{vs:List V}{ts:List T3}{v:V}{t:T3}(r:qN H vs ts) (h:WY H v t):qN H (vs++[v]) (ts++[t]):=cU r h
theorem qz {α β:Type}(f:α->β) (l:List α) (i:Nat) (v:α) (h:l[i]? = some v):(l.take (i+1)).map f=(l.take i).map f++[f v]:=by
 rw [aT,h,aq]
 rfl
end L2
end
section
namespace L2
open PySem PySem.W PyProof.Rows
noncomputable def qU {α:Type}(lt:Nat->Nat->Bool) (n:Nat):KasT α->(α->Prop)->Prop
 | .ret a,G=>G a
 | .ask i j k,G=>i<n/\j<n/\qU lt n (k (lt i j)) G
theorem qU.bind {α β:Type}{lt:Nat->Nat->Bool}{n:Nat}{f:α->KasT β}{G:β->Prop}:∀{t:KasT α},qU lt n t (λa=>qU lt n (f a) G)->qU lt n (t.bind f) G
 | .ret _,h=>h
 | .ask _ _ k,h=>⟨h.1,h.2.1,qU.bind (t:=k _) h.2.2⟩
theorem qU.wp {α:Type}{lt:Nat->Nat->Bool}{n:Nat}{cmp:Nat->Nat->(Bool->Shared->Prop)->Shared->Prop}{I:Shared->Prop}(hc:∀i j C s,i<n->j<n->I s->(∀s',I s'->C (lt i j) s')->cmp i j C s)
  {G:α->Prop} {Q:α->Shared->Prop} (hq:∀a s,G a->I s->Q a s):∀{t:KasT α} {s:Shared},qU lt n t G->I s->t.kasWp cmp Q s
 | .ret a,s,h,hs=>hq a s h hs
 | .ask i j k,s,h,hs=>hc i j _ s h.1 h.2.1 hs λs' hs'=>qU.wp hc hq (t:=k _) h.2.2 hs'
section
variable {O:KeyOrd}{key:Nat->O.α}{n:Nat}{p:Array Nat}
noncomputable abbrev ltK (O:KeyOrd) (key:Nat->O.α):Nat->Nat->Bool:=λi j=>O.blt (key i) (key j)
noncomputable abbrev kp (key:Nat->O.α) (p:Array Nat) (i:Nat):O.α:=key (p.getD i 0)
noncomputable def zv (key:Nat->O.α) (p:Array Nat) (k:Nat):Prop:=∀i j,i<=j->j<k->O.kle (kp key p i) (kp key p j)
noncomputable def wH (key:Nat->O.α) (p:Array Nat) (k:Nat):Prop:=∀i j,i<=j->j<k->O.kle (kp key p j) (kp key p i)
noncomputable def qm (n:Nat) (p:Array Nat):Prop:=p.Perm (aK n).toArray
theorem qm.size (h:qm n p):p.size=n:=by have:=h.size_eq;simpa using this
theorem qm.lt (h:qm n p) (hn:0<n) (i:Nat):p.getD i 0<n:=by
 by_cases hi:i<p.size
 ·have e:p.getD i 0=p[i]:=by simp [oj,hi]
  rw [e]
  have hm:p[i]∈(aK n).toArray.toList:=(Array.perm_iff_toList_perm.mp h).mem_iff.mp (by simp)
  simpa using hm
 ·have e:p.getD i 0=0:=by simp [oj,hi]
  rw [e];exact hn
theorem zm {p q:Array Nat}{i j:Nat}(h:p[i]? = q[j]?):p.getD i 0=q.getD j 0:=by
 rw [iM,iM,h]
theorem gG {src d:Nat}(hs:src<p.size) (hd:d<=src) (k:Nat) :
  kp (O:=O) key (bubble p src d) k=if k=src-d then kp key p src else if src-d<k/\k<=src then kp key p (k-1) else kp key p k:=by
 have e:=getElem?_bubble hs d hd k
 unfold kp
 by_cases h1:k=src-d
 ·rw [if_pos h1] at e ⊢;rw [zm e]
 ·rw [if_neg h1] at e ⊢
  by_cases h2:src-d<k/\k<=src
  ·rw [if_pos h2] at e ⊢;rw [zm e]
  ·rw [if_neg h2] at e ⊢;rw [zm e]
theorem XM {i j:Nat}(hj:j<=p.size) (k:Nat):kp (O:=O) key (rf p i j) k=if i<=k/\k<j then kp key p (i+j-1-k) else kp key p k:=by
 have e:=getElem?_mirror_all (i:=i) hj k
 unfold kp rf
 by_cases h1:i<=k/\k<j
 ·rw [if_pos h1] at e ⊢;rw [zm e]
 ·rw [if_neg h1] at e ⊢;rw [zm e]
theorem xy {i j:Nat}(hj:j<=p.size) (heq:∀k,i<=k->k<j->kp (O:=O) key p k=kp key p (j-1)) (k:Nat):kp (O:=O) key (rf p i j) k=kp key p k:=by
 rw [XM hj]
 split
 ·rw [heq _ ∅ ∅,heq k ∅ ∅]
 ·rfl
theorem qm.rev (h:qm n p) (i j:Nat):qm n (rf p i j):=(mirror_perm _ _ _ _).trans h
theorem qm.bub (h:qm n p) (i j:Nat):qm n (bubble p i j):=(bubble_perm _ _ _).trans h
theorem JI (hP:qm n p) (hn:0<n) {G:Nat->Prop}:∀(f a:Nat),1<=a->zv (O:=O) key p a ->
  (∀m,a<=m->m<=a+f->zv (O:=O) key p m->(m=a+f\/O.klt (kp key p m) (kp key p (m-1)))->G m)->qU (ltK O key) n (kas_asc p f a) G
 | 0,a,_,hs,h=>h a (ar _) (ar _) hs (.inl rfl)
 | f+1,a,h1,hs,h=>by
  refine ⟨hP.lt hn _,hP.lt hn _,?_⟩
  show qU _ _ (if O.blt (kp key p a) (kp key p (a-1))=true then _ else _) _
  cases hless:O.blt (kp key p a) (kp key p (a-1)) with
  | true=>rw [if_pos rfl];exact h a (ar _) ∅ hs (.inr hless)
  | false =>
   rw [if_neg au]
   refine JI hP hn f (a+1) ∅ (λi j hij hj=>?_) λm hm1 hm2 hsm ho=>h m ∅ ∅ hsm (ho.imp (λz=>∅) id)
   by_cases hja:j<a
   ·exact hs i j hij hja
   ·have hj':j=a:=∅
    subst hj'
    by_cases hi':i=j
    ·subst hi';exact dj _
    ·exact il (hs i (j-1) ∅ ∅) hless
theorem J7 (hP:qm n p) {m nrem:Nat}{G:Nat×Array Nat->Prop}(h1:1<=m) (hm:m<=nrem) (hn:nrem<=n) (hs:wH (O:=O) key p m)
  (h:∀k p',qm n p'->1<=k->k<=nrem->zv (O:=O) key p' k->G (k,p')):qU (ltK O key) n (sD m nrem p) G:=by
 have hsz:m<=p.size:=by rw [hP.size];omega
 refine qU.bind (JI (hP.rev _ _) ∅ _ m h1 (λi j hij hj=>?_) λk hk1 hk2 hk3 _=>h k _ (hP.rev _ _) ∅ ∅ hk3)
 rw [XM hsz,XM hsz,if_pos ∅,if_pos ∅]
 exact hs _ _ ∅ ∅
theorem vX {nrem:Nat}(hn:nrem<=n) {G:Array Nat×Nat×Nat->Prop}:∀(f:Nat) (p:Array Nat) (x q:Nat),qm n p->1<=x->x+f=nrem->wH (O:=O) key p x->q+1<=x ->
  (∀i,x-(q+1)<=i->i<x->kp (O:=O) key p i=kp key p (x-1)) ->
  (∀p' m q',qm n p'->x<=m->m<=nrem->wH (O:=O) key p' m->q'+1<=m->(∀i,m-(q'+1)<=i->i<m->kp (O:=O) key p' i=kp key p' (m-1))->G (p',m,q')) ->
  qU (ltK O key) n (kas_desc f p x q) G
 | 0,p,x,q,hP,h1,hx,hs,hq,he,h=>h p x q hP (ar _) ∅ hs hq he
 | f+1,p,x,q,hP,h1,hx,hs,hq,he,h=>by
  have hsz:x<=p.size:=by rw [hP.size];omega
  refine ⟨hP.lt ∅ _,hP.lt ∅ _,?_⟩
  show qU _ _ (if O.blt (kp key p x) (kp key p (x-1))=true then _ else _) _
  cases hless:O.blt (kp key p x) (kp key p (x-1)) with
  | true =>
   rw [if_pos rfl]
   have step1:∀p':Array Nat,(∀k,kp (O:=O) key p' k=kp key p k)->wH (O:=O) key p' (x+1):=by
    intro p' hk i j hij hj
    rw [hk,hk]
    by_cases hjx:j<x
    ·exact hs i j hij hjx
    ·have hj':j=x:=∅
     subst hj'
     by_cases hi':i=j
     ·subst hi';exact dj _
     ·exact il (fY hless) (hs i (j-1) ∅ ∅)
   by_cases hneq:q > 0
   ·rw [if_pos hneq]
    exact vX hn f _ (x+1) 0 (hP.rev _ _) ∅ ∅ (step1 _ (xy hsz he)) ∅ (λi h1 h2=>by congr 1;omega) λp' m q' a b=>h p' m q' a ∅
   ·rw [if_neg hneq]
    exact vX hn f _ (x+1) 0 hP ∅ ∅ (step1 _ λ_=>rfl) ∅ (λi h1 h2=>by congr 1;omega) λp' m q' a b=>h p' m q' a ∅
  | false =>
   rw [if_neg au]
   refine ⟨hP.lt ∅ _,hP.lt ∅ _,?_⟩
   show qU _ _ (if O.blt (kp key p (x-1)) (kp key p x)=true then _ else _) _
   cases hlarger:O.blt (kp key p (x-1)) (kp key p x) with
   | true=>rw [if_pos rfl];exact h p x q hP (ar _) ∅ hs hq he
   | false =>
    rw [if_neg au]
    have heqx:kp (O:=O) key p x=kp key p (x-1):=iK hlarger hless
    refine vX hn f p (x+1) (q+1) hP ∅ ∅ (λi j hij hj=>?_) ∅ (λi h1 h2=>?_) λp' m q' a b=>h p' m q' a ∅
    ·by_cases hjx:j<x
     ·exact hs i j hij hjx
     ·have hj':j=x:=∅
      subst hj'
      by_cases hi':i=j
      ·subst hi';exact dj _
      ·rw [heqx];exact hs i (j-1) ∅ ∅
    ·rw [show x+1-1=x by omega]
     by_cases hix:i=x
     ·subst hix;rfl
     ·rw [heqx];exact he i ∅ ∅
theorem uz (hP:qm n p) {m nrem:Nat}{G:Nat×Array Nat->Prop}(hm:m+1<=nrem) (hn:nrem<=n) (hs:wH (O:=O) key p (m+1))
  (h:∀k p',qm n p'->1<=k->k<=nrem->zv (O:=O) key p' k->G (k,p')):qU (ltK O key) n (kas_descPart m nrem p) G:=by
 refine qU.bind (vX hn _ p (m+1) 0 hP ∅ ∅ hs ∅ (λi h1 h2=>by congr 1;omega) λp' k q hP' hk1 hk2 hs' hq he=>?_)
 have hsz:k<=p'.size:=by rw [hP'.size];omega
 show qU _ _ (if q > 0 then sD k nrem (rf p' (k-(q+1)) k) else sD k nrem p') _
 by_cases hneq:q > 0
 ·rw [if_pos hneq]
  refine J7 (hP'.rev _ _) ∅ hk2 hn (λi j hij hj=>?_) h
  rw [xy hsz he,xy hsz he]
  exact hs' i j hij hj
 ·rw [if_neg hneq]
  exact J7 hP' ∅ hk2 hn hs' h
theorem ZE (hP:qm n p) (hn:0<n) {G:Nat×Array Nat->Prop}(h:∀k p',qm n p'->1<=k->k<=n->zv (O:=O) key p' k->G (k,p')):qU (ltK O key) n (kas_count n p) G:=by
 refine qU.bind (JI hP hn _ 1 (ar 1) (λi j hij hj=>by have:i=j:=∅;subst this;exact dj _) λm hm1 hm2 hsm hor=>?_)
 by_cases hnn:m=n
 ·rw [if_pos (by simpa using hnn)]
  exact h m p hP hm1 ∅ hsm
 ·rw [if_neg (by simpa using hnn)]
  have hlt:O.klt (kp key p m) (kp key p (m-1)):=by
   rcases hor with z | z
   ·omega
   ·exact z
  by_cases hgt:m > 1
  ·rw [if_pos hgt]
   refine ⟨hP.lt hn _,hP.lt hn _,?_⟩
   show qU _ _ (if O.blt (kp key p 0) (kp key p (m-1))=true then _ else _) _
   cases hrose:O.blt (kp key p 0) (kp key p (m-1)) with
   | true=>rw [if_pos rfl];exact h m p hP hm1 ∅ hsm
   | false =>
    rw [if_neg au]
    have hsz:m<=p.size:=by rw [hP.size];omega
    have hall:∀k,0<=k->k<m->kp (O:=O) key p k=kp key p (m-1):=by
     intro k _ hk
     have a1:=hsm 0 k ∅ hk
     have a2:=hsm k (m-1) ∅ ∅
     exact iK a2 (il hrose a1)
    refine uz (hP.rev _ _) ∅ (ar _) (λi j hij hj=>?_) h
    rw [xy hsz hall,xy hsz hall]
    by_cases hjn:j<m
    ·rw [hall i ∅ ∅,hall j ∅ hjn];exact dj _
    ·have hj':j=m:=∅
     subst hj'
     by_cases hi':i=j
     ·subst hi';exact dj _
     ·rw [hall i ∅ ∅];exact fY hlt
  ·rw [if_neg hgt]
   have hm1':m=1:=∅
   subst hm1'
   refine uz hP ∅ (ar _) (λi j hij hj=>?_) h
   by_cases hi':i=j
   ·subst hi';exact dj _
   ·have hi0:i=0:=∅
    have hj1:j=1:=∅
    subst hi0;subst hj1
    exact fY hlt
theorem uF (hP:qm n p) (hn:0<n) {k:Nat}(hs:zv (O:=O) key p k) {G:Nat->Prop}:∀(f l r:Nat),l<=r->r<=k->r-l<=f ->
  (∀i,i<l->O.kle (kp key p i) (kp key p k))->(∀i,r<=i->i<k->O.klt (kp key p k) (kp key p i)) ->
  (∀l,l<=k->(∀i,i<l->O.kle (kp key p i) (kp key p k))->(∀i,l<=i->i<k->O.klt (kp key p k) (kp key p i))->G l)->qU (ltK O key) n (kas_place p k f l r) G
 | 0,l,r,hlr,hrk,hm,hlo,hhi,h=>by
  have:l=r:=∅
  subst this
  exact h l hrk hlo hhi
 | f+1,l,r,hlr,hrk,hm,hlo,hhi,h=>by
  unfold kas_place
  by_cases hge:l>=r
  ·rw [if_pos hge]
   have:l=r:=∅
   subst this
   exact h l hrk hlo hhi
  ·rw [if_neg hge]
   refine ⟨hP.lt hn _,hP.lt hn _,?_⟩
   show qU _ _ (if O.blt (kp key p k) (kp key p ((l+r) / 2))=true then _ else _) _
   cases hless:O.blt (kp key p k) (kp key p ((l+r) / 2)) with
   | true =>
    rw [if_pos rfl]
    exact uF hP hn hs f l _ ∅ ∅ ∅ hlo (λi h1 h2=>KeyOrd.klt_of_klt_of_kle hless (hs _ _ h1 h2)) h
   | false =>
    rw [if_neg au]
    exact uF hP hn hs f _ r ∅ ∅ ∅ (λi h1=>il (hs i ((l+r) / 2) ∅ ∅) (show O.kle _ _ from hless)) hhi h
theorem Zf (hn:0<n) {G:Array Nat->Prop}:∀(f:Nat) (p:Array Nat) (k:Nat),qm n p->k+f=n->zv (O:=O) key p k ->
  (∀p',qm n p'->zv (O:=O) key p' n->G p')->qU (ltK O key) n (kas_bin f p k) G
 | 0,p,k,hP,hk,hs,h=>h p hP (by rw [<- hk];exact hs)
 | f+1,p,k,hP,hk,hs,h=>by
  refine qU.bind (uF hP hn hs k 0 k (aQ _) (ar _) ∅ (λi hi=>∅) (λi h1 h2=>∅) λl hlk hlo hhi=>?_)
  refine Zf hn f _ (k+1) (hP.bub _ _) ∅ (λi j hij hj=>?_) h
  have hks:k<p.size:=by rw [hP.size];omega
  rw [gG hks ∅,gG hks ∅,show k-(k-l)=l by omega]
  repeat' split
  all_goals first
   | (exfalso;omega)
   | exact dj _
   | exact hlo _ ∅
   | exact fY (hhi _ ∅ ∅)
   | exact hs _ _ ∅ ∅
theorem wZ (hn:0<n) {G:Array Nat->Prop}(h:∀p',qm n p'->zv (O:=O) key p' n->G p'):qU (ltK O key) n (sX n) G:=by
 refine qU.bind (ZE (Array.Perm.refl _) hn λk p' hP h1 hk hs=>?_)
 show qU _ _ (if k<n then kas_bin (n-max k 1) p' (max k 1) else .ret p') _
 by_cases hkn:k<n
 ·rw [if_pos hkn,show max k 1=k by omega]
  exact Zf hn _ p' k hP ∅ hs h
 ·rw [if_neg hkn]
  have e:k=n:=∅
  subst e
  exact h p' hP hs
end
noncomputable def zt:List Int->List Int->Bool
 | [],[]=>false
 | [],_::_=>true
 | _::_,[]=>false
 | a::x,b::y=>if a=b then zt x y else decide (a<b)
theorem wc:∀a,zt a a=false
 | []=>rfl
 | a::x=>by unfold zt;rw [if_pos rfl];exact wc x
theorem wD:∀a b c,zt a b=true->zt b c=true->zt a c=true
 | [],[],_,h,_=>by cases h
 | [],_::_,[],_,h=>by cases h
 | [],_::_,_::_,_,_=>rfl
 | _::_,[],_,h,_=>by cases h
 | _::_,_::_,[],_,h=>by cases h
 | a::x,b::y,c::z,h1,h2=>by
  unfold zt at h1 h2 ⊢
  by_cases e1:a=b
  ·subst e1
   rw [if_pos rfl] at h1
   by_cases e2:a=c
   ·rw [if_pos e2] at h2 ⊢;exact wD x y z h1 h2
   ·rw [if_neg e2] at h2 ⊢;exact h2
  ·rw [if_neg e1] at h1
   have h1':=of_decide_eq_true h1
   by_cases e2:b=c
   ·subst e2;rw [if_neg e1];exact h1
   ·rw [if_neg e2] at h2
    have h2':=of_decide_eq_true h2
    rw [if_neg ∅]
    exact decide_eq_true ∅
theorem Qy:∀a b c,zt a c=true->zt a b=true\/zt b c=true
 | [],[],[],h=>by cases h
 | [],[],_::_,_=>.inr rfl
 | [],_::_,_,_=>.inl rfl
 | _::_,_,[],h=>by cases h
 | _::_,[],_::_,_=>.inr rfl
 | a::x,b::y,c::z,h=>by
  unfold zt at h ⊢
  by_cases e1:a=b
  ·subst e1
   rw [if_pos rfl]
   by_cases e2:a=c
   ·rw [if_pos e2] at h ⊢;exact Qy x y z h
   ·rw [if_neg e2] at h ⊢;exact .inr h
  ·rw [if_neg e1]
   by_cases e2:b=c
   ·subst e2;rw [if_neg e1] at h;exact .inl h
   ·rw [if_neg e2]
    by_cases e3:a=c
    ·subst e3
     by_cases hab:a<b
     ·exact .inl (decide_eq_true hab)
     ·exact .inr (decide_eq_true ∅)
    ·rw [if_neg e3] at h
     have h':=of_decide_eq_true h
     by_cases hab:a<b
     ·exact .inl (decide_eq_true hab)
     ·exact .inr (decide_eq_true ∅)
theorem wQ:∀a b,zt a b=false->zt b a=false->a=b
 | [],[],_,_=>rfl
 | [],_::_,h,_=>by cases h
 | _::_,[],_,h=>by cases h
 | a::x,b::y,h1,h2=>by
  unfold zt at h1 h2
  by_cases e:a=b
  ·subst e
   rw [if_pos rfl] at h1 h2
   rw [wQ x y h1 h2]
  ·rw [if_neg e] at h1
   rw [if_neg (λz=>e z.symm)] at h2
   have:=of_decide_eq_false h1
   have:=of_decide_eq_false h2
   omega
noncomputable def wn:KeyOrd:=⟨List Int,zt,wc,wD,Qy,wQ⟩
noncomputable def Ue:KeyOrd:=⟨Int,λa b=>decide (a<b),λa=>by simp,λa b c h1 h2=>by
  have:=of_decide_eq_true h1;have:=of_decide_eq_true h2;exact decide_eq_true ∅,λa b c h=>by
  have:=of_decide_eq_true h
  by_cases hab:a<b
  ·exact .inl (decide_eq_true hab)
  ·exact .inr (decide_eq_true ∅),λa b h1 h2=>by
  have:=of_decide_eq_false h1;have:=of_decide_eq_false h2;omega⟩
end L2
end
section
namespace L2
open PySem.W
open PySem.AutoSeq1 (wpAny_loadPart')
open PySem.MeetsSeq PySem.MeetsSeq2 PySem.MeetsSeq3 PySem.SeqRoads2
theorem ux {its:List ah}{xs:List Int}(h:dm its xs) {i:Nat}(hi:i<its.length):∃t,its[i]? = some (.int (xs[i]'(by have:=h.length;omega)) t):=by
 have hx:i<xs.length:=by have:=h.length;omega
 obtain ⟨u,e1,t,e2⟩:=jB.get (uB h) (i:=i) (x:=V.int xs[i]) (by rw [aB,ae hx];rfl)
 exact ⟨t,by rw [e1,e2]⟩
theorem Yc (l b:Addr) (items items2:List ah) (n n2:Nat) (dd dd2:Option Addr) (sl sl2:Array (Option ah)) {xs ys:List Int}(hx:dm items xs) (hy:dm items2 ys) (k:Nat) :
  ∀i:Nat,items.length-i=k->i<=items.length->i<=items2.length->Meets (ff.«list.__eq__.loop» ⟨[.ref l,.ref b,cg i,cg 0],[]⟩)
   (λA R s=>s.heap.get? l=some { cls:=.type "list",dict:=dd,data:=.seq items.toArray n,slots:=sl }/\s.heap.get? b=some { cls:=.type "list",dict:=dd2,data:=.seq items2.toArray n2,slots:=sl2 } /\
    R (.ok (.ret (.bool (zt (xs.drop i) (ys.drop i))))) s):=by
 have l1:=hx.length
 have l2:=hy.length
 induction k with
 | zero =>
  intro i hk hi hi2 prog w A R s h
  obtain ⟨hp,g,d,tk,os⟩:=s;obtain ⟨hl,hb,h⟩:=h
  wp_walk using c8 hl,c8 hb
  have e1:items.toArray[((i:Nat):Int).toNat]? = none:=by simp;omega
  have hd:xs.drop i=[]:=by simp;omega
  rw [hd] at h
  rw [e1]
  wp_walk using c8 hl,c8 hb
  show R (.ok (.ret (.bool (decide (items.toArray.size<items2.toArray.size))))) _
  have e2:decide (items.toArray.size<items2.toArray.size)=zt [] (ys.drop i):=by
   by_cases hlt:i<ys.length
   ·rw [dA hlt]
    exact decide_eq_true (by simp;omega)
   ·rw [me ∅]
    exact decide_eq_false (by simp;omega)
  rw [e2]
  exact h
 | succ k ih =>
  intro i hk hi hi2 prog w A R s h
  obtain ⟨hp,g,d,tk,os⟩:=s;obtain ⟨hl,hb,h⟩:=h
  have hlt:i<items.length:=∅
  obtain ⟨t,e1'⟩:=ux hx hlt
  have e1:items.toArray[((i:Nat):Int).toNat]? = some (.int (xs[i]'∅) t):=by simpa using e1'
  wp_walk using c8 hl,c8 hb
  rw [e1]
  by_cases hlt2:i<items2.length
  ·obtain ⟨u,e2'⟩:=ux hy hlt2
   have e2:items2.toArray[((i:Nat):Int).toNat]? = some (.int (ys[i]'∅) u):=by simpa using e2'
   rw [e2]
   rw [dA (show i<xs.length by omega),dA (show i<ys.length by omega)] at h
   unfold zt at h
   refine af (lJ ?_)
   have hc:((i:Int)+1)=((i+1:Nat):Int):=by push_cast;rfl
   by_cases e:xs[i]'∅=ys[i]'∅
   ·rw [if_pos e] at h
    rw [beq_iff_eq.mpr e]
    wp_walk
    rw [hc]
    exact ⟨dR plain_eq_loop _,eS entry_eq_loop (by
     rw [d7 plain_eq_loop _]
     exact ih (i+1) ∅ ∅ ∅ prog w A R _ ⟨hl,hb,h⟩)⟩
   ·rw [if_neg e] at h
    rw [beq_eq_false_iff_ne.mpr e]
    wp_walk using c8 hl,c8 hb
    rw [e1,e2]
    refine af (show aC (aH prog w) _ (richCompare .Lt _ _) _ _ _ from lt_int ?_)
    exact wpAny_pure h
  ·have e2:items2.toArray[((i:Nat):Int).toNat]? = none:=by simp;omega
   rw [e2]
   rw [dA (show i<xs.length by omega),me (show ys.length<=i by omega)] at h
   wp_walk using c8 hl,c8 hb
   show R (.ok (.ret (.bool (decide (items.toArray.size<items2.toArray.size))))) _
   rw [decide_eq_false (by simp;omega)]
   exact h
theorem Ym (l b:Addr) (items items2:List ah) (n n2:Nat) (dd dd2:Option Addr) (sl sl2:Array (Option ah)) {xs ys:List Int}(hx:dm items xs) (hy:dm items2 ys) :
  Meets (ff.«list.__lt__» ⟨[.ref l,.ref b],[]⟩)
   (λA R s=>s.heap.get? l=some { cls:=.type "list",dict:=dd,data:=.seq items.toArray n,slots:=sl }/\s.heap.get? b=some { cls:=.type "list",dict:=dd2,data:=.seq items2.toArray n2,slots:=sl2 } /\
    R (.ok (.ret (.bool (zt xs ys)))) s):=by
 intro prog w A R s h
 obtain ⟨hp,g,d,tk,os⟩:=s;obtain ⟨hl,hb,h⟩:=h
 have f3:=AutoSeq1.sub_list_list
 wp_walk using c8 hl,c8 hb
 exact ⟨dR plain_eq_loop _,eS entry_eq_loop (by
  rw [d7 plain_eq_loop _]
  exact Yc l b items items2 n n2 dd dd2 sl sl2 hx hy _ 0 rfl (aQ _) (aQ _) prog w A R _ ⟨hl,hb,by simpa using h⟩)⟩
section
variable {prog:Program}{w:b8}{A:br}{E:ah->Shared->Prop}{s:Shared}
theorem QK {l b:Addr}{items items2:List ah}{xs ys:List Int}{n n2:Nat}{dd dd2:Option Addr}{sl sl2:Array (Option ah)}{Q:Bool->Shared->Prop}(hu:A.units<cLine)
  (hl:s.heap.get? l=some { cls:=.type "list",dict:=dd,data:=.seq items.toArray n,slots:=sl }) (hb:s.heap.get? b=some { cls:=.type "list",dict:=dd2,data:=.seq items2.toArray n2,slots:=sl2 })
  (hx:dm items xs) (hy:dm items2 ys) (h:Q (zt xs ys) s):aC (aH prog w) A (oneLt' true (.ref l) (.ref b)) Q E s:=by
 rw [oneLt'_eq]
 simp only [if_true]
 refine af (wpAny_cRoomFor hu ?_)
 refine af (wpAny_callSpecialIfBound?_slot ⟨_,hl,rfl⟩ mX (oa mX ⟨_,hl,rfl⟩ PySem.F.entry_list_lt (PySem.F.args_list_lt_2 _ _) (Ym l b items items2 n n2 dd dd2 sl sl2 hx hy) ⟨hl,hb,?_⟩))
 exact c0 h
theorem QZ {x y:Addr}{ox oy:Obj}{items items2:List ah}{xs ys:List Int}{n k:Nat}{Q:Bool->Shared->Prop}(hx:s.heap.get? x=some ox) (dx:ox.data = .seq items.toArray n) (hy:s.heap.get? y=some oy) (dy:oy.data = .seq items2.toArray k)
  (ix:dm items xs) (iy:dm items2 ys) (h:Q (zt xs ys) s):aC (aH prog w) A (keyLt' (tuples' true) (.ref x) (.ref y)) Q E s:=by
 refine kat_lt hx dx hy dy ?_
 have go:∀(items items2:List ah) (xs ys:List Int) (i:Nat) (fin:Bool),dm items xs->dm items2 ys->(∀m:Nat,xs.length=m+items.length-items.length->True) ->
   fin=decide (items.length<items2.length)->Q (zt xs ys) s->KatLex prog w A true fin Q (items.zip items2) i s:=by
  intro items items2 xs ys i fin a b
  induction a generalizing items2 ys i with
  | nil =>
   intro _ hf hq
   cases b with
   | nil=>subst hf;exact hq
   | cons m u r=>subst hf;exact hq
  | cons m u r ih =>
   intro _ hf hq
   cases b with
   | nil=>subst hf;exact hq
   | cons m' u' r' =>
    refine kat_cons (lJ ?_)
    unfold zt at hq
    by_cases e:m=m'
    ·rw [beq_iff_eq.mpr e]
     rw [if_pos e] at hq
     refine kat_yes (ih _ _ _ r' (λ_ _=>trivial) ?_ hq)
     rw [hf]
     simp
    ·rw [beq_eq_false_iff_ne.mpr e]
     rw [if_neg e] at hq
     refine kat_no ?_
     cases hb:(true && i == 0) with
     | true=>exact oneLt_int hq
     | false=>exact kat_one _ _ (lt_int hq)
 have e:(items.toArray.toList.zip items2.toArray.toList)=items.zip items2:=by simp
 rw [e]
 exact go items items2 xs ys 0 _ ix iy (λ_ _=>trivial) (by simp) h
end
end L2
end
section
namespace L2
open PySem.W
section
variable {prog:Program}{w:b8}{A:br}{E:ah->Shared->Prop}{s:Shared}
theorem vZ (its:List ah):(its.toArray.zip its.toArray).map (·.2)=its.toArray:=by
 apply Array.toList_inj.mp
 rw [pw,ksk_zip]
 show (its.zip its).map sW=its
 rw [px]
 exact ar _
theorem vB (its:List ah):((aK its.length).map λi=>its.getD i b0)=its:=by
 apply lP
 ·simp
 ·intro i h1 h2
  simp at h1
  simp [h1]
theorem Xd {l:Addr}{its:List ah}{κ:rN}{lt:Nat->Nat->Bool}{G:List Nat->Prop}{Q:ah->Shared->Prop}(hl:s.heap.IsList l its.toArray) (h64:its.length<64)
  (hk:2<=its.length->∀h',(∀b o,s.heap.get? b=some o->h'.get? b=some o)->∀Q':rN->Shared->Prop,Q' κ { s with heap:=h' }->aC (aH prog w) A.in1.in1 (keyKind' its.toArray) Q' (λ_ _=>False) { s with heap:=h' })
  (hc:∀h',(∀b o,s.heap.get? b=some o->h'.get? b=some o)->∀i j,i<its.length->j<its.length->∀Q':Bool->Shared->Prop,Q' (lt i j) { s with heap:=h' } ->
   aC (aH prog w) A.in1.in1 (keyLt' κ (its.getD i b0) (its.getD j b0)) Q' (λ_ _=>False) { s with heap:=h' })
  (hs:2<=its.length->qU lt its.length (sX its.length) λp=>qm its.length p/\G p.toList) (h1:its.length<2->G (aK its.length))
  (h:∀(ix:List Nat) (h':Heap) (n:Nat),ix.Perm (aK its.length)->G ix->(∀b o,s.heap.get? b=some o->h'.get? b=some o) ->
   h'.get? (s.heap.objs.size+1)=some (bu "list" (ix.map λi=>its.getD i b0).toArray n)->Q (.ref (s.heap.objs.size+1)) { s with heap:=h' }) :
  aC (aH prog w) A (call (.builtin "sorted") [.ref l]) Q E s:=by
 refine lh pO oP oQ (args_sorted1 _) ?_
 unfold ff.«sorted»
 refine af (m:=rO "sorted" 1 1 _) (wpAny_pure ?_)
 refine af (collect_list hl ?_ (by rw [bN];omega))
 refine af (fH ?_ (by rw [bN];omega))
 have hsz:((s.heap.push (bu "list" #[] 0)).update s.heap.objs.size (aZ (· ++ its.toArray))).objs.size=s.heap.objs.size+1:=by
  rw [eC,om]
 have ho:(((s.heap.push (bu "list" #[] 0)).update s.heap.objs.size (aZ (· ++ its.toArray))).push (bu "list" its.toArray 0)).get? (s.heap.objs.size+1)=some (bu "list" its.toArray 0):=by
  rw [<- hsz];exact aA _ rfl
 have keep:∀b o,s.heap.get? b=some o->(((s.heap.push (bu "list" #[] 0)).update s.heap.objs.size (aZ (· ++ its.toArray))).push (bu "list" its.toArray 0)).get? b=some o:=λb o q=>by
  have hlt:b<s.heap.objs.size:=av q
  rw [cR _ _ _ (by rw [hsz];exact aD (bE hlt)),cf _ _ _ _ (aD hlt),cR _ _ _ (aD hlt)]
  exact q
 show aC _ _ _ _ _ { s with heap:=((s.heap.push (bu "list" #[] 0)).update s.heap.objs.size (aZ (· ++ its.toArray))).push (bu "list" its.toArray 0) }
 rw [hsz]
 refine af (bR (dr mY ⟨_,ho,rfl⟩ my ?body (rP _)))
 case body =>
  generalize hh0:((s.heap.push (bu "list" #[] 0)).update s.heap.objs.size (aZ (· ++ its.toArray))).push (bu "list" its.toArray 0)=h0 at ho keep
  generalize ha:s.heap.objs.size+1=a at ho h
  have aNew:∀b o,s.heap.get? b=some o->b≠a:=λb o q=>by have:=av q;rw [<- ha];exact aD (bE this)
  show aC (aH prog w) A.in1.in1 (ff.«list.sort» ⟨[.ref a],[]⟩) _ _ { s with heap:=h0 }
  rw [pS]
  have hal:a<h0.objs.size:=av ho
  refine af (mf ho rfl ?_)
  refine af (d4 ho rfl ?_ (by rw [ax,bN];omega) (aQ _))
  obtain ⟨e1,ho1⟩:∃e1,(h0.update a (aZ λ_=>(#[]:Array ah))).get? a=some (bu "list" #[] e1):=⟨_,eV ho (λ_=>#[])⟩
  refine af (fi ho1 rfl ?_)
  refine af (iV ?_ (by show its.length<=_;rw [bN];omega))
  refine af (fH ?_ (aQ _))
  refine bR ?_
  have ho6:(((h0.update a (aZ λ_=>(#[]:Array ah))).push (bu "tuple" its.toArray 0)).push (bu "list" #[] 0)).get? a=some (bu "list" #[] e1):=by
   rw [cR _ _ _ (by rw [om,eC];exact aD (bE hal)),cR _ _ _ (by rw [eC];exact aD hal)]
   exact ho1
  have keep6:∀b o,s.heap.get? b=some o->(((h0.update a (aZ λ_=>(#[]:Array ah))).push (bu "tuple" its.toArray 0)).push (bu "list" #[] 0)).get? b=some o:=λb o q =>
   ai _ (ai _ ((cf _ _ _ _ (aNew b o q)).trans (keep b o q)))
  show aC (aH prog w) A.in1.in1 _ _ _ { s with heap:=((h0.update a (aZ λ_=>(#[]:Array ah))).push (bu "tuple" its.toArray 0)).push (bu "list" #[] 0) }
  generalize ((h0.update a (aZ λ_=>(#[]:Array ah))).push (bu "tuple" its.toArray 0)).push (bu "list" #[] 0)=h6 at ho6 keep6
  dsimp only
  have fin:∀(ix:List Nat),ix.Perm (aK its.length)->G ix->∀out:Array ah,out=(ix.map λi=>its.getD i b0).toArray ->
    ∃v,rQ (Flow.ret b0) = .done (.ret v)/\aC (aH prog w) A.in1 (do let _ <- pure v;ret (aV a)) (λfin s'=>∃v,fin = .done (.ret v)/\Q v s') E { s with heap:=h6.update a (aZ λ_=>out) }:=λix hp hg out ho'=>by
   refine ⟨_,rfl,af (wpAny_pure (wpAny_pure ⟨_,rfl,?_⟩))⟩
   subst ho'
   exact h ix _ _ hp hg (λb o q=>(cf _ _ _ _ (aNew b o q)).trans (keep6 b o q)) (eV ho6 λ_=>_)
  by_cases h2:its.toArray.size<2
  ·rw [if_pos h2,if_pos h2]
   refine af (wpAny_pure ?_)
   rw [mz]
   refine af (wpAny_pure ?_)
   dsimp only
   refine af (fi ho6 rfl ?_)
   rw [vZ]
   refine af (d4 ho6 rfl ?_ (aQ _) (by rw [ax,bN];omega))
   simp only [bne_self_eq_false,cp,if_false]
   rw [ax] at h2
   exact wpAny_pure (fin _ (mZ _) (h1 h2) _ (by rw [vB]))
  ·rw [if_neg h2,if_neg h2]
   rw [ax] at h2
   refine af (b9 (hk ∅ h6 keep6 (λκ' s'=>κ'=κ/\s'={ s with heap:=h6 }) ⟨rfl,rfl⟩) (λκ' s' q=>?_) λ_ _ x=>x.elim)
   obtain ⟨rfl,rfl⟩:=q
   refine af (b9 (kat_run (ks:=its) (vs:=its) (κ:=κ') (G:=λp s'=>(qm its.length p/\G p.toList)/\s'={ s with heap:=h6 }) (Q:=λst' s'=>∃p:Array Nat,arrOf st'=p.map (sY (its.toArray.zip its.toArray))/\rR st'=none/\(qm its.length p/\G p.toList)/\s'={ s with heap:=h6 })
    rfl ∅ h64 (λp st' s' a1 a2 a3 a4=>⟨p,a2,a3,a4⟩) (qU.wp (I:=λs'=>s'={ s with heap:=h6 }) (λi j C s' hi hj hI hC=>?_) (λp s' hp hI=>⟨hp,hI⟩) (hs ∅) rfl)) ?_ λ_ _ e=>e)
   ·subst hI
    exact hc h6 keep6 i j hi hj C (hC _ rfl)
   ·rintro ⟨⟨⟩,st'⟩ s' ⟨p,har,hf,⟨hP,hG⟩,rfl⟩
    dsimp only
    have hout:=sZ (ks:=its) (vs:=its) rfl har
    have hz:(oR (p.toList.map λi=>its.getD i b0)).size=its.length:=by rw [ax,aa,bJ,hP.size]
    rw [hout]
    refine af (fi ho6 rfl ?_)
    refine af (d4 ho6 rfl ?_ (aQ _) (by rw [hz,bN];omega))
    rw [hf]
    simp only [bne_self_eq_false,cp,if_false]
    exact wpAny_pure (fin p.toList (by have:=Array.perm_iff_toList_perm.mp hP;simpa using this) hG _ rfl)
end
end L2
end
section
namespace L2
open PySem.W
noncomputable def ud (O:KeyOrd) (key:Nat->O.α) (vs out:List V):Prop:=∃ix:List Nat,ix.Perm (aK vs.length)/\out=(ix.map λi=>vs.getD i V.non)/\(ix.map key).Pairwise O.kle
theorem zv.pairwise {O:KeyOrd}{key:Nat->O.α}{p:Array Nat}{n:Nat}(hs:zv (O:=O) key p n) (hz:p.size=n):(p.toList.map key).Pairwise O.kle:=by
 rw [List.pairwise_iff_getElem]
 intro i j hi hj hij
 simp at hi hj
 have q:=hs i j (cJ hij) ∅
 unfold kp at q
 have e1:p.getD i 0=p[i]:=by simp [oj,hi]
 have e2:p.getD j 0=p[j]:=by simp [oj,hj]
 rw [e1,e2] at q
 simpa using q
theorem Jd:∀{vs:List V}{us:List ah},jB vs us->∀i,jx (vs.getD i V.non) (us.getD i b0)
 | _,_,.nil,_=>rfl
 | _,_,.cons r _,0=>r
 | _,_,.cons _ t,i+1=>Jd t i
theorem uL {vs:List V}{us:List ah}(r:jB vs us):∀ix:List Nat,jB (ix.map λi=>vs.getD i V.non) (ix.map λi=>us.getD i b0)
 | []=>.nil
 | i::ix=>.cons (Jd r i) (uL r ix)
theorem YZ {a b:Int}(h:Ue.kle a b):a<=b:=Int.not_lt.mp (of_decide_eq_false h)
noncomputable def yx (H:Hp) (vs:List V) (rows:List (List Int)):Prop:=ck (λv (r:List Int)=>∃a,v=V.ref a/\H a=some (.lst (r.map V.int))) vs rows
theorem Paired.get {α β:Type}{F:α->β->Prop}:∀{l₁:List α}{l₂:List β}{i:Nat}{x:α},ck F l₁ l₂->l₁[i]? = some x->∃y,l₂[i]? = some y/\F x y
 | _,_,_,_,.nil,e=>by simp at e
 | _,_,0,_,.cons r _,e=>by simp at e;subst e;exact ⟨_,rfl,r⟩
 | _,_,i+1,v,.cons _ t,e=>by
  obtain ⟨d,h1,h2⟩:=Paired.get (i:=i) (x:=v) t (by simpa using e)
  exact ⟨d,by simpa using h1,h2⟩
theorem qG:∀{ns:List Int}{us:List ah},jB (ns.map V.int) us->dm us ns
 | [],_,.nil=>.nil
 | n::ns,_,.cons ⟨t,e⟩ r=>by subst e;exact .cons n t (qG r)
section
variable {X:Cx}
theorem kX (K:aj) (hu:X.A.units+64<cLine) (hK:X.K=K:=by rfl):qE X (.builtin "sorted") (λxs H Q=>∃p vs rows,xs=[.ref p]/\SqL K H p vs/\vs.length<64/\yx H vs rows /\
  ∀l H' out,H l=none->H' l=some (.lst out)->jg H H'->ud wn (λi=>rows.getD i []) vs out->Q (.ref l) H'):=by
 subst hK
 intro pins s σ H xs us Q I r h
 obtain ⟨p,vs,rows,rfl,hq,h64,hr,k⟩:=h
 obtain ⟨u,rfl,ru⟩:=xT r
 cases ru
 obtain ⟨its,rv,pl,hz⟩:=I.list hq
 have hlen:its.length=vs.length:=rv.length.symm
 have item:∀i,i<its.length->∃a its' n,its.getD i b0 = .ref a/\s.heap.get? a=some { cls:=.type "list",data:=.seq its'.toArray n }/\dm its' (rows.getD i []):=λi hi=>by
  have e1:vs[i]? = some (vs[i]'∅):=ae ∅
  obtain ⟨y,e2,a,e3,e4⟩:=Paired.get hr e1
  obtain ⟨u,e5,ru⟩:=rv.get e1
  rw [e3] at ru
  cases ru
  obtain ⟨z,its',n,rv',e6⟩:=I.hok a _ e4
  refine ⟨a,its',n,by rw [ak,e5];rfl,e6,?_⟩
  rw [ak,e2]
  exact qG rv'
 have hun:X.A.in1.in1.units<cLine:=by
  show X.A.units+1+1<cLine
  omega
 refine Xd (κ:=oneType') (lt:=ltK wn λi=>rows.getD i []) (G:=λix=>(ix.map λi=>rows.getD i []).Pairwise wn.kle) pl.isList ∅ (λh2 h' hk' Q' q=>?_) (λh' hk' i j hi hj Q' q=>?_) (λh2=>?_) (λh1=>?_) λix h' n hp hg hk' hn=>?_
 ·refine kas_kind (T:=.type "list") h2 (λv hv=>?_) rfl rfl q
  obtain ⟨i,hi,rfl⟩:=List.mem_iff_getElem.mp hv
  obtain ⟨a,its',n,e1,e2,_⟩:=item i hi
  have e3:its[i] = .ref a:=by rw [<- e1];simp [hi]
  rw [e3]
  exact (show Looks _ h' (sH (.ref a)) _ from (Looks.ld (hk' _ _ e2)).andThen .now)
 ·obtain ⟨a,its',n,e1,e2,e3⟩:=item i hi
  obtain ⟨b,its2,n2,f1,f2,f3⟩:=item j hj
  rw [e1,f1,keyLt'_oneType]
  exact QK hun (hk' _ _ e2) (hk' _ _ f2) e3 f3 q
 ·exact wZ ∅ λp' hP hS=>⟨hP,hS.pairwise hP.size⟩
 ·have hcase:its.length=0\/its.length=1:=∅
  rcases hcase with z | z
  ·rw [z];exact fV
  ·rw [z];exact fM _ _
 ·have hf:H (s.heap.objs.size+1)=none:=I.hok.fresh (dM _)
  refine ⟨.ref _,upd H (s.heap.objs.size+1) (.lst (ix.map λi=>vs.getD i V.non)),I.laid (t':=s.toks) hk' (dM _) ⟨?_,_,n,uL rv ix,hn⟩,rfl,k _ _ _ hf j4 (jg.new hf) ⟨ix,by rw [<- hlen];exact hp,rfl,hg⟩⟩
  rw [aa,hp.length_eq,bF]
  exact aI (by omega:its.length<=1000) ⋯
end
end L2
end
section
namespace L2
open PySem.W
noncomputable abbrev uc (qual:Str) (params:Arguments) (body:Expr) (scope:Scope) (pm:ah) (c:Addr) (ctv:ah):FuncData:=kla_fn "<lambda>" qual params body scope [] pm (.ref c) ctv
noncomputable def Y8 (f:Addr) (fd:FuncData):HO:=.ext λh=>h.get? f=some { cls:=.type "function",data:=.func fd }
noncomputable def Xr (c:Addr) (qual:Str):HO:=.ext λh=>h.CodeRec (.ref c) qual
noncomputable def Tab (H:Hp) (Pt:Addr) (pos:Pos) (qual:Str):Prop:=H Pt=some (.tbl #[])\/∃c',H Pt=some (.tbl #[cg pos.line,cg pos.col,.ref c'])/\H c'=some (Xr c' qual)
theorem Tab.ne {H:Hp}{Pt:Addr}{pos:Pos}{qual:Str}(T:Tab H Pt pos qual):∃ps,H Pt=some (.tbl ps):=by
 rcases T with z | ⟨c',z,_⟩
 ·exact ⟨_,z⟩
 ·exact ⟨_,z⟩
theorem Tab.same {H H':Hp}{Pt:Addr}{pos:Pos}{qual:Str}(T:Tab H Pt pos qual) (s:jg H H'):Tab H' Pt pos qual:=by
 rcases T with z | ⟨c',z,y⟩
 ·exact .inl (s _ _ z)
 ·exact .inr ⟨c',s _ _ z,s _ _ y⟩
theorem Tab.ext {H H':Hp}{Pt b:Addr}{pos:Pos}{qual:Str}{xs:List V}(T:Tab H Pt pos qual) (hb:H b=some (.lst xs)) (e:Ext b H H'):Tab H' Pt pos qual:=by
 rcases T with z | ⟨c',z,y⟩
 ·exact .inl (e _ _ z (jk z hb (by intro q;cases q)))
 ·exact .inr ⟨c',e _ _ z (jk z hb (by intro q;cases q)),e _ _ y (jk y hb (by intro q;cases q))⟩
theorem Tab.extN {H H':Hp}{Pt b:Addr}{pos:Pos}{qual:Str}(T:Tab H Pt pos qual) (hb:H b=none) (e:Ext b H H'):Tab H' Pt pos qual:=T.same λc o h=>e c o h (j1 h hb)
noncomputable def Bm (mg:Str->Option ah) (base:Heap):Prop:=∃bm ob,mg "__builtins__" = some (.ref bm)/\bm≠lV/\base.get? bm=some ob/\ob.cls = .type "module" /\ ob.dict=some lV/\ob.data = .plain
theorem UI {P:Program}{w:b8}{K:aj}{mg:Str->Option ah}{base:Heap}{k:Nat}{f c:Addr}{qual:Str}{params:Arguments}{body:Expr}{scope:Scope}{pm ctv:ah}{N:List Str}{x:Str}{A:br}{outer:List Env}{s:Shared}{H:Hp}{u:ah}{v:V}{Q:VK}{t:TE}
  (ho:s.heap.get? f=some { cls:=.type "function",data:=.func (uc qual params body scope pm c ctv) }) (hcd:s.heap.CodeRec (.ref c) qual) (S:FnScope N [x] scope) (hr:Room (k+1) A) (e0:Env0 P w K mg base A outer s H)
  (hb:∀pm c ctv u,cP (uc qual params body scope pm c ctv) ⟨[u],[]⟩=pure [(x,u)]) (r:jx v u)
  (ht:PE (vx CX0 P w K mg base N qual scope f (.ref c) A outer s H E0).nox body t) (q:t (start N [v]) H Q) :
  cO (aH P w) A (.call (.ref f) ⟨[u],[]⟩) (CR CX0 outer P w H s Q E0) s:=by
 have lim:s.heap.NoLimit:=e0.mod.nolimit.keeps λb o e=>(e0.bs b o e).1
 have hkind:∀y∈([x].zip [u]),scope.names.lookup y.1=some .local\/(scope.names.lookup y.1=some .cell/\((ik (s.heap.objs.size+1) scope.names []).lookup y.1).isSome=true):=λ⟨n,v⟩ hy=>by
  rcases S.par n (iC hy).1 with q | q
  ·exact .inl q
  ·exact .inr ⟨q,fT _ _ _ (.inl q)⟩
 refine kla_callFunE hr.depth ho rfl S.co S.gen rfl hcd ?_
 rw [hb]
 refine wpAny_pure (iS (binds:=[x].zip [u]) S.kind hkind λenv he s1 y=>?_)
 subst he
 refine ⟨lim.keeps y.toInCall.keep,kla_codeExpr ?_⟩
 have I:Inv (vx CX0 P w K mg base N qual scope f (.ref c) A outer s H E0) [] (start N [v]) H s1:=gq S hr.hd e0 rfl (Paired.cons r .nil) y
 refine b9 (ht.nox [] s1 (start N [v]) H _ I q) (λu' s' hs=>?_) λe s' hs=>hs
 obtain ⟨v',H',J,rv,q'⟩:=hs
 exact ⟨v',H',J.os,J.bare,J.base,J.hok,rv,q'⟩
section
variable {X:Cx}{pins:List (Addr×Obj)}{σ:St}{H:Hp}{s:Shared}
theorem V8 {E:ah->Shared->Prop}{c Pt:Addr}{params:Arguments}{body:Expr}{scope:Scope}{pos:Pos}{Q:ah->Shared->Prop}(I:Inv X pins σ H s) (hcode:X.env.code = .ref c) (CH:CodeHd X.base c Pt) (hB:Bm X.mg X.base)
  (hcl:og scope X.env=pure []) (hdef:defaultsOf params X.env=([],[])) (T:Tab H Pt pos (X.env.qual ++ "<lambda>"))
  (k:∀f H' s' pm c' ctv,Inv X pins σ H' s'->H f=none->H' f=some (Y8 f (uc (X.env.qual ++ "<lambda>") params body scope pm c' ctv))->H' c'=some (Xr c' (X.env.qual ++ "<lambda>"))->Ext Pt H H'->Tab H' Pt pos (X.env.qual ++ "<lambda>")->Q (.ref f) s') :
  aC (aH X.prog X.w) X.A (eval (.Lambda params body scope pos) X.env) Q E s:=by
 refine kla_eval hdef ?_
 obtain ⟨bm,ob,b1,b2,b3,b4,b5,b6⟩:=hB
 obtain ⟨ps0,hPt⟩:=T.ne
 have trk:∀{b:Addr} {o:Obj},X.base.get? b=some o->b≠Pt:=λ{b o} e z=>by
  have:=(I.bs b o e).2
  rw [z,hPt] at this;cases this
 have hgN:s.heap.Ns mainGlobals X.mg:=I.ok.mod.glob.keeps I.bk
 have hgP:mainGlobals≠Pt:=by
  obtain ⟨o,es,ep,e,_⟩:=I.ok.mod.glob
  exact trk e
 have hbG:bm≠mainGlobals:=λq=>by
  obtain ⟨o,es,ep,e,hd,_⟩:=I.ok.mod.glob
  rw [q,e] at b3;cases b3;rw [hd] at b6;cases b6
 have hBA:s.heap.BuiltinsAt X.mg Pt:=⟨bm,ob,b1,b2,hbG,trk b3,I.bk _ _ b3,b4,b5,b6⟩
 have LS:∀(f:Addr) (fd:FuncData) (h1 h2:Heap),h1.get? f=some { cls:=.type "function",data:=.func fd }->(∀o,h1.get? f=some o->h2.get? f=some o)->h2.get? f=some { cls:=.type "function",data:=.func fd }:=λf fd h1 h2 e m=>m _ e
 have CS:∀(c:Addr) (q:Str) (h1 h2:Heap),h1.CodeRec (.ref c) q->(∀o,h1.get? c=some o->h2.get? c=some o)->h2.CodeRec (.ref c) q:=λc q h1 h2 ⟨c',o,vs,t,e,g,r⟩ m=>by
  cases e
  exact ⟨c,o,vs,t,rfl,m _ g,r⟩
 rcases T with hT | ⟨c',hT,hC⟩
 ·have eT:s.heap.get? Pt=some (rm #[]):=I.hok Pt _ hT
  refine kla_makeFunction (mg:=X.mg) hcl I.ok.glob hgN hcode (CH.keeps I.bk) eT trivial rfl hgP hBA λc' ctv h' tk hx hge hlt hrec htb=>?_
  have hcN:H c'=none:=I.hok.fresh hge
  have hsz:s.heap.objs.size<=h'.objs.size:=cJ (bS hge hlt)
  have hfN:H h'.objs.size=none:=I.hok.fresh hsz
  have neC:∀{b:Addr} {o:Obj},s.heap.get? b=some o->b≠c':=λ{b o} e=>aD (aJ (av e) hge)
  have neF:∀{b:Addr} {o:Obj},s.heap.get? b=some o->b≠h'.objs.size:=λ{b o} e=>aD (aJ (av e) hsz)
  have hPc:Pt≠c':=neC eT
  have hPf:Pt≠h'.objs.size:=neF eT
  have hcf:c'≠h'.objs.size:=aD hlt
  have e':h'.get? Pt=some (rm #[cg pos.line,cg pos.col,.ref c']):=by simpa using htb
  have getF:∀{b:Addr} {o:HO},H b=some o->b≠Pt->upd (upd (upd H Pt (.tbl #[cg pos.line,cg pos.col,.ref c'])) c' (Xr c' (X.env.qual ++ "<lambda>"))) h'.objs.size (Y8 h'.objs.size (uc (X.env.qual ++ "<lambda>") params body scope ((X.mg "__name__").getD .none) c' ctv)) b=some o:=λ{b o} e n=>by
   rw [j5 (j1 e hfN),j5 (j1 e hcN),j5 n];exact e
  have atP:upd (upd (upd H Pt (.tbl #[cg pos.line,cg pos.col,.ref c'])) c' (Xr c' (X.env.qual ++ "<lambda>"))) h'.objs.size (Y8 h'.objs.size (uc (X.env.qual ++ "<lambda>") params body scope ((X.mg "__name__").getD .none) c' ctv)) Pt=some (.tbl #[cg pos.line,cg pos.col,.ref c']):=by
   rw [j5 hPf,j5 hPc,j4]
  have atC:upd (upd (upd H Pt (.tbl #[cg pos.line,cg pos.col,.ref c'])) c' (Xr c' (X.env.qual ++ "<lambda>"))) h'.objs.size (Y8 h'.objs.size (uc (X.env.qual ++ "<lambda>") params body scope ((X.mg "__name__").getD .none) c' ctv)) c'=some (Xr c' (X.env.qual ++ "<lambda>")):=by
   rw [j5 hcf,j4]
  refine k h'.objs.size (upd (upd (upd H Pt (.tbl #[cg pos.line,cg pos.col,.ref c'])) c' (Xr c' (X.env.qual ++ "<lambda>"))) h'.objs.size (Y8 h'.objs.size (uc (X.env.qual ++ "<lambda>") params body scope ((X.mg "__name__").getD .none) c' ctv))) _ ((X.mg "__name__").getD .none) c' ctv ?_ hfN j4 atC (λb o e n=>getF e n) (.inr ⟨c',atP,atC⟩)
  have kp1:∀b o,b≠Pt->s.heap.get? b=some o->(h'.push (kla_obj "<lambda>" (X.env.qual ++ "<lambda>") params body scope [] ((X.mg "__name__").getD .none) c' ctv)).get? b=some o:=λb o n e=>ai _ (hx b o n e)
  have nP:∀{b:Addr},H b=none->b≠Pt:=λ{b} e z=>by rw [z,hT] at e;cases e
  refine I.step (g':=s.gens) (d':=s.drawn) (ch:=[]) (λ_ z=>nomatch z) (λb o _ _ _ e n=>kp1 b o (nP n) e) (λb o _ _ _ e n=>⟨o.slots,kp1 b o (nP n) e⟩) (λb o _ e n=>?_) (λb o _ e=>?_) (λb xs e=>?_) (λb o u e=>?_) (λb ps e=>?_) (λm hm=>?_) (λb u e=>?_) I.bare
  ·rw [j5 (neF e),j5 (neC e),j5 (nP n)];exact n
  ·by_cases hb:b=Pt
   ·subst hb;exact ⟨_,ai _ e'⟩
   ·exact ⟨o,kp1 b o hb e⟩
  ·exact getF e (jk e hT (by intro z;cases z))
  ·exact getF e (jk e hT (by intro z;cases z))
  ·by_cases hb:b=Pt
   ·subst hb
    rw [hT] at e;cases e
    exact ⟨#[cg pos.line,cg pos.col,.ref c'],by rw [atP];simp⟩
   ·exact ⟨#[],by rw [getF e hb];simp⟩
  ·obtain ⟨o,es,ep,ho,r⟩:=hm
   exact ⟨o,es,ep,kp1 _ o (nP I.free) ho,r⟩
  ·by_cases h1:b=h'.objs.size
   ·subst h1
    rw [j4] at e;cases e
    exact ⟨aA _ rfl,⟨_,aA _ rfl⟩,λh1 h2 e m=>LS _ _ h1 h2 e m⟩
   ·by_cases h2:b=c'
    ·subst h2
     rw [atC] at e;cases e
     obtain ⟨c2,oc,vs,t,e2,hoc,r⟩:=id hrec
     cases e2
     exact ⟨hrec.keeps λb o e=>ai _ e,⟨_,ai _ hoc⟩,λh1 h2 e m=>CS _ _ h1 h2 e m⟩
    ·by_cases h3:b=Pt
     ·subst h3
      rw [atP] at e;cases e
      exact ai _ e'
     ·rw [j5 h1,j5 h2,j5 h3] at e
      refine (I.hok b u e).stay (λb' v hc q=>kp1 b' v ?_ q) (λb' q=>getF q (jk q hT (by intro z;cases z))) λb' xs q=>getF q (jk q hT (by intro z;cases z))
      rcases hc with z | z
      ·rw [z];exact h3
      ·exact jk z hT (by intro z;cases z)
 ·have eT:s.heap.get? Pt=some (rm #[cg pos.line,cg pos.col,.ref c']):=I.hok Pt _ hT
  have tri:TriplesOk (#[cg pos.line,cg pos.col,aV c']:Array ah).toList:=TriplesOk_snoc pos.line pos.col (.ref c') [] trivial
  have hit:codeAmong pos (#[cg pos.line,cg pos.col,aV c']:Array ah).toList=some (.ref c'):=codeAmong_snoc (c:=.ref c') [] trivial rfl
  refine kla_makeFunctionHit (mg:=X.mg) hcl I.ok.glob hgN hcode (CH.keeps I.bk) eT tri hit hBA λctv h' tk hk hsz=>?_
  have hfN:H h'.objs.size=none:=I.hok.fresh hsz
  refine k h'.objs.size (upd H h'.objs.size (Y8 h'.objs.size (uc (X.env.qual ++ "<lambda>") params body scope ((X.mg "__name__").getD .none) c' ctv))) _ ((X.mg "__name__").getD .none) c' ctv ?_ hfN j4 (by rw [j5 (j1 hC hfN)];exact hC) (Ext.new hfN) (.inr ⟨c',by rw [j5 (j1 hT hfN)];exact hT,by rw [j5 (j1 hC hfN)];exact hC⟩)
  exact I.laid (λb o e=>ai _ (hk b o e)) hsz ⟨aA _ rfl,⟨_,aA _ rfl⟩,λh1 h2 e m=>LS _ _ h1 h2 e m⟩
theorem Inv.adopt {D:Addr}{ob:Obj}{o:HO}{h':Heap}{t':Nat}(I:Inv X ((D,ob)::pins) σ H s) (h1:X.s₀.heap.objs.size<=D) (h2:∀x c,X.env.cells.lookup x=some c->c≠D) (h3:∀p∈X.pn++pins,p.1≠D)
  (k:∀b u,b≠D->s.heap.get? b=some u->h'.get? b=some u) (new:qg X.prog X.w (upd H D o) h' D o):Inv X pins σ (upd H D o) { s with heap:=h',toks:=t' }:=by
 obtain ⟨eD,nD,lD,_,_⟩:=I.pin (D,ob) (aE _ aG)
 have I':Inv X pins σ H s:=I.pins_of λp hp=>I.pin p (aE _ (az _ hp))
 have nit:∀b u,H b=some u->b≠D:=λb u e z=>by rw [z,nD] at e;cases e
 have getF:∀{b:Addr} {u:HO},H b=some u->upd H D o b=some u:=λ{b u} e=>by rw [j5 (nit b u e)];exact e
 refine I'.step (g':=s.gens) (d':=s.drawn) (ch:=[D]) (λb hb=>?_) (λb o _ _ hc e _=>k b o (λz=>hc (by simp [z])) e) (λb o _ _ hc e _=>⟨o.slots,k b o (λz=>hc (by simp [z])) e⟩) (λb o hc _ n=>by rw [j5 (λz=>hc (by simp [z]))];exact n)
  (λb o hc e=>⟨o,k b o (λz=>hc (by simp [z])) e⟩) (λ_ _ e=>getF e) (λ_ _ _ e=>getF e) (λb ps e=>⟨#[],by rw [getF e];simp⟩) (λm hm=>?_) (λb u e=>?_) I'.bare
 ·have e:b=D:=by simpa using hb
  subst e
  exact ⟨.inr h1,lD,h2,h3⟩
 ·obtain ⟨o,es,ep,ho,r⟩:=hm
  exact ⟨o,es,ep,k _ o (cA lD) ho,r⟩
 ·by_cases hb:b=D
  ·subst hb
   rw [j4] at e;cases e
   exact new
  ·rw [j5 hb] at e
   refine (I'.hok b u e).stay (λc v hc q=>k c v ?_ q) (λ_ q=>getF q) λ_ _ q=>getF q
   rcases hc with z | z
   ·rw [z];exact hb
   ·exact nit c _ z
end
end L2
end
section
namespace L2
open PySem.W
noncomputable def G3 (H:Hp) (ks:List V) (keyf:Nat->List Int) (j:Nat):Prop:=ks.length=j/\∀i,i<j->∃q,ks[i]? = some (V.ref q)/\H q=some (.tup ((keyf i).map V.int))
theorem QA {a b:List ah}(h:a.length=b.length):(a.toArray.zip b.toArray).map (·.2)=b.toArray:=by
 apply Array.toList_inj.mp
 rw [pw,ksk_zip]
 show (a.zip b).map sW=b
 rw [px]
 omega
section
variable {X:Cx}{pins:List (Addr×Obj)}{σ:St}{H:Hp}{s:Shared}
theorem Qp {E:ah->Shared->Prop}{p f:Addr}{vs:List V}{keyf:Nat->List Int}{Q:ah->Shared->Prop}(I:Inv X pins σ H s) (hq:SqL X.K H p vs) (h64:vs.length<64) (hne:∀i,i<vs.length->keyf i≠[])
  (hcall:∀i v,vs[i]? = some v->∀pins' s' H' u,Inv X pins' σ H' s'->jg H H'->jx v u->aC (aH X.prog X.w) X.A.in1.in1 (call (.ref f) [u]) (EP X pins' σ λkv H''=>jg H' H''/\∃q,kv = .ref q/\H'' q=some (.tup ((keyf i).map V.int))) (λ_ _=>False) s')
  (k:∀l H' out s',Inv X pins σ H' s'->H l=none->H' l=some (.lst out)->jg H H'->ud wn keyf vs out->Q (.ref l) s') :
  aC (aH X.prog X.w) X.A (call (.builtin "sorted") [.ref p] [(ao "key",.ref f)]) Q E s:=by
 obtain ⟨its,rv,pl,hz⟩:=I.list hq
 have hlen:its.length=vs.length:=rv.length.symm
 refine call_function_entry_kw pO oP oQ (ksk_s1 _ _) ?_
 unfold ff.«sorted»
 refine af (m:=rO "sorted" 1 1 _) (wpAny_pure ?_)
 refine af (collect_list pl.isList ?_ (by rw [bN];omega))
 refine af (fH ?_ (by rw [bN];omega))
 have hsz:((s.heap.push (bu "list" #[] 0)).update s.heap.objs.size (aZ (· ++ its.toArray))).objs.size=s.heap.objs.size+1:=by
  rw [eC,om]
 have ho:(((s.heap.push (bu "list" #[] 0)).update s.heap.objs.size (aZ (· ++ its.toArray))).push (bu "list" its.toArray 0)).get? (s.heap.objs.size+1)=some (bu "list" its.toArray 0):=by
  rw [<- hsz];exact aA _ rfl
 have keep:∀b o,s.heap.get? b=some o->(((s.heap.push (bu "list" #[] 0)).update s.heap.objs.size (aZ (· ++ its.toArray))).push (bu "list" its.toArray 0)).get? b=some o:=λb o q=>by
  have hlt:b<s.heap.objs.size:=av q
  rw [cR _ _ _ (by rw [hsz];exact aD (bE hlt)),cf _ _ _ _ (aD hlt),cR _ _ _ (aD hlt)]
  exact q
 show aC _ _ _ _ _ { s with heap:=((s.heap.push (bu "list" #[] 0)).update s.heap.objs.size (aZ (· ++ its.toArray))).push (bu "list" its.toArray 0) }
 rw [hsz]
 refine af (bR (wpAny_call_entry_kw mY ⟨_,ho,rfl⟩ my ?body (ksk_l1 _ _)))
 case body =>
  generalize ((s.heap.push (bu "list" #[] 0)).update s.heap.objs.size (aZ (· ++ its.toArray))).push (bu "list" its.toArray 0)=h0 at ho keep
  generalize ha:s.heap.objs.size+1=a at ho
  have hDs:s.heap.objs.size<=a:=by rw [<- ha];exact dM _
  have aNew:∀b o,s.heap.get? b=some o->b≠a:=λb o q=>by have:=av q;rw [<- ha];exact aD (bE this)
  show aC (aH X.prog X.w) X.A.in1.in1 (ff.«list.sort» ⟨[.ref a],[(ao "key",.ref f)]⟩) _ _ { s with heap:=h0 }
  rw [ksk_t1]
  unfold ksk_tree
  have hal:a<h0.objs.size:=av ho
  refine af (mf ho rfl ?_)
  refine af (d4 ho rfl ?_ (by rw [ax,bN];omega) (aQ _))
  obtain ⟨e1,ho1⟩:∃e1,(h0.update a (aZ λ_=>(#[]:Array ah))).get? a=some (bu "list" #[] e1):=⟨_,eV ho (λ_=>#[])⟩
  refine af (fi ho1 rfl ?_)
  refine af (iV ?_ (by show its.length<=_;rw [bN];omega))
  refine af (fH ?_ (aQ _))
  refine bR ?_
  have ho5:((h0.update a (aZ λ_=>(#[]:Array ah))).push (bu "tuple" its.toArray 0)).get? a=some (bu "list" #[] e1):=ai _ ho1
  have keep5:∀b o,s.heap.get? b=some o->((h0.update a (aZ λ_=>(#[]:Array ah))).push (bu "tuple" its.toArray 0)).get? b=some o:=λb o q =>
   ai _ ((cf _ _ _ _ (aNew b o q)).trans (keep b o q))
  show aC (aH X.prog X.w) X.A.in1.in1 (ksk_rest a (.ref f) false its.toArray e1 (.ref ((h0.update a (aZ λ_=>(#[]:Array ah))).push (bu "tuple" its.toArray 0)).objs.size)) _ _
   { s with heap:=((h0.update a (aZ λ_=>(#[]:Array ah))).push (bu "tuple" its.toArray 0)).push (bu "list" #[] 0) }
  generalize (h0.update a (aZ λ_=>(#[]:Array ah))).push (bu "tuple" its.toArray 0)=h5 at ho5 keep5
  have I5:Inv X pins σ H { s with heap:=h5,toks:=s.toks }:=I.kept keep5
  have hHa:H a=none:=I.hok.fresh hDs
  have hHk:H h5.objs.size=none:=I5.hok.fresh (ar _)
  have hLoc:a≠X.env.locals:=λz=>by
   obtain ⟨m,⟨o,es,ep,e,_⟩,_⟩:=I.loc
   exact aNew _ _ e z.symm
  have hFs:a∉X.fs:=I.nofs hDs
  have hCell:∀x c,X.env.cells.lookup x=some c->c≠a:=λx c e=>by
   obtain ⟨v,o,e2,_⟩:=I.cell x c e
   exact aNew c o e2
  have hPins:∀q∈X.pn++pins,q.1≠a:=λq hq=>aNew _ _ (I.pin q hq).1
  have I6:Inv X ((a,bu "list" #[] e1)::pins) σ (upd H h5.objs.size (.lst [])) { s with heap:=h5.push (bu "list" #[] 0),toks:=s.toks }:=by
   refine Inv.pins_of (I5.lnew (its:=[]) (ys:=[]) .nil (aQ _)) λq hq=>?_
   rcases List.mem_cons.mp hq with rfl | hq
   ·refine ⟨ai _ ho5,?_,hLoc,hFs,λv=>by intro z;cases z⟩
    rw [j5 (aD (av ho5))]
    exact hHa
   ·have J:=(I5.lnew (its:=[]) (ys:=[]) (t':=s.toks) .nil (aQ _)).pin q (aE _ hq)
    exact J
  unfold ksk_rest
  refine af (fI ?_)
  first
   | rw [List.forIn_toArray]
   | (rw [<- oo];simp only [List.toList_toArray])
   | rw [<- oo]
  refine af (ksk_fold (λj s'=>∃H' ks,Inv X ((a,bu "list" #[] e1)::pins) σ H' s'/\jg H H'/\H' h5.objs.size=some (.lst ks)/\G3 H' ks keyf j) its 0 _
   ⟨_,[],I6,jg.new hHk,j4,rfl,λi hi=>absurd hi (mB _)⟩ (λj x s' hx hJ=>?_) λs' hJ=>?_)
  ·-- a key
   rw [mh] at hJ ⊢
   obtain ⟨H',ks,J,sm,hk,hl,hks⟩:=hJ
   have hj:j<its.length:=(List.getElem?_eq_some_iff.mp hx).1
   have hv:vs[j]? = some (vs[j]'∅):=ae ∅
   obtain ⟨u,e5,ru⟩:=rv.get hv
   rw [hx] at e5
   cases e5
   refine af (nO (b9 (hcall j _ hv _ s' H' x J sm ru) (λkv s'' hk2=>?_) λ_ _ hF=>hF.elim))
   obtain ⟨kv',H'',J2,rk,sm2,q,rfl,hqq⟩:=hk2
   dsimp only
   have hk':=sm2 _ _ hk
   obtain ⟨z,itk,n,rvk,hlk,ek⟩:=J2.lstM hk'
   refine af (d4 ek rfl ?_ (by rw [ax,<- hlk,hl,bN];omega) (aI (oG (Array.size_push ..)) (by rw [ax,<- hlk,hl,bN];omega)))
   refine wpAny_pure ⟨rfl,_,ks++[.ref q],J2.lset (t':=s''.toks) (its':=itk++[kv]) hk' ek (by simp) (rvk.append (.cons rk .nil)) (by rw [aw,bj,hl];exact aI (by omega:j+1<=1000) ⋯),λb o e=>?_,j4,?_,λi hi=>?_⟩
   ·rw [j5 (j1 e hHk)]
    exact sm2 _ _ (sm _ _ e)
   ·rw [aw,bj,hl]
   ·by_cases hij:i<j
    ·obtain ⟨q',e6,e7⟩:=hks i hij
     refine ⟨q',by rw [cx ∅];exact e6,?_⟩
     have e8:=sm2 _ _ e7
     rw [j5 (jk e8 hk' (by intro z;cases z))]
     exact e8
    ·have:i=j:=∅
     subst this
     refine ⟨q,by rw [cn ∅,hl];simp,?_⟩
     rw [j5 (jk hqq hk' (by intro z;cases z))]
     exact hqq
  ·-- behind the keys
   rw [mh] at hJ
   obtain ⟨H',ks,J,sm,hk,hl,hks⟩:=hJ
   obtain ⟨z,itk,n,rvk,hlk,ek⟩:=J.lstM hk
   have hlk':itk.length=its.length:=∅
   refine af (mf ek rfl ?_)
   obtain ⟨eD,nD,_⟩:=J.pin (a,bu "list" #[] e1) (aE _ aG)
   have hak:a≠h5.objs.size:=λz=>by rw [z,hk] at nD;cases nD
   have keyAt:∀i,i<its.length->∃q itq o m,itk.getD i b0 = .ref q/\s'.heap.get? q=some o/\o.cls = .type "tuple" /\ o.data = .seq itq.toArray m/\dm itq (keyf i):=λi hi=>by
    obtain ⟨q,e6,e7⟩:=hks i hi
    obtain ⟨u,e8,ru⟩:=rvk.get e6
    cases ru
    obtain ⟨zz,itq,rq,o,e9,ec,m,ed⟩:=J.hok q _ e7
    exact ⟨q,itq,o,m,by rw [ak,e8];rfl,e9,ec,ed,qG rq⟩
   have fin:∀(ix:List Nat) (st':SortSt),ix.Perm (aK its.length)->(ix.map keyf).Pairwise wn.kle->rR st'=none->(arrOf st').map (·.2)=(ix.map λi=>its.getD i b0).toArray ->
     aC (aH X.prog X.w) X.A.in1.in1 (ksk_tail a false e1 (.ref h5.objs.size) st') (λfin s'=>∃v,fin = .done (.ret v)/\aC (aH X.prog X.w) X.A.in1 (do let _ <- pure v;ret (aV a)) (λfin s'=>∃v,fin = .done (.ret v)/\Q v s') E s') E s':=by
    intro ix st' hp hg hf hout
    unfold ksk_tail
    dsimp only
    rw [hout]
    have hol:(ix.map λi=>its.getD i b0).length<64:=by rw [aa,hp.length_eq,bF];omega
    refine af (d4 ek rfl ?_ (by rw [ax,hlk',bN];omega) (aQ _))
    refine af (fj ?_)
    have J2:Inv X ((a,bu "list" #[] e1)::pins) σ (upd H' h5.objs.size (.lst [])) { s' with heap:=s'.heap.update h5.objs.size (aZ λ_=>(#[]:Array ah)),toks:=s'.toks }:=J.lset (its':=[]) (ys:=[]) hk ek rfl .nil (aQ _)
    have eD2:(s'.heap.update h5.objs.size (aZ λ_=>(#[]:Array ah))).get? a=some (bu "list" #[] e1):=(cf _ _ _ _ hak).trans eD
    refine af (fi eD2 rfl ?_)
    refine af (d4 eD2 rfl ?_ (aQ _) (by simp only [cp,if_false];rw [ax,bN];omega))
    rw [hf]
    simp only [bne_self_eq_false,cp,if_false]
    refine wpAny_pure ⟨_,rfl,af (wpAny_pure (wpAny_pure ⟨_,rfl,?_⟩))⟩
    have eo:∃n,((s'.heap.update h5.objs.size (aZ λ_=>(#[]:Array ah))).update a (aZ λ_=>(ix.map λi=>its.getD i b0).toArray)).get? a=some (bu "list" (ix.map λi=>its.getD i b0).toArray n):=⟨_,eV eD2 λ_=>_⟩
    obtain ⟨n',eo⟩:=eo
    have J3:=J2.adopt (o:=.lst (ix.map λi=>vs.getD i V.non)) (t':=s'.toks) (aI I.sz hDs) hCell hPins
     (h':=(s'.heap.update h5.objs.size (aZ λ_=>(#[]:Array ah))).update a (aZ λ_=>(ix.map λi=>its.getD i b0).toArray)) (λb u n e=>(cf _ _ _ _ n).trans e) ⟨by rw [aa,hp.length_eq,bF];exact aI (by omega:its.length<=1000) ⋯,_,n',uL rv ix,eo⟩
    refine k a _ _ _ J3 hHa j4 (λb o e=>?_) ⟨ix,by rw [<- hlen];exact hp,rfl,hg⟩
    rw [j5 (j1 e hHa),j5 (j1 e hHk)]
    exact sm _ _ e
   unfold ksk_end
   dsimp only
   simp only [cp,if_false]
   by_cases h2:its.toArray.size<2
   ·rw [if_pos h2,if_pos h2]
    refine af (wpAny_pure ?_)
    rw [mz]
    refine af (wpAny_pure ?_)
    dsimp only
    rw [ax] at h2
    refine fin (aK its.length) _ (mZ _) ?_ rfl ?_
    ·have hcase:its.length=0\/its.length=1:=∅
     rcases hcase with z | z
     ·rw [z];exact fV
     ·rw [z];exact fM _ _
    ·rw [vB]
     exact QA hlk'
   ·rw [if_neg h2,if_neg h2]
    rw [ax] at h2
    have tups:∃fs,KatTups s'.heap itk fs/\0<fs.length/\∀v∈fs,Looks (aH X.prog X.w) s'.heap (sH v) (.type "int"):=by
     have go:∀(l:List ah),(∀i,i<l.length->∃q itq o m ns,l.getD i b0 = .ref q/\s'.heap.get? q=some o/\o.cls = .type "tuple" /\ o.data = .seq (oR itq) m/\dm itq ns/\ns≠[]) ->
       ∃fs,KatTups s'.heap l fs/\fs.length=l.length/\∀v∈fs,Looks (aH X.prog X.w) s'.heap (sH v) (.type "int"):=by
      intro l
      induction l with
      | nil=>intro _;exact ⟨[],.nil,rfl,λ_ h=>nomatch h⟩
      | cons v l ih =>
       intro h
       obtain ⟨fs,t,e,lk⟩:=ih λi hi=>h (i+1) (by rw [b7];omega)
       obtain ⟨q,itq,o,m,ns,e1,e2,e3,e4,e5,e6⟩:=h 0 (by rw [b7];omega)
       have e1':v = .ref q:=e1
       subst e1'
       cases e5 with
       | nil=>exact absurd rfl e6
       | cons n t' r =>
        refine ⟨.int n t'::fs,KatTups.cons e2 e3 e4 (by simp) t,by rw [b7,b7,e],λv hv=>?_⟩
        rcases List.mem_cons.mp hv with rfl | hv
        ·exact sr rfl
        ·exact lk v hv
     obtain ⟨fs,t,e,lk⟩:=go itk λi hi=>by
      obtain ⟨q,itq,o,m,a1,a2,a3,a4,a5⟩:=keyAt i ∅
      exact ⟨q,itq,o,m,keyf i,a1,a2,a3,a4,a5,hne i ∅⟩
     exact ⟨fs,t,∅,lk⟩
    obtain ⟨fs,t,hfs,lk⟩:=tups
    refine af (kat_kind (T:=.type "int") t hfs lk rfl ?_)
    rw [show (dP "int" != dP "tuple")=true from rfl]
    refine af (b9 (kat_run (ks:=itk) (vs:=its) (κ:=tuples' true) (G:=λp s2=>(qm its.length p/\(p.toList.map keyf).Pairwise wn.kle)/\s2=s') (Q:=λst' s2=>∃p:Array Nat,arrOf st'=p.map (sY (itk.toArray.zip its.toArray))/\rR st'=none/\(qm its.length p/\(p.toList.map keyf).Pairwise wn.kle)/\s2=s')
     hlk' ∅ ∅ (λp st' s' a1 a2 a3 a4=>⟨p,a2,a3,a4⟩) (qU.wp (lt:=ltK wn keyf) (n:=its.length) (I:=λs2=>s2=s') (λi j C s2 hi hj hI hC=>?_) (λp s2 hp hI=>⟨hp,hI⟩) (wZ ∅ λp' hP hS=>⟨hP,hS.pairwise hP.size⟩) rfl)) ?_ λ_ _ e=>e)
    ·subst hI
     obtain ⟨q,itq,o,m,a1,a2,a3,a4,a5⟩:=keyAt i hi
     obtain ⟨q',itq',o',m',b1,b2,b3,b4,b5⟩:=keyAt j hj
     unfold kas_ask
     rw [a1,b1]
     exact QZ a2 a4 b2 b4 a5 b5 (hC _ rfl)
    ·rintro ⟨⟨⟩,st'⟩ s2 ⟨p,har,hf,⟨hP,hG⟩,rfl⟩
     dsimp only
     exact fin p.toList st' (by have:=Array.perm_iff_toList_perm.mp hP;simpa using this) hG hf (sZ hlk' har)
end
end L2
end
section
namespace L2
open PySem.W
section
variable {prog:Program}{w:b8}{A:br}{E:ah->Shared->Prop}{s:Shared}
theorem Xo (n:Nat):fA none none (-1) (n:Int)=((n:Int)-1,-1):=by
 unfold fA
 simp
theorem Xf (n:Nat):dB ((n:Int)-1) (-1) (-1)=n:=by
 unfold dB
 have h1:¬((-1:Int) > 0):=⋯
 simp only [h1,if_false]
 by_cases h:n=0
 ·subst h;simp
 ·rw [show (- -1:Int)=1 by decide]
  simp only [Int.ediv_one]
  split <;> omega
theorem uC {sl:Addr}{v3:ah}{n:Nat}{Q:Int×Int×Nat->Shared->Prop}(hs:s.heap.IsSliceOf sl .none .none v3) (pk:rJ v3 (some (-1)))
  (h:Q ((n:Int)-1,-1,n) s):aC (aH prog w) A (iW (.ref sl) (pure (n:Int))) Q E s:=by
 obtain ⟨os,hos,hcs,hds⟩:=id hs
 unfold iW Builtin.Slice.sliceFields
 refine af (af (bW hos hds (x:=.none) rfl (af (bW hos hds (x:=.none) rfl (af (bW hos hds (x:=v3) rfl (wpAny_pure ?_)))))))
 refine af (HT.slicePart_ pk ?_)
 show aC _ _ (if ((-1:Int) == 0)=true then _ else _) _ _ s
 rw [if_neg ⋯]
 refine af (HT.slicePart_ .none (af (HT.slicePart_ .none (af (wpAny_pure ?_)))))
 show aC _ _ (match fA none none (-1) (n:Int) with | (lo,hi)=>pure (lo,(-1:Int),dB lo hi (-1))) _ _ s
 rw [Xo n]
 show aC _ _ (pure ((n:Int)-1,(-1:Int),dB ((n:Int)-1) (-1) (-1))) _ _ s
 rw [Xf]
 exact wpAny_pure h
theorem VF (xs:Array ah):((aK xs.size).filterMap λ(m:Nat)=>xs[(((xs.size:Int)-1)+(m:Int) * -1).toNat]?).toArray=xs.toList.reverse.toArray:=by
 have e:((aK xs.size).filterMap λ(m:Nat)=>xs[(((xs.size:Int)-1)+(m:Int) * -1).toNat]?)=((aK xs.size).map λk=>xs.size-1-k).filterMap (xs[·]?):=by
  rw [List.filterMap_map]
  congr 1
  funext m
  show xs[(((xs.size:Int)-1)+(m:Int) * -1).toNat]? = xs[xs.size-1-m]?
  congr 1
  omega
 rw [e,krv_range,List.filterMap_reverse,krv_all]
theorem vP {t sl:Addr}{items:Array ah}{v3:ah}{Q:ah->Shared->Prop}(ht:IsTup s.heap t items) (hs:s.heap.IsSliceOf sl .none .none v3) (pk:rJ v3 (some (-1)))
  (h:Q (.ref s.heap.objs.size) { s with heap:=s.heap.push { cls:=.type "tuple",data:=.seq items.toList.reverse.toArray } }) (hsz:items.size<=sizeLine):aC (aH prog w) A (lq (.ref t) (.ref sl)) Q E s:=by
 have htake:sizeOk (.seq items.toList.reverse.toArray):=by
  show items.toList.reverse.toArray.size<=sizeLine
  rw [ax,iL,bJ]
  exact hsz
 obtain ⟨os,hos,hcs,hds⟩:=id hs
 have hTs:s.TypeIs (.ref sl) "slice":=⟨os,hos,hcs⟩
 unfold lq
 try with_reducible refine bR ?_
 first | refine af (wpAny_pure ?_) | skip
 refine af (wpAny_sequenceKey ht.typeIs ⋯ ?_)
 refine af (d9 (name:=ao "__getitem__") ht.typeIs ia
  (dr ia ht.typeIs entry_tuple_getitem ?_ (args_tuple_getitem _ _)))
 show aC _ _ (Builtin.Tuple.tupleItemsOf (.ref t) >>= _) _ _ s
 refine af (tupleItemsOf_ ht ?_)
 refine af (oS hTs ?_)
 rw [if_pos ⋯]
 refine af (uC hs pk ?_)
 show aC _ _ (if (((items.size:Int)-1) == 0 && (-1:Int) == 1 && items.size == items.size)=true then _ else _) _ _ s
 rw [if_neg (by simp),VF]
 first
  | exact af (m:=dS _) (c3 (wpAny_pure ⟨_,rfl,wpAny_pure h⟩) htake)
  | exact af (m:=dS _) (c3 (af (wpAny_pure (wpAny_pure ⟨_,rfl,wpAny_pure h⟩))) htake)
  | exact af (af (m:=dS _) (c3 (wpAny_pure (wpAny_pure ⟨_,rfl,wpAny_pure h⟩)) htake))
  | exact af (af (m:=dS _) (c3 (wpAny_pure ⟨_,rfl,wpAny_pure h⟩) htake))
end
section
variable {X:Cx}{e:Expr}{te:TE}{pos p2 p3 p4:Pos}{j3:Nat}
noncomputable def GF (K:aj) (te:TE):TE:=λσ H Q=>te σ H λx H2=>∃a xs,x = .ref a/\SqT K H2 a xs/\New H2 (.tup xs.reverse) Q
noncomputable def GB (K:aj) (te:TE):TE:=λσ H Q=>te σ H λx H2=>∃a xs,x = .ref a/\SqL K H2 a xs/\New H2 (.lst xs.reverse) Q
theorem UB (K:aj) (he:PE X e te) (hK:X.K=K:=by rfl):PE X (.Subscript e (.Slice none none (some (.UnaryOp .USub (.Constant (.int 1) j3 p3) p4)) p2) pos) (GF K te):=by
 subst hK
 intro pins s σ H Q I h
 refine m7 (thn (he pins s σ H _ I h) λv s1 ⟨x,H1,I1,r1,q1⟩=>?_)
 refine pM ?_
 rw [lE]
 refine wpAny_pure ?_
 refine wpAny_pure ?_
 rw [nM]
 obtain ⟨a,xs,rfl,hx,q⟩:=q1
 refine thn (vq zM j8 pins s1 σ H1 (λy H2=>y = .int (-1)/\H2=H1) I1 ⟨_,rfl,rfl,rfl⟩) λu s3 ⟨y,H3,I3,ry,ey,eH⟩=>?_
 subst ey eH
 obtain ⟨tk,rfl⟩:=ry
 cases r1
 have I4:Inv X pins σ H3 { s3 with heap:=s3.heap.push { cls:=.type "slice",data:=.fields #[.none,.none,.int (-1) tk] } }:=I3.kept (t':=s3.toks) λb ob q=>ai _ q
 obtain ⟨its,r,ht,hz⟩:=I4.tuple hx
 have hlen:its.toArray.size=xs.length:=by rw [ax];exact r.length.symm
 show aC (aH X.prog X.w) X.A (iq e (.Slice none none (some (.UnaryOp .USub (.Constant (.int 1) j3 p3) p4)) p2) (.ref a) (.ref s3.heap.objs.size)) (EP X pins σ Q) X.xe { s3 with heap:=s3.heap.push { cls:=.type "slice",data:=.fields #[.none,.none,.int (-1) tk] } }
 refine sS (ops:=[.ref a,.ref s3.heap.objs.size]) ht.typeIs PyProof.Rows.slot_tuple_getitem.lookup ?_ (by with_unfolding_all rfl)
 refine vP ht (iT ..) (.int _ _) ?_ (by rw [hlen];exact hz)
 have hf:=I4.hok.fresh (ar _)
 refine ⟨.ref _,_,I4.laid (t':=s3.toks) (o:=.tup xs.reverse) (λb ob q=>ai _ q) (ar _) ?_,rfl,q.at _ hf⟩
 exact ⟨by rw [iL];exact hz,_,r.reverse,IsTup.new _ _⟩
theorem U9 (K:aj) (he:PE X e te) (hK:X.K=K:=by rfl):PE X (.Subscript e (.Slice none none (some (.UnaryOp .USub (.Constant (.int 1) j3 p3) p4)) p2) pos) (GB K te):=by
 subst hK
 intro pins s σ H Q I h
 refine m7 (thn (he pins s σ H _ I h) λv s1 ⟨x,H1,I1,r1,q1⟩=>?_)
 refine pM ?_
 rw [lE]
 refine wpAny_pure ?_
 refine wpAny_pure ?_
 rw [nM]
 obtain ⟨a,xs,rfl,hx,q⟩:=q1
 refine thn (vq zM j8 pins s1 σ H1 (λy H2=>y = .int (-1)/\H2=H1) I1 ⟨_,rfl,rfl,rfl⟩) λu s3 ⟨y,H3,I3,ry,ey,eH⟩=>?_
 subst ey eH
 obtain ⟨tk,rfl⟩:=ry
 cases r1
 have I4:Inv X pins σ H3 { s3 with heap:=s3.heap.push { cls:=.type "slice",data:=.fields #[.none,.none,.int (-1) tk] } }:=I3.kept (t':=s3.toks) λb ob q=>ai _ q
 obtain ⟨its,r,ht,hz⟩:=I4.list hx
 have hlen:its.length=xs.length:=r.length.symm
 show aC (aH X.prog X.w) X.A (iq e (.Slice none none (some (.UnaryOp .USub (.Constant (.int 1) j3 p3) p4)) p2) (.ref a) (.ref s3.heap.objs.size)) (EP X pins σ Q) X.xe { s3 with heap:=s3.heap.push { cls:=.type "slice",data:=.fields #[.none,.none,.int (-1) tk] } }
 refine sS (ops:=[.ref a,.ref s3.heap.objs.size]) ht.isList.typeIs slot_list_getitem.lookup ?_ (by with_unfolding_all rfl)
 refine lF ht.isList (iT ..) .none .none (.int _ _) ⋯ ?_ (by rw [ax];omega)
 rw [krv_pick]
 have hf:=I4.hok.fresh (ar _)
 refine ⟨.ref _,_,I4.laid (t':=s3.toks) (o:=.lst xs.reverse) (λb ob q=>ai _ q) (ar _) ?_,rfl,q.at _ hf⟩
 exact ⟨by rw [iL];exact hz,_,0,r.reverse,aA _ rfl⟩
end
theorem SqL.extT {K:aj}{Pt a:Addr}{H H':Hp}{xs:List V}{ps:Array ah}(hp:H Pt=some (.tbl ps)) (x:Ext Pt H H') (h:SqL K H a xs):SqL K H' a xs:=by
 rcases h with (h | ⟨o,h⟩) | h
 ·exact .inl (.inl (x _ _ h (jk h hp (by intro z;cases z))))
 ·exact .inl (.inr ⟨o,x _ _ h (jk h hp (by intro z;cases z))⟩)
 ·exact .inr h
section
variable {X:Cx}{e body:Expr}{ta:TA}{tb:TE}{params:Arguments}{scope:Scope}{lpos kpos p pos:Pos}{N:List Str}{x:Str}{c Pt:Addr}{k:Nat}
noncomputable def G1 (K:aj) (Pt:Addr) (lpos:Pos) (qual:Str) (N:List Str) (ta:TA) (tb:TE):TE:=λσ H Q=>ta σ H λxs H1=>Tab H1 Pt lpos qual/\∃(p:Addr) (vs:List V) (keyf:Nat->List Int),xs=[.ref p]/\SqL K H1 p vs/\vs.length<64/\(∀i,i<vs.length->keyf i≠[]) /\
 (∀H2,Ext Pt H1 H2->∀i v,vs[i]? = some v->tb (start N [v]) H2 λkv H3=>jg H2 H3/\∃q,kv = .ref q/\H3 q=some (.tup ((keyf i).map V.int))) /\
 ∀l H2 out,H1 l=none->H2 l=some (.lst out)->Ext Pt H1 H2->Tab H2 Pt lpos qual->ud wn keyf vs out->Q (.ref l) H2
theorem XQ (hg:Gl X "sorted") (hm:X.mg "sorted" = none) (ha:PA X [e] ta) (hcode:X.env.code = .ref c) (CH:CodeHd X.base c Pt) (hB:Bm X.mg X.base) (hr:Room (k+3) X.A) (S:FnScope N [x] scope)
  (hb:∀pm c ctv u,cP (uc (X.env.qual ++ "<lambda>") params body scope pm c ctv) ⟨[u],[]⟩=pure [(x,u)])
  (hbody:∀f c' s H,PE (vx CX0 X.prog X.w X.K X.mg X.base N (X.env.qual ++ "<lambda>") scope f (.ref c') X.A.in1.in1 X.stack s H E0).nox body tb)
  (hcl:og scope X.env=pure []:=by rfl) (hdef:defaultsOf params X.env=([],[]):=by rfl)
  (he:cz pos (aN [e] X.env)=(false,eval e X.env)::cz pos (aN [] X.env):=by rfl) (hplain:(cz pos (aN [e] X.env)).any (·.1)=false:=by rfl) :
  PE X (.Call (.Name "sorted" p) [e] [⟨some (ao "key"),.Lambda params body scope lpos,kpos⟩] pos) (G1 X.K Pt lpos (X.env.qual ++ "<lambda>") N ta tb):=by
 intro pins s σ H Q I h
 refine cY (zK I hg hm n5 ?_ ⋯ ⋯)
 refine callWith_kw (thn (ha pos pins s σ H _ I h) λus s1 ⟨vs,H1,I1,r,q⟩=>?_) he hplain
 show aC _ _ (evalAll ((do let v <- eval (.Lambda params body scope lpos) X.env;fg pos;pure v)::[])) _ _ s1
 obtain ⟨T,a,xs,keyf,e1,hx,h64,hne,hkey,hq⟩:=q
 subst e1
 obtain ⟨u0,rfl,ru⟩:=xT r
 cases ru
 obtain ⟨ps0,hPt⟩:=T.ne
 refine oq (af (V8 I1 hcode CH hB hcl hdef T λf H2 s2 pm c' ctv I2 hf hf2 hc2 X2 T2=>af (cF (wpAny_pure (oU ?_)))))
 show aC _ _ (call (.builtin "sorted") [.ref a] [(ao "key",.ref f)]) _ _ s2
 refine Qp I2 (SqL.extT hPt X2 hx) h64 hne (λi v hv pins' s' H' u I' sm ru=>?_) λl H3 out s' I3 hl hl3 sm hs=>?_
 ·have X3:Ext Pt H1 H':=X2.trans (Ext.of_same sm)
  obtain ⟨ho,_⟩:=I'.hok f _ (sm _ _ hf2)
  obtain ⟨hcd,_⟩:=I'.hok c' _ (sm _ _ hc2)
  refine lZ (dJ (UI (k:=k) ho hcd S (hr.in1.in1) I'.env0.in1.in1 hb ru (hbody f c' s' H') (hkey H' X3 i v hv)) λr s'' hq=>?_)
  cases r with
  | error e=>exact bH hq
  | ok fl =>
   cases fl with
   | ret u=>exact I'.after hq
   | next=>exact bH hq
   | brk=>exact bH hq
   | cont=>exact bH hq
 ·exact ⟨.ref l,H3,I3,rfl,hq l H3 out (X2.free hl (λz=>by rw [z] at hl;obtain ⟨p2,z2⟩:=T2.ne;rw [z2] at hl;cases hl)) hl3 (X2.trans (Ext.of_same sm)) (T2.same sm) hs⟩
end
end L2
end
section
namespace L2
open PySem.W
theorem ZT {P:Program}{w:b8}{K:aj}{mg mb:Str->Option ah}{k:Nat}{fa a c Pt:Addr}{fd:FuncData}{x:Str}{sp:Sp}{s₁:Shared}{vs:List ah}{ns:List Int}
  (KX:K.In s₁.heap) (hns:s₁.heap.Ns mainGlobals mg) (hb:s₁.heap.Ns lV mb) (hbb:∀x:Str,x ≠ "__name__" -> mb x=fP x) (hlim:s₁.heap.NoLimit) (hg:s₁.gens = #[])
  (ha:s₁.heap.get? a=some { cls:=.type "list",data:=.seq vs.toArray }) (hi:dm vs ns) (hl:ns.length<=sizeLine) (hr:Room k nv)
  (hPt:s₁.heap.get? Pt=some (rm #[])) (hKP:K.lookup Pt=none) (CH:CodeHd s₁.heap c Pt) (hB:Bm mg s₁.heap)
  (F:∀base:Heap,K.In base->base.Ns mainGlobals mg->Bm mg base->FnOk P w K mg base CX0 k fa fd [x] sp) (hbind:∀(s:Shared) (u:ah),pY s fd ⟨[u],[]⟩ [(x,u)])
  (hsp:∀H:Hp,SqL K H a (ns.map V.int)->H Pt=some (.tbl #[])->sp [.ref a] H (λv _=>v = .bl true) λ_ _ _=>False) :
  cO (aH P w) nv (.call (.ref fa) ⟨[.ref a],[]⟩) (λr s'=>r = .ok (.ret (.bool true))/\OldK s₁.heap s'.heap/\s'.os=s₁.os/\ip s'.gens) s₁:=by
 have rv:=uB hi
 have lenV:=hi.length
 have core:∀H:Hp,H Pt=some (.tbl #[])->(∀b,b≠Pt->H b=none\/∃o xs,H b=some (.frz o (.lst xs)))->SqL K H a (ns.map V.int)->HOk P w H s₁.heap->(∀b,H b≠none->b=a\/b=Pt)->(H a≠none->K.lookup a=none) ->
   cO (aH P w) nv (.call (.ref fa) ⟨[.ref a],[]⟩) (λr s'=>r = .ok (.ret (.bool true))/\OldK s₁.heap s'.heap/\s'.os=s₁.os/\ip s'.gens) s₁:=by
  intro H hP hO hS hok hA hK
  have base_of:∀{b:Addr} {o:Obj},s₁.heap.get? b=some o->H b=none->(hU s₁.heap H).get? b=some o:=λe n=>Vf e n
  have noA:∀{b:Addr} {o:Obj},s₁.heap.get? b=some o->(∀xs n,o.data≠.seq xs n)->(∀vs,o.data = .fields vs->o.cls≠.none)->H b=none:=λ{b o} e d1 d2=>by
   cases q:H b with
   | none=>rfl
   | some u =>
    rcases hA b (by rw [q];simp) with e' | e'
    ·subst e'
     rw [ha] at e;cases e
     exact absurd rfl (d1 _ _)
    ·subst e'
     rw [hPt] at e;cases e
     exact absurd rfl (d2 _ rfl)
  have noD:∀{b:Addr} {o:Obj} {es:Array DictEntry} {ep:Nat},s₁.heap.get? b=some o->o.data = .dict es ep->H b=none:=λ{b o es ep} e d =>
   noA e (λxs n z=>by rw [d] at z;cases z) (λvs z=>by rw [d] at z;cases z)
  have nsK:∀{b:Addr} {m:Str->Option ah},s₁.heap.Ns b m->(hU s₁.heap H).Ns b m:=λ{b m} ⟨o,es,ep,e,d,r⟩=>⟨o,es,ep,base_of e (noD e d),d,r⟩
  have hKb:K.In (hU s₁.heap H):=λb o e=>base_of (KX b o e) (by
   cases q:H b with
   | none=>rfl
   | some u =>
    rcases hA b (by rw [q];simp) with e' | e'
    ·subst e'
     rw [hK (by rw [q];simp)] at e;cases e
    ·subst e'
     rw [hKP] at e;cases e)
  have hBb:Bm mg (hU s₁.heap H):=by
   obtain ⟨bm,ob,b1,b2,b3,b4,b5,b6⟩:=hB
   exact ⟨bm,ob,b1,b2,base_of b3 (noA b3 (λxs n z=>by rw [b6] at z;cases z) λvs z=>by rw [b6] at z;cases z),b4,b5,b6⟩
  have hM:Mod K mg (hU s₁.heap H):=⟨hKb,nsK hns,⟨mb,nsK hb,hbb⟩,let ⟨mc,h1,h2⟩:=hlim;⟨mc,nsK h1,h2⟩⟩
  have e0:Env0 P w K mg (hU s₁.heap H) nv [] s₁ H:=⟨rfl,hM,λb o e=>Uy e,oG (Y9 _ _),trivial,λb hb=>absurd (show b∈([]:List Addr) from hb) (by simp),hok,.of_eq hg⟩
  refine dJ ((F _ hKb (nsK hns) hBb).run nv [] s₁ H ⟨[.ref a],[]⟩ [.ref a] [.ref a] _ _ hr e0 (hbind s₁ (.ref a)) (.cons rfl .nil) (hsp H hS hP)) λr s' h=>?_
  cases r with
  | error e=>exact bH h
  | ok fl =>
   cases fl with
   | next=>exact bH h
   | brk=>exact bH h
   | cont=>exact bH h
   | ret u =>
    obtain ⟨v,H',os,bare,un,hok',r',q⟩:=h
    have q':v = .bl true:=q
    subst q'
    obtain rfl:u=lU true:=r'
    have kp:∀b o,b≠Pt->s₁.heap.get? b=some o->s'.heap.get? b=some o:=λb o hb e=>by
     cases q:H b with
     | none=>exact un.keep b o e q (by intro z;exact absurd (show b∈([]:List Addr) from z) (by simp)) (by simp)
     | some u =>
      rcases hO b hb with z | ⟨ob,xs,z⟩
      ·rw [q] at z;cases z
      ·have z2:=un.frzs b ob _ z
       obtain ⟨e1,_⟩:=hok b _ z
       obtain ⟨e2,_⟩:=hok' b _ z2
       rw [e] at e1;cases e1
       exact e2
    obtain ⟨more,hm⟩:=un.tbls Pt _ hP
    have hm':s'.heap.get? Pt=some { cls:=.none,data:=.fields (#[]++more) }:=hok' Pt _ hm
    refine ⟨rfl,⟨λb o e=>?_,λb o e=>?_⟩,os,bare⟩
    ·by_cases hb:b=Pt
     ·subst hb
      rw [hPt] at e;cases e
      exact .inr (.inl ⟨(CH.tab hPt).isCodeTable,rfl,#[],more,rfl,hm'⟩)
     ·exact .inl (kp b o hb e)
    ·by_cases hb:b=Pt
     ·subst hb;exact ⟨_,hm'⟩
     ·exact ⟨o,kp b o hb e⟩
 have haP:a≠Pt:=λz=>by rw [z,hPt] at ha;cases ha
 cases hk:K.lookup a with
 | some o =>
  have e:=KX a o hk
  rw [ha] at e
  cases e
  refine core (λb=>if b=Pt then some (.tbl #[]) else none) (if_pos rfl) (λb hb=>.inl (if_neg hb)) (.inr ⟨_,vs.toArray,_,hk,rfl,rfl,rfl,by rw [ax,lenV];exact hl,by simpa using rv⟩) (λb u z=>?_) (λb z=>?_) λz=>absurd (if_neg haP) z
  ·by_cases hb:b=Pt
   ·have z':=(if_pos hb).symm.trans z
    cases z'
    subst hb
    exact hPt
   ·have z':=(if_neg hb).symm.trans z
    cases z'
  ·by_cases hb:b=Pt
   ·exact .inr hb
   ·exact absurd (if_neg hb) z
 | none =>
  refine core (λb=>if b=Pt then some (.tbl #[]) else if b=a then some (.frz { cls:=.type "list",data:=.seq vs.toArray } (.lst (ns.map V.int))) else none) (if_pos rfl) (λb hb=>?_)
   (.inl (.inr ⟨{ cls:=.type "list",data:=.seq vs.toArray },(if_neg haP).trans (if_pos rfl)⟩)) (λb u z=>?_) (λb z=>?_) λ_=>hk
  ·by_cases hb2:b=a
   ·exact .inr ⟨_,_,(if_neg hb).trans (if_pos hb2)⟩
   ·exact .inl ((if_neg hb).trans (if_neg hb2))
  ·by_cases hb:b=Pt
   ·have z':=(if_pos hb).symm.trans z
    cases z'
    subst hb
    exact hPt
   ·by_cases hb2:b=a
    ·have z':=((if_neg hb).trans (if_pos hb2)).symm.trans z
     cases z'
     subst hb2
     exact ⟨ha,by rw [aa];exact hl,vs,_,rv,ha⟩
    ·have z':=((if_neg hb).trans (if_neg hb2)).symm.trans z
     cases z'
  ·by_cases hb:b=Pt
   ·exact .inr hb
   ·by_cases hb2:b=a
    ·exact .inl hb2
    ·exact absurd ((if_neg hb).trans (if_neg hb2)) z
noncomputable def XE (K:aj) (Pt:Addr):Sp:=λvs H Q _=>∃(a:Addr) (ns:List Int),vs=[.ref a]/\SqL K H a (ns.map V.int)/\ns.length<=63/\H Pt=some (.tbl #[])/\∀H',Q (.bl true) H'
theorem Ud {l:pT}{q:Program}{loose:List Str}{XP:(Str->Option ah)->Heap->Prop}{YP:b8->Heap->Prop}{d:DefRec}{K:rg->aj}(k:Nat) (c Pt:Addr) (hr:Room k nv) (hn:l.most=some 63) (hdf:d.params.defaults=[])
  (hY:∀(w:b8) (h:Heap),YP w h->(K w.params).In h/\h.get? Pt=some (rm #[])) (hKP:∀p:rg,(K p).lookup Pt=none) (hC:∀p:rg,codeHdIn (K p) c Pt=true)
  (F:∀(w:b8) (mg:Str->Option ah) (fa:Addr) (h:Heap),(K w.params).In h->h.Ns mainGlobals mg->mg d.name=some (.ref fa) ->
   ∃fd:FuncData,(∀(s:Shared) (u:ah),pY s fd ⟨[u],[]⟩ [("_law_script",u)])/\∀base:Heap,(K w.params).In base->base.Ns mainGlobals mg->Bm mg base->FnOk l.prog w (K w.params) mg base CX0 k fa fd ["_law_script"] (XE (K w.params) Pt)) :
  PySem.W.WalkO q loose XP YP l.row.toRowW d [] (λf vs=>PySem.call f vs):=by
 refine Att.attach_call hn hdf λw s₀ s₁ mg mb fa o pm cd doc a vs ns G Y ho hd hcd hmg hobj hints hlen hg=>?_
 obtain ⟨KX,hT⟩:=hY w _ Y
 obtain ⟨fd,hb,hF⟩:=F w mg fa _ KX G.T.g hmg
 exact ZT (c:=c) KX G.T.g G.T.b G.T.builtins G.T.nolimit hg hobj hints (aI hlen ⋯) hr hT (hKP w.params) (codeHd_of_K KX (hC w.params)) G.T.bmain hF hb λH hS hP=>⟨a,ns,rfl,hS,hlen,hP,λ_=>rfl⟩
theorem Fun.okC {P:Program}{w:b8}{K:aj}{mg:Str->Option ah}{base:Heap}{x qual:Str}{st:Stmt}{f c:Addr}{oc:ah}{od an:Option Addr}{osl:Array (Option ah)}{kV doc pm ct:ah}{N ps:List Str}{k:Nat}{sp:Sp}
  (l:K.lookup f=some ⟨oc,od,.func (bL x qual (jW st) (jP st) (j7 st) .none kV doc pm an (.ref c) ct),osl⟩) (cd:cQ K (.ref c) qual=true) (S:FnScope N ps (j7 st)) (len:∀vs H Q E,sp vs H Q E->vs.length=ps.length)
  (hbody:∀(A:br) (outer:List Env) (s:Shared) (H:Hp) (vs:List V) (Q:VK) (E:XK),Room k (A.deeper (lC qual (j7 st) s.heap.objs.size f (.ref c)))->sp vs H Q E ->
   ∃t,PSs (vx CX0 P w K mg base N qual (j7 st) f (.ref c) A outer s H E).nox (jP st) t/\t { nx:=λ_ H'=>Q .non H',rt:=Q } (start N vs) H) :
  FnOk P w K mg base CX0 (k+1) f (bL x qual (jW st) (jP st) (j7 st) .none kV doc pm an (.ref c) ct) ps sp:=by
 refine VB l cd S len λA outer s H vs Q E hr hsp=>?_
 obtain ⟨t,h,q⟩:=hbody A outer s H vs Q E hr hsp
 exact ⟨t,h.nox,q⟩
theorem Cal.mkC {P:Program}{w:b8}{K:aj}{mg:Str->Option ah}{base:Heap}{k:Nat}{x:Str}{ps:List Str}{sp:Sp}{st:Stmt}{h:Heap}{f c:Addr}{oc:ah}{od an:Option Addr}{osl:Array (Option ah)}{kV doc pm ct:ah}
  (X:K.In h) (G:h.Ns mainGlobals mg) (a:aU K mainGlobals x=some (some (.ref f)))
  (l:K.lookup f=some ⟨oc,od,.func (bL x x (jW st) (jP st) (j7 st) .none kV doc pm an (.ref c) ct),osl⟩) (cd:cQ K (.ref c) x=true) (k':c6 K (.ref f)=true)
  (hb:∀(kV doc pm:ah) (an:Option Addr) (cdv ct:ah) (us:List ah),us.length=ps.length->cP (bL x x (jW st) (jP st) (j7 st) .none kV doc pm an cdv ct) ⟨us,[]⟩=pure (ps.zip us))
  (ok:FnOk P w K mg base CX0 k f (bL x x (jW st) (jP st) (j7 st) .none kV doc pm an (.ref c) ct) ps sp):Cal P w K mg base k x ps sp:=by
 have F:=vA (st:=st) l cd k'
 exact ⟨f,_,ok,F.binds hb,bw X G a,k'⟩
end L2
end
section
namespace L2
open PySem.W
noncomputable def Ite (K:aj) (a:Addr):It :=
 ⟨λi H=>∃xs x,SqL K H a xs/\xs[i]? = some x,λi H v H'=>∃t x,v = .ref t/\H t=none/\H'=upd H t (.tup [.int i,x])/\∀xs,SqL K H a xs->xs[i]? = some x,λi H=>∃xs,SqL K H a xs/\xs.length<=i⟩
theorem Yd {P:Program}{w:b8}{K:aj}{es:List Expr}{x1:Nat}{pos:Pos}(a e it:Addr) (hne:e≠it):Turn P w K (.Tuple es x1 pos) (Ite K a) [e,it] e (λi h=>∃old,IsEnum h e it i old/\h.IsListIter it a i) where
 mem:=by simp
 obj:=λi h ⟨old,st1,st2⟩ b hb=>by
  rcases List.mem_cons.mp hb with rfl | hb
  ·exact ⟨_,st1,λv z=>by
    have z':fK _=lM v:=z
    cases z'⟩
  ·have e:b=it:=by simpa using hb
   subst e
   obtain ⟨o,e,c,d⟩:=st2
   exact ⟨o,e,λv z=>by rw [d] at z;cases z⟩
 keep:=λi h h' ⟨old,st1,st2⟩ k=>⟨old,k e (by simp) _ st1,st2.at λo z=>k it (by simp) o z⟩
 item:=by
  intro X hP hw hK hc i pins s σ H E I hf st hg
  subst hP hw hK
  obtain ⟨old,st1,st2⟩:=st
  obtain ⟨xs,x,hq,hx⟩:=hg
  obtain ⟨its,rv,p,hz⟩:=I.list hq
  obtain ⟨u,hu,ru⟩:=rv.get hx
  obtain ⟨f0,f1,f2,f3,f4,f5⟩:=hf e (by simp)
  obtain ⟨g0,g1,g2,g3,g4,g5⟩:=hf it (by simp)
  have hn:H s.heap.objs.size=none:=I.hok.fresh (ar _)
  refine wpAny_pyNext_enum_item st1 st2 p.isList (x:=u) (by simpa using hu) hne λh' o1 o2 o3 o4 o5=>⟨_,rfl,?_⟩
  refine wpAny_letOwnedTupleGo_enum o1 λh2 q1 sb=>?_
  have hel:e<s.heap.objs.size:=av st1
  have kk:∀b o,b≠e->b≠it->s.heap.get? b=some o->h2.get? b=some o:=λb o n1 n2 z=>(sb.2 b n1).trans (o5 b o n1 n2 z)
  have et:h2.get? s.heap.objs.size=some { cls:=.type "tuple",data:=.seq #[.int i s.toks,u] }:=(sb.2 _ (c5 hel)).trans o3
  have tne:∀b o,H b=some o->b≠e/\b≠it/\b≠s.heap.objs.size:=λb o q=>⟨λz=>(by rw [z,f0] at q;cases q),λz=>(by rw [z,g0] at q;cases q),λz=>(by rw [z,hn] at q;cases q)⟩
  have getF:∀{b:Addr} {o:HO},H b=some o->upd H s.heap.objs.size (.tup [.int i,x]) b=some o:=λ{b o} q=>by rw [j5 (tne b o q).2.2];exact q
  have I1:Inv X pins σ (upd H s.heap.objs.size (.tup [.int i,x])) { s with heap:=h2,toks:=s.toks+1 }:=by
   refine I.step (g':=s.gens) (d':=s.drawn) (ch:=[e,it]) (λb hb=>?_) (λb o _ _ hc z _=>kk b o (λy=>hc (by simp [y])) (λy=>hc (by simp [y])) z) (λb o _ _ hc z _=>⟨o.slots,kk b o (λy=>hc (by simp [y])) (λy=>hc (by simp [y])) z⟩)
    (λb o hc z n=>by rw [j5 (aD (av z))];exact n) (λb o hc z=>⟨o,kk b o (λy=>hc (by simp [y])) (λy=>hc (by simp [y])) z⟩) (λ_ _ q=>getF q) (λ_ _ _ q=>getF q) (λb ps q=>⟨#[],by rw [getF q];simp⟩) (λm hm=>?_) (λb v q=>?_) I.bare
   ·rcases List.mem_cons.mp hb with rfl | hb
    ·exact ⟨f3,f1,f4,f5⟩
    ·have e:b=it:=by simpa using hb
     subst e
     exact ⟨g3,g1,g4,g5⟩
   ·obtain ⟨o,es,ep,ho,r⟩:=hm
    exact ⟨o,es,ep,kk _ o (cA f1) (cA g1) ho,r⟩
   ·by_cases hb:b=s.heap.objs.size
    ·subst hb
     rw [j4] at q;cases q
     exact ⟨by show 2<=sizeLine;decide,[.int i s.toks,u],.cons ⟨_,rfl⟩ (.cons ru .nil),⟨_,et,rfl,0,rfl⟩⟩
    ·rw [j5 hb] at q
     refine (I.hok b v q).stay (λc o hc z=>kk c o ?_ ?_ z) (λ_ z=>getF z) λ_ _ z=>getF z
     ·rcases hc with z | z
      ·rw [z];exact (tne b v q).1
      ·exact (tne c _ z).1
     ·rcases hc with z | z
      ·rw [z];exact (tne b v q).2.1
      ·exact (tne c _ z).2.1
  have st2':h2.IsListIter it a (i+1):=o2.at λo z=>(sb.2 it (cA hne)).trans z
  refine ⟨.ref s.heap.objs.size,_,I1,rfl,⟨_,x,rfl,hn,rfl,λys hy=>by rw [I.list_inj hy hq];exact hx⟩,⟨u,?_,st2'⟩,λb hb=>?_⟩
  ·have:((i+1:Nat):Int)=(i:Int)+1:=by push_cast;rfl
   rw [this]
   exact q1
  ·rcases List.mem_cons.mp hb with rfl | hb
   ·rw [j5 (aD hel)];exact f0
   ·have e:b=it:=by simpa using hb
    subst e
    obtain ⟨o,z,_⟩:=st2
    rw [j5 (aD (av z))];exact g0
 done:=by
  intro X hP hw hK hc i pins s σ H E I hf st hg
  subst hP hw hK
  obtain ⟨old,st1,st2⟩:=st
  obtain ⟨xs,hq,hx⟩:=hg
  obtain ⟨its,rv,p,hz⟩:=I.list hq
  obtain ⟨g0,g1,g2,g3,g4,g5⟩:=hf it (by simp)
  have hl:=rv.length
  exact wpAny_pyNext_enum_end (I.ok.hd hc) st1 st2 p.isList (by simp;omega) λh' eb=>⟨rfl,I.turned (t':=s.toks) (λb o hb e=>eb b o hb e) g0 g1 g3 g4 g5⟩
 self:=λ_ _ _ _ _ ⟨old,st1,_⟩ h=>oV st1 h
section
variable {X:Cx}
noncomputable def GL (K:aj) (ta:TA):TI:=λσ H R=>ta σ H λvs H1=>∃a,vs=[.ref a]/\(∃xs,SqL K H1 a xs)/\R (Ite K a) H1
theorem Jh {es:List Expr}{x1:Nat}{tpos:Pos}{l:Expr}{ta:TA}{p pos:Pos}(K:aj) (hg:Gl X "enumerate") (hm:X.mg "enumerate" = none) (ha:PA X [l] ta) (hs:aN [l] X.env=[(false,eval l X.env)]:=by rfl) (hK:X.K=K:=by rfl) :
  PI X (.Tuple es x1 tpos) (.Call (.Name "enumerate" p) [l] [] pos) (GL K ta):=by
 subst hK
 intro pins s σ H R I h
 refine tf (zK I hg hm boot_enumerate (cj (thn (ha pos pins s σ H _ I h) λus s1 ⟨vs,H1,I1,r1,q1⟩=>?_) hs rfl))
 obtain ⟨a,e,⟨xs,hq⟩,q⟩:=q1
 subst e
 obtain ⟨u,rfl,ru⟩:=xT r1
 cases ru
 obtain ⟨its,rv,pl,hz⟩:=I1.list hq
 refine call_enumerate_list pl.isList λh' i1 i2 i3 kk=>?_
 refine oV i1 ?_
 have I2:Inv X pins σ H1 { s1 with heap:=h',toks:=s1.toks }:=I1.kept kk
 refine ⟨_,[s1.heap.objs.size+1,s1.heap.objs.size],_,_,H1,rfl,I2,Yd a _ _ (by exact Nat.succ_ne_self _),⟨.none,i1,i2⟩,λb hb=>?_,q⟩
 rcases List.mem_cons.mp hb with rfl | hb
 ·exact I1.fpOk (dM _) (I1.hok.fresh (dM _))
 ·have e:b=s1.heap.objs.size:=by simpa using hb
  subst e
  exact I1.fpOk (ar _) (I1.hok.fresh (ar _))
end
theorem Y2 {K:aj}{a acc:Addr}{xs:List V}{g:TG}{ti:TT}{te:TE}{R:Hp->Prop}{σ:St}{H:Hp}(Pv:Nat->St->Hp->Prop) (h0:Pv 0 σ H) (hl:∀i σ H,i<=xs.length->Pv i σ H->SqL K H a xs)
  (hs:∀i x σ H t,xs[i]? = some x->Pv i σ H->H t=none->g (.ref t) σ (upd H t (.tup [.int i,x])) λσ3 H3=>ti σ3 H3 λok H4=>if ok=true then te σ3 H4 λv H5=>∃ys,H5 acc=some (.lst ys)/\ys.length<sizeLine/\Pv (i+1) σ3 (upd H5 acc (.lst (ys++[v]))) else Pv (i+1) σ3 H4)
  (hd:∀σ H,Pv xs.length σ H->R H) :
  ∃W:Nat->Nat->St->Hp->Prop,(∃m,W 0 m σ H)/\∀i m σ' H',W i m σ' H' ->
   ((Ite K a).stop i H'/\R H')\/((Ite K a).go i H'/\∃NX:St->Hp->Prop,(∀σ2 H2,NX σ2 H2->∃m',m'<m/\W (i+1) m' σ2 H2) /\
    ∀x H2,(Ite K a).yld i H' x H2->g x σ' H2 λσ3 H3=>ti σ3 H3 λok H4=>if ok=true then te σ3 H4 λv H5=>∃ys,H5 acc=some (.lst ys)/\ys.length<sizeLine/\NX σ3 (upd H5 acc (.lst (ys++[v]))) else NX σ3 H4):=by
 refine ⟨λi m σ H=>m=xs.length-i/\i<=xs.length/\Pv i σ H,⟨xs.length,by simp,aQ _,h0⟩,?_⟩
 rintro i m σ H ⟨rfl,hi,p⟩
 have q:=hl i σ H hi p
 by_cases hlt:i<xs.length
 ·refine .inr ⟨⟨xs,xs[i],q,by simp [hlt]⟩,Pv (i+1),λσ' H' p'=>⟨xs.length-(i+1),∅,rfl,hlt,p'⟩,λv H' y=>?_⟩
  obtain ⟨t,x,rfl,hn,rfl,y⟩:=y
  exact hs i x σ H t (y xs q) p hn
 ·have e:i=xs.length:=∅
  subst e
  exact .inl ⟨⟨xs,q,ar _⟩,hd σ H p⟩
theorem QO {K:aj}{a:Addr}{xs:List V}{g:TG}{tb:TS}{D:Ends}{σ:St}{H:Hp}(Pv:Nat->St->Hp->Prop) (h0:Pv 0 σ H) (hl:∀i σ H,i<=xs.length->Pv i σ H->SqL K H a xs)
  (hs:∀i x σ H t,xs[i]? = some x->Pv i σ H->H t=none->g (.ref t) σ (upd H t (.tup [.int i,x])) λσ2 H2=>tb { D with nx:=Pv (i+1),ct:=Pv (i+1),bk:=D.nx } σ2 H2) (hd:∀σ H,Pv xs.length σ H->D.nx σ H) :
  ∃W:Nat->Nat->St->Hp->Prop,(∃m,W 0 m σ H)/\∀i m σ H,W i m σ H ->
   ((Ite K a).stop i H/\D.nx σ H)\/((Ite K a).go i H/\∃N:St->Hp->Prop,(∀σ' H',N σ' H'->∃m',m'<m/\W (i+1) m' σ' H')/\∀x H',(Ite K a).yld i H x H'->g x σ H' λσ2 H2=>tb { D with nx:=N,ct:=N,bk:=D.nx } σ2 H2):=by
 refine ⟨λi m σ H=>m=xs.length-i/\i<=xs.length/\Pv i σ H,⟨xs.length,by simp,aQ _,h0⟩,?_⟩
 rintro i m σ H ⟨rfl,hi,p⟩
 have q:=hl i σ H hi p
 by_cases hlt:i<xs.length
 ·refine .inr ⟨⟨xs,xs[i],q,by simp [hlt]⟩,Pv (i+1),λσ' H' p'=>⟨xs.length-(i+1),∅,rfl,hlt,p'⟩,λv H' y=>?_⟩
  obtain ⟨t,x,rfl,hn,rfl,y⟩:=y
  exact hs i x σ H t (y xs q) p hn
 ·have e:i=xs.length:=∅
  subst e
  exact .inl ⟨⟨xs,q,ar _⟩,hd σ H p⟩
end L2
end
section
namespace L2
open PySem.W
theorem J8:∀(l:List Int),(∀n∈l,0<=n/\n<=2 ^ 20)->0<=l.sum/\l.sum<=2 ^ 20*l.length
 | [],_=>by simp
 | n::l,h=>by
  have ih:=J8 l λm hm=>h m (az _ hm)
  have h0:=h n aG
  rw [cG,b7]
  constructor
  ·omega
  ·push_cast
   omega
section
variable {X:Cx}
theorem Qq (K:aj) (hc:X.calm=true) (hK:X.K=K:=by rfl):qE X (.builtin "sum") (λxs H Q=>∃(p:Addr) (ns:List Int),xs=[.ref p]/\SqL K H p (ns.map V.int)/\ns.length<=1000/\(∀n∈ns,0<=n/\n<=2 ^ 20)/\Q (.int ns.sum) H):=by
 subst hK
 intro pins s σ H xs us Q I r h
 obtain ⟨p,ns,rfl,hq,hl,hb,q⟩:=h
 obtain ⟨u,rfl,ru⟩:=xT r
 cases ru
 obtain ⟨its,rv,pl,hz⟩:=I.list hq
 have hI:=qG rv
 have hlen:=hI.length
 have hne:p≠s.heap.objs.size:=by
  obtain ⟨o,n,e,_⟩:=id pl
  exact aD (av e)
 refine su (d8 pl.isList ?_)
 refine ⟨s.heap.objs.size,_,_,_,_,_,λi=>ns.getD i 0,rfl,oi (show (X.A.in1).handled=none from I.ok.hd hc) s.heap.objs.size p hne its.toArray,⟨⟨_,aA _ rfl,rfl,rfl⟩,pl.isList.at λo e=>ai _ e⟩,?_,?_,?_,?_⟩
 ·intro b hb'
  have hps:p<s.heap.objs.size:=by
   obtain ⟨o,n,e,_⟩:=id pl
   exact av e
  show b<(s.heap.push _).objs.size
  rw [bK]
  rcases List.mem_cons.mp hb' with rfl | hb'
  ·exact cX _
  ·have e:b=p:=by simpa using hb'
   subst e
   exact bE hps
 ·intro i v hP
  have hP':its[i]? = some v:=by simpa using hP
  have hi:i<its.length:=(List.getElem?_eq_some_iff.mp hP').1
  obtain ⟨t,e⟩:=ux hI hi
  rw [e] at hP'
  refine ⟨t,?_⟩
  show v=eY (ns.getD i 0) t
  rw [ak,ae ∅]
  exact (aM hP').symm
 ·intro j hj
  have hj':j<ns.length:=by
   have:its.toArray.size=its.length:=by simp
   omega
  constructor
  ·show InLong (ns.getD j 0)
   rw [ak,ae hj']
   have:=hb _ (bP hj')
   show -(2 ^ 63)<=ns[j]/\ns[j]<2 ^ 63
   omega
  ·rw [n6]
   have:=J8 (ns.take (j+1)) λn hn=>hb n (dN hn)
   have hl2:(ns.take (j+1)).length<=1000:=by rw [aF];omega
   show -(2 ^ 63)<=_/\_<2 ^ 63
   omega
 ·intro h' tk t' hk
  rw [n6,bp (by simp;omega)]
  refine ⟨.int ns.sum,H,I.kept (t':=tk) λb o eo=>hk b o (by
   intro z
   have:=List.mem_singleton.mp z
   subst this
   exact absurd (av eo) (cc _)) (ai _ eo),⟨t',rfl⟩,q⟩
theorem zo (K:aj) (h:X.K=K:=by rfl):qE X (.type "tuple") (λxs H Q=>∃p ys,xs=[.ref p]/\SqL K H p ys/\New H (.tup ys) Q):=by
 subst h
 exact gf.weak λ_ _ _ ⟨p,ys,h1,h2,q⟩=>⟨p,ys,h1,.inl ⟨h2,q.at⟩⟩
end
end L2
end
section
namespace L2
open PySem.W
structure Nb2 (mg:Str->Option ah):Prop extends Nb mg where
 b_enumerate:mg "enumerate" = none
 b_sorted:mg "sorted" = none
 b_sum:mg "sum" = none
noncomputable abbrev Rch:=Int×List Int
noncomputable def tos (rs:List Rch):List Int:=rs.map (·.1)
noncomputable def xU (rs:List Rch) (r:Nat):Int:=(rs.getD r (-1,[])).1
noncomputable def zO (rs:List Rch) (r:Nat):List Int:=(rs.getD r (-1,[])).2
noncomputable def xI (i:Nat) (t:Int):Bool:=if i=0 then decide (t = -1) else decide (0<=t/\t<i)
noncomputable def okR (i:Nat) (r:Rch):Bool:=xI i r.1 && decide (1<=(r.2.length:Int)/\(r.2.length:Int)<=12) && r.2.all λx=>decide (0<=x/\x<=99)
noncomputable def uK (rs:List Rch):Bool:=(aK rs.length).all λi=>okR i (rs.getD i (-1,[]))
noncomputable def xl (rs:List Rch):Prop:=∀i,i<rs.length->xI i (xU rs i)=true
noncomputable def jO (rs:List Rch) (h:Nat):Bool:=!decide ((h:Int)∈tos rs)
noncomputable def jp (rs:List Rch):List Nat:=(aK rs.length).filter (jO rs)
noncomputable def vp (rs:List Rch):Nat->Nat->List Int
 | 0,_=>[]
 | f+1,r=>(r:Int)::(if xU rs r<0 then [] else vp rs f (xU rs r).toNat)
noncomputable def qw (rs:List Rch) (r:Nat):List Int:=vp rs (r+1) r
noncomputable def jw (rs:List Rch) (way:List Int):Int:=(way.map λr=>((zO rs r.toNat).length:Int)).sum
noncomputable def zx (rs:List Rch):Bool:=decide (1<=(rs.length:Int)/\(rs.length:Int)<=8) && (uK rs && (decide (((jp rs).length:Int)<=6) && (jp rs).all λh=>decide (jw rs (qw rs h)<=30)))
theorem wO {i:Nat}{t:Int}(h:xI i t=true):t<i/\(-1<=t)/\(t<0->i=0):=by
 unfold xI at h
 by_cases hi:i=0
 ·rw [if_pos hi] at h
  have:=of_decide_eq_true h
  omega
 ·rw [if_neg hi] at h
  have:=of_decide_eq_true h
  omega
theorem ZU {i:Nat}{r:Rch}(h:okR i r=true):xI i r.1=true:=by
 unfold okR at h
 rw [bh,bh] at h
 exact h.1.1
theorem Jg {rs:List Rch}(h:uK rs=true) {i:Nat}{r:Rch}(hr:rs[i]? = some r):okR i r=true:=by
 unfold uK at h
 rw [bY] at h
 have hi:=(List.getElem?_eq_some_iff.mp hr).1
 have:=h i (List.mem_range.mpr hi)
 rw [ak,hr] at this
 exact this
theorem qe {rs:List Rch}(h:uK rs=true):xl rs:=λi hi=>by
 have:=ZU (Jg h (ae hi))
 unfold xU
 rw [ak,ae hi]
 exact this
theorem JK {rs:List Rch}{i:Nat}{r:Rch}(h:rs[i]? = some r):xU rs i=r.1:=by
 unfold xU
 rw [ak,h]
 rfl
theorem Jv {rs:List Rch}{i:Nat}{r:Rch}(h:rs[i]? = some r):zO rs i=r.2:=by
 unfold zO
 rw [ak,h]
 rfl
theorem xl.lt {rs:List Rch}(L:xl rs) {r:Nat}(hr:r<rs.length):xU rs r<r:=(wO (L r hr)).1
theorem gA {rs:List Rch}(L:xl rs):∀(f g r:Nat),r<rs.length->r<f->r<g->vp rs f r=vp rs g r
 | 0,_,_,_,h,_=>∅
 | _+1,0,_,_,_,h=>∅
 | f+1,g+1,r,hr,h1,h2=>by
  unfold vp
  by_cases ht:xU rs r<0
  ·rw [if_pos ht,if_pos ht]
  ·rw [if_neg ht,if_neg ht]
   have hl:=L.lt hr
   rw [gA L f g (xU rs r).toNat ∅ ∅ ∅]
theorem zE {rs:List Rch}(L:xl rs) {r:Nat}(hr:r<rs.length):qw rs r=(r:Int)::(if xU rs r<0 then [] else qw rs (xU rs r).toNat):=by
 unfold qw
 rw [vp]
 by_cases ht:xU rs r<0
 ·rw [if_pos ht,if_pos ht]
 ·rw [if_neg ht,if_neg ht]
  have hl:=L.lt hr
  rw [gA L r ((xU rs r).toNat+1) (xU rs r).toNat ∅ ∅ ∅]
theorem Uk {rs:List Rch}(r:Nat):qw rs r≠[]:=by unfold qw vp;exact λz=>nomatch z
theorem uk {rs:List Rch}(L:xl rs):∀(r:Nat),r<rs.length->(qw rs r).length<=r+1
 | r,hr=>by
  rw [zE L hr]
  by_cases ht:xU rs r<0
  ·rw [if_pos ht];simp
  ·rw [if_neg ht]
   have hl:=L.lt hr
   have:=uk L (xU rs r).toNat ∅
   rw [b7]
   omega
 termination_by r=>r
 decreasing_by omega
theorem xS {rs:List Rch}(L:xl rs):∀(r:Nat),r<rs.length->∀x∈qw rs r,0<=x/\x<rs.length
 | r,hr,x,hx=>by
  rw [zE L hr] at hx
  rcases List.mem_cons.mp hx with rfl | hx
  ·omega
  ·by_cases ht:xU rs r<0
   ·rw [if_pos ht] at hx;cases hx
   ·rw [if_neg ht] at hx
    have hl:=L.lt hr
    exact xS L (xU rs r).toNat ∅ x hx
 termination_by r=>r
 decreasing_by omega
theorem xF {rs:List Rch}{h:Nat}(hh:h∈jp rs):h<rs.length:=by
 have:=(List.mem_filter.mp hh).1
 exact List.mem_range.mp this
theorem xa (rs:List Rch) (r:Int) (way:List Int):jw rs (r::way)=((zO rs r.toNat).length:Int)+jw rs way:=by
 unfold jw
 rw [aO,cG]
theorem V0 {α:Type}{p:α->Bool}{l l':List α}(h:l.Perm l'):l.all p=l'.all p:=by
 rw [eQ,bY,bY]
 exact ⟨λz x hx=>z x (h.mem_iff.mpr hx),λz x hx=>z x (h.mem_iff.mp hx)⟩
noncomputable def jY (rs:List Rch) (ws:List (List Int)):Prop:=ws.Perm ((jp rs).map (qw rs))/\(ws.map cS).Pairwise wn.kle
theorem jY.length {rs:List Rch}{ws:List (List Int)}(h:jY rs ws):ws.length=(jp rs).length:=by rw [h.1.length_eq,aa]
theorem jY.mem {rs:List Rch}{ws:List (List Int)}(h:jY rs ws) {w:List Int}(hw:w∈ws):∃x∈jp rs,w=qw rs x:=by
 obtain ⟨x,hx,e⟩:=List.mem_map.mp (h.1.mem_iff.mp hw)
 exact ⟨x,hx,e.symm⟩
theorem jY.all {rs:List Rch}{ws:List (List Int)}(h:jY rs ws):(ws.map λw=>decide (jw rs w<=30)).all (λb=>b)=(jp rs).all λx=>decide (jw rs (qw rs x)<=30):=by
 rw [fZ,V0 h.1,fZ]
 rfl
theorem yy {O:KeyOrd}:∀{l l':List O.α},l.Perm l'->l.Pairwise O.kle->l'.Pairwise O.kle->l=l'
 | [],l',h,_,_=>(List.nil_perm.mp h).symm
 | x::l,[],h,_,_=>by have:=h.length_eq;simp at this
 | x::l,y::l',h,h1,h2=>by
  have hx:=(List.pairwise_cons.mp h1)
  have hy:=(List.pairwise_cons.mp h2)
  have e:x=y:=by
   have m1:x∈y::l':=h.mem_iff.mp aG
   have m2:y∈x::l:=h.mem_iff.mpr aG
   rcases List.mem_cons.mp m1 with z | z
   ·exact z
   ·rcases List.mem_cons.mp m2 with z2 | z2
    ·exact z2.symm
    ·exact iK (hx.1 y z2) (hy.1 x z)
  subst e
  rw [yy (ou h) hx.2 hy.2]
theorem jY.unique {rs:List Rch}{ws ws':List (List Int)}(h:jY rs ws) (h':jY rs ws'):ws=ws':=by
 have p:(ws.map cS).Perm (ws'.map cS):=(h.1.trans h'.1.symm).map _
 have e:=yy (O:=wn) p h.2 h'.2
 have e2:=congrArg (t6 cS) e
 rw [bz,bz,show (cS ∘ cS:List Int->List Int)=id from funext λx=>fk x,n9,n9] at e2
 exact e2
theorem Ql (rs:List Rch) (t:Int) (hs:List Int):tos (rs++[(t,hs)])=tos rs++[t]:=by unfold tos;rw [aq];rfl
theorem uQ {rs:List Rch}{x d:Rch}{i:Nat}(h:i<rs.length):(rs++[x]).getD i d=rs.getD i d:=by
 rw [ak,ak,cx h]
theorem xC {rs:List Rch}{x d:Rch}:(rs++[x]).getD rs.length d=x:=by
 rw [ak,cn (ar _),Nat.sub_self]
 rfl
theorem J9 {rs:List Rch}{x:Rch}(h:uK rs=true) (hx:okR rs.length x=true):uK (rs++[x])=true:=by
 unfold uK at h ⊢
 rw [bY] at h ⊢
 intro i hi
 have hi':i<rs.length+1:=by have:=List.mem_range.mp hi;rw [aw,bj] at this;exact this
 by_cases hlt:i<rs.length
 ·rw [uQ hlt];exact h i (List.mem_range.mpr hlt)
 ·have e:i=rs.length:=∅
  subst e
  rw [xC];exact hx
theorem wR {rs:List Rch}{x:Rch}(L:xl rs):∀(f r:Nat),r<rs.length->vp (rs++[x]) f r=vp rs f r
 | 0,_,_=>rfl
 | f+1,r,hr=>by
  have e:xU (rs++[x]) r=xU rs r:=by unfold xU;rw [uQ hr]
  unfold vp
  rw [e]
  by_cases ht:xU rs r<0
  ·rw [if_pos ht,if_pos ht]
  ·rw [if_neg ht,if_neg ht,wR L f _ (by have:=L.lt hr;omega)]
theorem vf {rs:List Rch}{x:Rch}(L:xl rs) {r:Nat}(hr:r<rs.length):qw (rs++[x]) r=qw rs r:=wR L _ r hr
theorem xY {rs:List Rch}{x:Rch}:∀(way:List Int),(∀r∈way,0<=r/\r<rs.length)->jw (rs++[x]) way=jw rs way
 | [],_=>rfl
 | r::way,h=>by
  have h0:=h r aG
  rw [xa,xa,xY way λy hy=>h y (az _ hy)]
  congr 2
  unfold zO
  rw [uQ ∅]
theorem Xi {rs:List Rch}(L:xl rs) {t:Int}(h:t∈tos rs):t+1<rs.length:=by
 unfold tos at h
 obtain ⟨r,hr,rfl⟩:=List.mem_map.mp h
 obtain ⟨i,hi,e⟩:=List.mem_iff_getElem.mp hr
 have:=L.lt hi
 rw [JK (ae hi),e] at this
 omega
theorem Xk {rs:List Rch}{t:Int}{hs:List Int}(L:xl rs) (h0:0<=t) (h1:t<rs.length) :
  (jp (rs++[(t,hs)])).length=if t∈tos rs then (jp rs).length+1 else (jp rs).length:=by
 unfold jp
 rw [aw,bj,cv,bT,aw]
 have e1:(fm (jO (rs++[(t,hs)])) [rs.length]).length=1:=by
  have:jO (rs++[(t,hs)]) rs.length=true:=by
   unfold jO
   rw [Ql,decide_eq_false]
   ·rfl
   ·intro z
    rcases List.mem_append.mp z with z | z
    ·have:=Xi L z;omega
    ·have:(rs.length:Int)=t:=by simpa using z
     omega
  simp [this]
 rw [e1]
 have e2:∀h,jO (rs++[(t,hs)]) h=(jO rs h && !decide ((h:Int)=t)):=λh=>by
  unfold jO
  rw [Ql]
  by_cases a:(h:Int)∈tos rs
  ·rw [decide_eq_true (d6 _ a),decide_eq_true a];rfl
  ·rw [decide_eq_false a]
   by_cases b:(h:Int)=t
   ·rw [decide_eq_true (aE _ (by simp [b])),decide_eq_true b];rfl
   ·rw [decide_eq_false (λz=>(List.mem_append.mp z).elim a λy=>b (by simpa using y)),decide_eq_false b];rfl
 have e3:fm (jO (rs++[(t,hs)])) (aK rs.length)=fm (λh:Nat=>!decide ((h:Int)=t)) (fm (jO rs) (aK rs.length)):=by
  rw [List.filter_filter]
  congr 1
  funext h
  rw [e2,Bool.and_comm]
 rw [e3]
 have nd:(fm (jO rs) (aK rs.length)).Nodup:=List.Nodup.sublist List.filter_sublist List.nodup_range
 generalize hl:fm (jO rs) (aK rs.length)=l at nd
 have cnt:∀(l:List Nat),l.Nodup->(fm (λh:Nat=>!decide ((h:Int)=t)) l).length=if t.toNat∈l then l.length-1 else l.length:=by
  intro l
  induction l with
  | nil=>intro _;rfl
  | cons x l ih =>
   intro nd
   have nd':=List.nodup_cons.mp nd
   have ih:=ih nd'.2
   by_cases b:(x:Int)=t
   ·have hx:x=t.toNat:=∅
    rw [cM (by simp [b]),ih,if_neg (by rw [<- hx];exact nd'.1),if_pos (by rw [hx];exact aG)]
    simp
   ·have hx:t.toNat≠x:=∅
    rw [cN (by simp [b]),b7,ih]
    by_cases m:t.toNat∈l
    ·rw [if_pos m,if_pos (az _ m),b7]
     have:0<l.length:=i0 m
     omega
    ·rw [if_neg m,if_neg (λz=>(List.mem_cons.mp z).elim hx m)]
     simp
 rw [cnt l nd]
 have hm:t.toNat∈l↔¬t∈tos rs:=by
  rw [<- hl,mC,List.mem_range]
  unfold jO
  have e:((t.toNat:Nat):Int)=t:=∅
  rw [e]
  constructor
  ·rintro ⟨_,z⟩ y
   rw [decide_eq_true y] at z
   cases z
  ·intro z
   exact ⟨∅,by rw [decide_eq_false z];rfl⟩
 by_cases m:t∈tos rs
 ·rw [if_pos m,if_neg (by rw [hm];exact λz=>z m)]
 ·rw [if_neg m,if_pos (by rw [hm];exact m)]
  have:0<l.length:=i0 (hm.mpr m)
  omega
structure Grown (rs:List Rch):Prop where
 ok:uK rs=true
 heads:(jp rs).length<=6
 deep:∀i,i<rs.length->jw rs (qw rs i)<=30
theorem Grown.snoc {rs:List Rch}{t:Int}{hs:List Int}(G:Grown rs) (h0:0<=t) (h1:t<rs.length) (hx:okR rs.length (t,hs)=true) (hh:t∈tos rs->(jp rs).length<6) (hd:jw rs (qw rs t.toNat)+hs.length<=30):Grown (rs++[(t,hs)]):=by
 have L:=qe G.ok
 have ok':=J9 G.ok hx
 refine ⟨ok',?_,λi hi=>?_⟩
 ·rw [Xk L h0 h1]
  split
  ·rename_i m;have:=hh m;omega
  ·exact G.heads
 ·rw [aw,bj] at hi
  by_cases hlt:i<rs.length
  ·rw [vf L hlt,xY _ (xS L i hlt)]
   exact G.deep i hlt
  ·have e:i=rs.length:=∅
   subst e
   have L':=qe ok'
   have et:xU (rs++[(t,hs)]) rs.length=t:=by unfold xU;rw [xC]
   have eh:zO (rs++[(t,hs)]) rs.length=hs:=by unfold zO;rw [xC]
   rw [zE L' (by rw [aw,bj];omega),xa,bb,eh,et,if_neg ∅,vf L ∅,xY _ (xS L _ ∅)]
   omega
theorem Grown.good {rs:List Rch}(G:Grown rs) (h1:1<=rs.length) (h8:rs.length<=8):zx rs=true:=by
 unfold zx
 rw [decide_eq_true (show 1<=(rs.length:Int)/\(rs.length:Int)<=8 by omega),G.ok,decide_eq_true (show ((jp rs).length:Int)<=6 by have:=G.heads;omega),fb,fb,fb,bY]
 intro h hh
 exact decide_eq_true (G.deep h (xF hh))
theorem Grown.deep_snoc {rs:List Rch}{t:Int}{hs:List Int}(G:Grown rs) (h0:0<=t) (h1:t<rs.length) (hx:okR rs.length (t,hs)=true):jw (rs++[(t,hs)]) (qw (rs++[(t,hs)]) rs.length)=jw rs (qw rs t.toNat)+hs.length:=by
 have L:=qe G.ok
 have L':=qe (J9 G.ok hx)
 have et:xU (rs++[(t,hs)]) rs.length=t:=by unfold xU;rw [xC]
 have eh:zO (rs++[(t,hs)]) rs.length=hs:=by unfold zO;rw [xC]
 rw [zE L' (by rw [aw,bj];omega),xa,bb,eh,et,if_neg ∅,vf L ∅,xY _ (xS L _ ∅)]
 omega
noncomputable def jm (H H':Hp):Prop:=∀p xs,H p=some (.tup xs)->H' p=some (.tup xs)
theorem jm.same {H H':Hp}(s:jg H H'):jm H H':=λ_ _ h=>s _ _ h
theorem jm.trans {H H1 H2:Hp}(a:jm H H1) (b:jm H1 H2):jm H H2:=λp xs h=>b p xs (a p xs h)
theorem jm.ext {b:Addr}{H H':Hp}(e:Ext b H H') (h:∀xs,H b≠some (.tup xs)):jm H H':=λp xs q=>e _ _ q λz=>h xs (z ▸ q)
theorem jm.lst {b:Addr}{H H':Hp}{xs:List V}(e:Ext b H H') (h:H b=some (.lst xs)):jm H H':=.ext e λys z=>by rw [h] at z;cases z
theorem jm.new {b:Addr}{H H':Hp}(e:Ext b H H') (h:H b=none):jm H H':=.ext e λys z=>by rw [h] at z;cases z
theorem jm.tbl {b:Addr}{H H':Hp}{ps:Array ah}(e:Ext b H H') (h:H b=some (.tbl ps)):jm H H':=.ext e λys z=>by rw [h] at z;cases z
noncomputable def Ju (H:Hp) (v:V) (r:Rch):Prop:=∃p g,v=V.ref p/\H p=some (.tup [.int r.1,.ref g])/\H g=some (.tup (r.2.map V.int))
noncomputable def jV (H:Hp) (vs:List V) (rs:List Rch):Prop:=ck (Ju H) vs rs
theorem Ju.keep {H H':Hp}{v:V}{r:Rch}(k:jm H H') (h:Ju H v r):Ju H' v r:=by
 obtain ⟨p,g,e,h1,h2⟩:=h
 exact ⟨p,g,e,k _ _ h1,k _ _ h2⟩
theorem jV.keep {H H':Hp}{vs:List V}{rs:List Rch}(k:jm H H') (h:jV H vs rs):jV H' vs rs:=Paired.mapP h λ_ _ z=>z.keep k
theorem jV.length {H:Hp}{vs:List V}{rs:List Rch}(h:jV H vs rs):vs.length=rs.length:=aY h
theorem jV.get {H:Hp}{vs:List V}{rs:List Rch}{i:Nat}{v:V}(h:jV H vs rs) (e:vs[i]? = some v):∃r,rs[i]? = some r/\Ju H v r:=Paired.get h e
theorem jV.at {H:Hp}{vs:List V}{rs:List Rch}{i:Nat}{r:Rch}(h:jV H vs rs) (e:rs[i]? = some r):∃v,vs[i]? = some v/\Ju H v r:=by
 have hi:i<vs.length:=by rw [h.length];exact (List.getElem?_eq_some_iff.mp e).1
 obtain ⟨r',e2,q⟩:=h.get (ae hi)
 rw [e] at e2
 cases e2
 exact ⟨_,ae hi,q⟩
theorem jV.snoc {H:Hp}{vs:List V}{rs:List Rch}{v:V}{r:Rch}(h:jV H vs rs) (q:Ju H v r):jV H (vs++[v]) (rs++[r]):=cU h q
noncomputable def zV (H:Hp) (vs:List V) (ws:List (List Int)):Prop:=ck (λv (w:List Int)=>∃a,v=V.ref a/\H a=some (.tup (w.map V.int))) vs ws
theorem zV.keep {H H':Hp}{vs:List V}{ws:List (List Int)}(k:jm H H') (h:zV H vs ws):zV H' vs ws:=Paired.mapP h λ_ _ ⟨a,e,q⟩=>⟨a,e,k _ _ q⟩
theorem zV.length {H:Hp}{vs:List V}{ws:List (List Int)}(h:zV H vs ws):vs.length=ws.length:=aY h
theorem yI (x:Int) (l:List Int):inV (.int x) (l.map V.int)=decide (x∈l):=by
 unfold inV
 induction l with
 | nil=>rfl
 | cons y l ih =>
  rw [aO,fF,ih]
  by_cases e:x=y
  ·subst e
   rw [decide_eq_true (aG (a:=x))]
   simp [eqV]
  ·by_cases m:x∈l
   ·rw [decide_eq_true m,decide_eq_true (az _ m),Bool.or_true]
   ·rw [decide_eq_false m,decide_eq_false (λz=>(List.mem_cons.mp z).elim e m),Bool.or_false]
    simp [eqV]
    exact λz=>e z.symm
theorem zX (l:List Int):(l.map V.int).all vQ=true:=by
 rw [fZ,bY]
 intro x _
 rfl
end L2
end
section
namespace L2
open PySem.W
section
variable {prog:Program}{w:b8}{A:br}{E:ah->Shared->Prop}{s:Shared}
end
end L2
end
section
namespace L2
open PySem.W
section
variable {X:Cx}
end
end L2
end
section
namespace L2
open PySem.W
end L2
end
section
namespace L2
open PySem.W
section
variable {s:Shared}{A:br}{prog:Program}{w:b8}{E:ah->Shared->Prop}
theorem GQ {it t:Addr}{k:Nat}{its:Array ah}{v:ah}{Q:ah->Shared->Prop}(q:s.heap.IsTupleIter it t k) (p:s.heap.IsTuple t its) (e:its[k]? = some v)
  (z:∀g,g.IsTupleIter it t (k+1)->eM it s.heap g->Q v { s with heap:=g }):aC (aH prog w) A (bA (.ref it)) Q E s:=by
 obtain ⟨ob,gb,cb,db⟩:=id q;obtain ⟨ot,gt,_,nt,dt⟩:=p;unfold bA
 refine af (d9 (name:=ao "__next__") q.typeIs du (dr du q.typeIs iN ?_ (iF _)))
 show aC _ _ (rS (.ref it) 0 >>= _) _ _ s;refine af (bW gb db (x:=.ref t) rfl ?_)
 show aC _ _ (if (aV t == b0)=true then _ else _) _ _ s;rw [if_neg (show ¬((aV t == b0)=true) from au)]
 show aC _ _ (rS (.ref it) 1 >>= _) _ _ s;refine af (bW gb db (x:=.int k 0) rfl ?_)
 show aC _ _ (pz (.ref t) >>= _) _ _ s;refine af (cH gt dt ?_)
 simp only [bb,e]
 refine af (i4 gb db (by simp) (wpAny_pure ⟨v,rfl,wpAny_pure (z _ ⟨_,cW _ gb (fe (eP db _)),(oW ..).trans cb,by rw [eP db];simp [cg]⟩ (nJ ..))⟩))
theorem GH {it t:Addr}{k:Nat}{its:Array ah}{Q:ah->Shared->Prop}(hh:A.handled=none) (q:s.heap.IsTupleIter it t k) (p:s.heap.IsTuple t its) (e:its[k]? = none)
  (z:∀g x,Heap.ExtBut it s.heap g->(∃o,g.get? x=some o/\o.cls = .type "StopIteration")->E (.ref x) { s with heap:=g }):aC (aH prog w) A (bA (.ref it)) Q E s:=by
 obtain ⟨ob,gb,cb,db⟩:=id q;obtain ⟨ot,gt,_,nt,dt⟩:=p;unfold bA
 refine af (d9 (name:=ao "__next__") q.typeIs du (dr du q.typeIs iN ?_ (iF _)))
 show aC _ _ (rS (.ref it) 0 >>= _) _ _ s;refine af (bW gb db (x:=.ref t) rfl ?_)
 show aC _ _ (if (aV t == b0)=true then _ else _) _ _ s;rw [if_neg (show ¬((aV t == b0)=true) from au)]
 show aC _ _ (rS (.ref it) 1 >>= _) _ _ s;refine af (bW gb db (x:=.int k 0) rfl ?_)
 show aC _ _ (pz (.ref t) >>= _) _ _ s;refine af (cH gt dt ?_)
 simp only [bb,e]
 refine af (fI (af (i4 gb db (by simp) ?_)))
 show aC _ _ (newExc (.type "StopIteration") [] >>= _) _ _ _;refine af ?_;simp only [newExc,newTuple]
 refine af (c3 ?_ (by size_fits));refine af (m:=rT _ _) (pQ (a:=b0) (by first | rfl | (simp only [rT];rfl)) ?_)
 refine c3 ?_ (by size_fits);simp only [raiseNew];refine af (wpAny_handled ?_);first | rw [hh] | rw [show A.in1.handled=none from hh]
 exact af (wpAny_pure (wpAny_throw (z _ _ (((nJ ..).extBut.push _).push _) ⟨_,aA _ rfl,rfl⟩)))
structure Feeds (prog:Program) (w:b8) (i l:Addr) (xs:Array ah) (S:Nat->Heap->Prop):Prop where
 keep:∀k h h',S k h->(∀o,h.get? i=some o->h'.get? i=some o)->(∀o,h.get? l=some o->h'.get? l=some o)->S k h'
 obj:∀k h,S k h->∃o,h.get? i=some o/\∀v,o.data≠.cell v
 item:∀(A:br) (E:ah->Shared->Prop) (k:Nat) (x:ah) (s:Shared) (Q:ah->Shared->Prop),S k s.heap->xs[k]? = some x->(∀g,S (k+1) g->eM i s.heap g->Q x { s with heap:=g })->aC (aH prog w) A (bA (.ref i)) Q E s
 done:∀(A:br) (E:ah->Shared->Prop) (k:Nat) (s:Shared) (Q:ah->Shared->Prop),A.handled=none->S k s.heap->xs[k]? = none->(∀g x,Heap.ExtBut i s.heap g->(∃o,g.get? x=some o/\o.cls = .type "StopIteration")->E (.ref x) { s with heap:=g })->aC (aH prog w) A (bA (.ref i)) Q E s
theorem Feeds.but {i l b:Addr}{xs:Array ah}{S:Nat->Heap->Prop}(f:Feeds prog w i l xs S) {k:Nat}{h h':Heap}(q:S k h) (sb:eM b h h') (n1:i≠b) (n2:l≠b):S k h':=f.keep k h h' q (λo e=>sb.extBut _ _ n1 e) λo e=>sb.extBut _ _ n2 e
theorem XG {i l:Addr}{xs:Array ah}(n:l≠i):Feeds prog w i l xs λk h=>h.IsListIter i l k/\h.IsList l xs where
 keep:=λk h h' q k1 k2=>⟨q.1.at λo e=>k1 o e,q.2.at λo e=>k2 o e⟩
 obj:=λk h q=>by obtain ⟨o,e,_,d⟩:=q.1;exact ⟨o,e,λv z=>by rw [d] at z;cases z⟩
 item:=λA E k x s Q q e z=>wpAny_nextOf_list_item q.1 q.2 e λg q1 sb=>z g ⟨q1,q.2.extBut sb.extBut n⟩ sb
 done:=λA E k s Q hh q e z=>wpAny_nextOf_list_end hh q.1 q.2 e z
theorem ZR {i l:Addr}{xs:Array ah}(n:l≠i):Feeds prog w i l xs λk h=>h.IsTupleIter i l k/\h.IsTuple l xs where
 keep:=λk h h' q k1 k2=>⟨q.1.at λo e=>k1 o e,let ⟨o,e,r⟩:=q.2;⟨o,k2 o e,r⟩⟩
 obj:=λk h q=>by obtain ⟨o,e,_,d⟩:=q.1;exact ⟨o,e,λv z=>by rw [d] at z;cases z⟩
 item:=λA E k x s Q q e z=>GQ q.1 q.2 e λg q1 sb=>z g ⟨q1,q.2.extBut sb.extBut n⟩ sb
 done:=λA E k s Q hh q e z=>GH hh q.1 q.2 e z
theorem V4 {z TI TO i1 i2 l1 l2:Addr}{k1 k2:Nat}{xs ys:Array ah}{x y a b:ah}{S1 S2:Nat->Heap->Prop}{Q:ah->Shared->Prop}(D:nc z TI TO i1 i2 l1 l2) (f1:Feeds prog w i1 l1 xs S1) (f2:Feeds prog w i2 l2 ys S2)
  (g0:iX s.heap z TI TO .none) (gI:dU s.heap TI (.ref i1) (.ref i2)) (gO:dU s.heap TO a b) (q1:S1 k1 s.heap) (q2:S2 k2 s.heap) (ex:xs[k1]? = some x) (ey:ys[k2]? = some y)
  (R:∀g,iX g z TI TO (cg s.heap.objs.size)->dU g TO x y->S1 (k1+1) g->S2 (k2+1) g->dU g s.heap.objs.size x y->g.objs.size=s.heap.objs.size+1 ->
   (∀c o,c≠z->c≠TO->c≠i1->c≠i2->s.heap.get? c=some o->g.get? c=some o)->Q (.ref s.heap.objs.size) { s with heap:=g }):aC (aH prog w) A (ff.«zip.__next__» ⟨[.ref z],[]⟩) (λfin s'=>∃v,fin = .done (.ret v)/\Q v s') E s:=by
 show aC _ _ (rS (.ref z) 2 >>= _) _ _ _;refine af (bW g0 rfl (x:=.bool false) rfl ?_)
 show aC _ _ (rS (.ref z) 3 >>= _) _ _ _;refine af (bW g0 rfl (x:=.ref TI) rfl ?_)
 refine af (cH gI rfl ?_);show aC _ _ (cI (.ref z) >>= _) _ _ _
 refine af ?_;unfold cI;refine af (bW g0 rfl (x:=.none) rfl (wpAny_pure ?_));simp only [if_true]
 refine af (fI ?_);refine af (bW g0 rfl (x:=.ref TO) rfl ?_)
 refine af (dv g0 (by simp) λh1 g1 e1=>?_)
 replace g1:iX h1 z TI TO .ellipsis:=g1
 refine af ?_;simp only [pA,pU,iE,rV]
 refine af (af (lH ?_));show aC _ _ (bA (.ref i1) >>= _) _ _ _
 refine af (f1.item _ _ k1 x _ _ (f1.but q1 e1 D.i1z D.l1z) ex λh2 q1' e2=>wpAny_pure ?_)
 have gO2:dU h2 TO a b:=e2.extBut _ _ D.TOi1 (e1.extBut _ _ D.TOz gO)
 refine af (cH gO2 rfl ?_);refine af (iA gO2 λh3 gO3 e3=>?_)
 replace gO3:dU h3 TO x b:=gO3
 refine af (fj (wpAny_pure ?_));refine af (af (lH ?_));show aC _ _ (bA (.ref i2) >>= _) _ _ _
 refine af (f2.item _ _ k2 y _ _ (f2.but (f2.but (f2.but q2 e1 D.i2z D.l2z) e2 D.i12.symm D.l2i1) e3 D.TOi2.symm D.l2TO) ey λh4 q2' e4=>wpAny_pure ?_)
 have gO4:dU h4 TO x b:=e4.extBut _ _ D.TOi2 gO3
 refine af (cH gO4 rfl ?_);refine af (iA gO4 λh5 gO5 e5=>?_)
 replace gO5:dU h5 TO x y:=gO5
 refine af (fj (wpAny_pure (wpAny_pure ?_)));refine af (cH gO5 rfl ?_);refine af (iV ?_)
 have sz:h5.objs.size=s.heap.objs.size:=by rw [e5.1,e4.1,e3.1,e2.1,e1.1]
 have g5:iX h5 z TI TO .ellipsis:=e5.extBut _ _ D.TOz.symm (e4.extBut _ _ D.i2z.symm (e3.extBut _ _ D.TOz.symm (e2.extBut _ _ D.i1z.symm g1)))
 have k5:∀c o,c≠z->c≠TO->c≠i1->c≠i2->s.heap.get? c=some o->h5.get? c=some o:=λc o n1 n2 n3 n4 e=>e5.extBut _ _ n2 (e4.extBut _ _ n4 (e3.extBut _ _ n2 (e2.extBut _ _ n3 (e1.extBut _ _ n1 e))))
 have q15:S1 (k1+1) h5:=f1.but (f1.but (f1.but q1' e3 D.TOi1.symm D.l1TO) e4 D.i12 D.l1i2) e5 D.TOi1.symm D.l1TO
 have q25:S2 (k2+1) h5:=f2.but q2' e5 D.TOi2.symm D.l2TO
 have lz:z<h5.objs.size:=av g5
 show aC _ _ (fC (.ref z) (.ref h5.objs.size) >>= _) _ _ _;refine af ?_;unfold fC
 have g6:iX (h5.push { cls:=.type "tuple",data:=.seq #[x,y] }) z TI TO .ellipsis:=ai _ g5
 refine af (dv g6 (by simp) λh7 g7 e7=>?_)
 replace g7:iX h7 z TI TO (cg h5.objs.size):=g7
 refine dv g7 (by simp) λh8 g8 e8=>?_
 replace g8:iX h8 z TI TO (cg h5.objs.size):=g8
 have up:∀c o,c≠z->h5.get? c=some o->h8.get? c=some o:=λc o n e=>e8.extBut _ _ n (e7.extBut _ _ n (ai _ e))
 have gT:dU h8 h5.objs.size x y:=e8.extBut _ _ (c5 lz) (e7.extBut _ _ (c5 lz) (aA _ rfl))
 have sz8:h8.objs.size=h5.objs.size+1:=by rw [e8.1,e7.1,bK]
 rw [sz] at g8 gT sz8
 refine wpAny_pure ⟨_,rfl,?_⟩;show Q (.ref h5.objs.size) _;rw [sz]
 exact R h8 g8 (up _ _ D.TOz gO5) (f1.keep _ _ _ q15 (λo e=>up _ o D.i1z e) λo e=>up _ o D.l1z e) (f2.keep _ _ _ q25 (λo e=>up _ o D.i2z e) λo e=>up _ o D.l2z e) gT sz8 λc o n1 n2 n3 n4 e=>up c o n1 (k5 c o n1 n2 n3 n4 e)
theorem V1 {z TI TO i1 i2 l1 l2:Addr}{k1 k2:Nat}{xs ys:Array ah}{a b:ah}{S1 S2:Nat->Heap->Prop}{Q:Fin->Shared->Prop}(hh:A.handled=none) (D:nc z TI TO i1 i2 l1 l2) (f1:Feeds prog w i1 l1 xs S1) (f2:Feeds prog w i2 l2 ys S2)
  (g0:iX s.heap z TI TO .none) (gI:dU s.heap TI (.ref i1) (.ref i2)) (gO:dU s.heap TO a b) (q1:S1 k1 s.heap) (q2:S2 k2 s.heap) (ed:xs[k1]? = none\/ys[k2]? = none)
  (R:∀g e,(∀c o,c≠z->c≠TO->c≠i1->c≠i2->s.heap.get? c=some o->g.get? c=some o)->(∃o,g.get? e=some o/\o.cls = .type "StopIteration")->E (.ref e) { s with heap:=g }):aC (aH prog w) A (ff.«zip.__next__» ⟨[.ref z],[]⟩) Q E s:=by
 show aC _ _ (rS (.ref z) 2 >>= _) _ _ _;refine af (bW g0 rfl (x:=.bool false) rfl ?_)
 show aC _ _ (rS (.ref z) 3 >>= _) _ _ _;refine af (bW g0 rfl (x:=.ref TI) rfl ?_)
 refine af (cH gI rfl ?_);show aC _ _ (cI (.ref z) >>= _) _ _ _
 refine af ?_;unfold cI;refine af (bW g0 rfl (x:=.none) rfl (wpAny_pure ?_));simp only [if_true]
 refine af (fI ?_);refine af (bW g0 rfl (x:=.ref TO) rfl ?_)
 refine af (dv g0 (by simp) λh1 g1 e1=>?_)
 replace g1:iX h1 z TI TO .ellipsis:=g1
 refine af ?_;simp only [pA,pU,iE,rV]
 refine af (af (lH ?_));show aC _ _ (bA (.ref i1) >>= _) _ _ _
 cases ex:xs[k1]? with
 | none =>
  refine af (f1.done _ _ k1 _ _ hh (f1.but q1 e1 D.i1z D.l1z) ex λh2 e e2 he=>?_)
  obtain ⟨oe,ge,ce⟩:=he
  have g2:iX h2 z TI TO .ellipsis:=e2 _ _ D.i1z.symm g1
  have ne:e≠z:=λq=>by subst q;rw [g2] at ge;cases ge;simp at ce
  exact dv g2 (by simp) λh3 _ e3=>R h3 e (λc o n1 _ n3 _ q=>e3.extBut _ _ n1 (e2 _ _ n3 (e1.extBut _ _ n1 q))) ⟨oe,e3.extBut _ _ ne ge,ce⟩
 | some x =>
  have ey:ys[k2]? = none:=by rcases ed with q | q;rw [ex] at q;cases q;exact q
  refine af (f1.item _ _ k1 x _ _ (f1.but q1 e1 D.i1z D.l1z) ex λh2 q1' e2=>wpAny_pure ?_)
  have gO2:dU h2 TO a b:=e2.extBut _ _ D.TOi1 (e1.extBut _ _ D.TOz gO)
  refine af (cH gO2 rfl ?_);refine af (iA gO2 λh3 gO3 e3=>?_)
  refine af (fj (wpAny_pure ?_));refine af (af (lH ?_));show aC _ _ (bA (.ref i2) >>= _) _ _ _
  refine af (f2.done _ _ k2 _ _ hh (f2.but (f2.but (f2.but q2 e1 D.i2z D.l2z) e2 D.i12.symm D.l2i1) e3 D.TOi2.symm D.l2TO) ey λh4 e e4 he=>?_)
  obtain ⟨oe,ge,ce⟩:=he
  have g4:iX h4 z TI TO .ellipsis:=e4 _ _ D.i2z.symm (e3.extBut _ _ D.TOz.symm (e2.extBut _ _ D.i1z.symm g1))
  have ne:e≠z:=λq=>by subst q;rw [g4] at ge;cases ge;simp at ce
  exact dv g4 (by simp) λh5 _ e5=>R h5 e (λc o n1 n2 n3 n4 q=>e5.extBut _ _ n1 (e4 _ _ n4 (e3.extBut _ _ n2 (e2.extBut _ _ n3 (e1.extBut _ _ n1 q))))) ⟨oe,e5.extBut _ _ ne ge,ce⟩
theorem Gn {z TI TO i1 i2 l1 l2:Addr}{k1 k2:Nat}{xs ys:Array ah}{x y a b:ah}{S1 S2:Nat->Heap->Prop}{Q:Option ah->Shared->Prop}(D:nc z TI TO i1 i2 l1 l2) (f1:Feeds prog w i1 l1 xs S1) (f2:Feeds prog w i2 l2 ys S2)
  (g0:iX s.heap z TI TO .none) (gI:dU s.heap TI (.ref i1) (.ref i2)) (gO:dU s.heap TO a b) (q1:S1 k1 s.heap) (q2:S2 k2 s.heap) (ex:xs[k1]? = some x) (ey:ys[k2]? = some y)
  (R:∀g,iX g z TI TO (cg s.heap.objs.size)->dU g TO x y->S1 (k1+1) g->S2 (k2+1) g->dU g s.heap.objs.size x y->g.objs.size=s.heap.objs.size+1 ->
   (∀c o,c≠z->c≠TO->c≠i1->c≠i2->s.heap.get? c=some o->g.get? c=some o)->Q (some (.ref s.heap.objs.size)) { s with heap:=g }):aC (aH prog w) A (fQ (.ref z)) Q E s:=by
 have ty:s.TypeIs (.ref z) "zip":=⟨_,g0,rfl⟩
 unfold fQ;exact af (nO (d9 (name:=ao "__next__") ty iG (dr iG ty pC
   (V4 D f1 f2 g0 gI gO q1 q2 ex ey λg a1 a2 a3 a4 a5 a6 a7=>wpAny_pure (R g a1 a2 a3 a4 a5 a6 a7)) (oX _))))
theorem Gm {z TI TO i1 i2 l1 l2:Addr}{k1 k2:Nat}{xs ys:Array ah}{a b:ah}{S1 S2:Nat->Heap->Prop}{Q:Option ah->Shared->Prop}(hh:A.handled=none) (D:nc z TI TO i1 i2 l1 l2) (f1:Feeds prog w i1 l1 xs S1) (f2:Feeds prog w i2 l2 ys S2)
  (g0:iX s.heap z TI TO .none) (gI:dU s.heap TI (.ref i1) (.ref i2)) (gO:dU s.heap TO a b) (q1:S1 k1 s.heap) (q2:S2 k2 s.heap) (ed:xs[k1]? = none\/ys[k2]? = none)
  (R:∀g,(∀c o,c≠z->c≠TO->c≠i1->c≠i2->s.heap.get? c=some o->g.get? c=some o)->Q none { s with heap:=g }):aC (aH prog w) A (fQ (.ref z)) Q E s:=by
 have ty:s.TypeIs (.ref z) "zip":=⟨_,g0,rfl⟩
 unfold fQ;refine af (nO (d9 (name:=ao "__next__") ty iG (dr iG ty pC (V1 hh D f1 f2 g0 gI gO q1 q2 ed λg e hk he=>?_) (oX _))))
 obtain ⟨o,ho,hc⟩:=he
 exact af (wpAny_isInstance (T:="StopIteration") (b:=true) ⟨o,ho,hc⟩ isSubtype_stop (wpAny_pure (R _ hk)))
noncomputable def Wr (t:Bool):String:=match t with | true=>"tuple_iterator" | false=>"list_iterator"
noncomputable def ItK (t:Bool) (h:Heap) (i l:Addr) (k:Nat):Prop:=match t with | true=>h.IsTupleIter i l k | false=>h.IsListIter i l k
noncomputable def IsK (t:Bool) (h:Heap) (l:Addr) (xs:Array ah):Prop:=match t with | true=>h.IsTuple l xs | false=>h.IsList l xs
noncomputable def SqK (t:Bool) (K:aj) (H:Hp) (a:Addr) (xs:List V):Prop:=match t with | true=>SqT K H a xs | false=>SqL K H a xs
theorem IsK.at {t:Bool}{h h':Heap}{l:Addr}{xs:Array ah}(q:IsK t h l xs) (k:∀o,h.get? l=some o->h'.get? l=some o):IsK t h' l xs:=by
 cases t with
 | true=>obtain ⟨o,e,r⟩:=q;exact ⟨o,k o e,r⟩
 | false=>exact Heap.IsList.at q λo e=>k o e
theorem IsK.lt {t:Bool}{h:Heap}{l:Addr}{xs:Array ah}(q:IsK t h l xs):l<h.objs.size:=by
 cases t with
 | true=>obtain ⟨o,e,r⟩:=q;exact av e
 | false=>obtain ⟨o,e,r⟩:=q;exact av e
theorem ItK.at {t:Bool}{h h':Heap}{i l:Addr}{k:Nat}(q:ItK t h i l k) (f:∀o,h.get? i=some o->h'.get? i=some o):ItK t h' i l k:=by
 cases t with
 | true=>obtain ⟨o,e,r⟩:=q;exact ⟨o,f o e,r⟩
 | false=>obtain ⟨o,e,r⟩:=q;exact ⟨o,f o e,r⟩
theorem ItK.obj {t:Bool}{h:Heap}{i l:Addr}{k:Nat}(q:ItK t h i l k):∃o,h.get? i=some o/\∀v,o.data≠.cell v:=by
 cases t with
 | true=>obtain ⟨o,e,_,d⟩:=q;exact ⟨o,e,λv z=>by rw [d] at z;cases z⟩
 | false=>obtain ⟨o,e,_,d⟩:=q;exact ⟨o,e,λv z=>by rw [d] at z;cases z⟩
theorem ItK.of {t:Bool}{h:Heap}{i l:Addr}(e:h.get? i=some { cls:=.type (Wr t),data:=.fields #[.ref l,.int 0 0] }):ItK t h i l 0:=by
 cases t with
 | true=>exact ⟨_,e,rfl,rfl⟩
 | false=>exact ⟨_,e,rfl,rfl⟩
theorem JT {t:Bool}{i l:Addr}{xs:Array ah}(n:l≠i):Feeds prog w i l xs λk h=>ItK t h i l k/\IsK t h l xs:=by
 cases t with
 | true=>exact ZR n
 | false=>exact XG n
theorem Z3 {t:Bool}{l:Addr}{xs:Array ah}{Q:ah->Shared->Prop}(q:IsK t s.heap l xs) (z:Q (.ref s.heap.objs.size) { s with heap:=s.heap.push { cls:=.type (Wr t),data:=.fields #[.ref l,.int 0 0] } }):aC (aH prog w) A (mQ (.ref l)) Q E s:=by
 cases t with
 | true=>exact o8 q z
 | false=>exact d8 q z
noncomputable abbrev zp1 (t:Bool) (h:Heap) (l:Addr):Heap:=h.push { cls:=.type (Wr t),data:=.fields #[.ref l,.int 0 0] }
noncomputable abbrev zp2 (t u:Bool) (h:Heap) (l m:Addr):Heap:=zp1 u (zp1 t h l) m
noncomputable abbrev zp3 (t u:Bool) (h:Heap) (l m:Addr):Heap:=(zp2 t u h l m).push { cls:=.type "tuple",data:=.seq #[.ref h.objs.size,.ref (zp1 t h l).objs.size] }
noncomputable abbrev zp4 (t u:Bool) (h:Heap) (l m:Addr):Heap:=(zp3 t u h l m).push { cls:=.type "tuple",data:=.seq #[.none,.none] }
noncomputable abbrev zp5 (t u:Bool) (h:Heap) (l m:Addr):Heap:=(zp4 t u h l m).push { cls:=.type "zip",data:=.fields #[.none,.bool false,.bool false,.ref (zp2 t u h l m).objs.size,.ref (zp3 t u h l m).objs.size] }
theorem ZO (t u:Bool) (l m:Addr) (xs ys:Array ah) :
  Meets (ff.«zip.__new__» ⟨[.type "zip",.ref l,.ref m],[]⟩) (λ_ R s=>IsK t s.heap l xs/\IsK u s.heap m ys/\R (.ok (.ret (.ref (zp4 t u s.heap l m).objs.size))) { s with heap:=zp5 t u s.heap l m }) :=
 .of_wp λprog w A R s0 h=>by
  obtain ⟨hp,g,d,tk,os⟩:=s0;obtain ⟨q1,q2,h⟩:=h;have hsub:=sub_zip
  have p1:IsK t (Shared.heap ⟨hp,g,d,tk,os⟩) l xs:=q1
  have p2:IsK u (Shared.heap ⟨zp1 t hp l,g,d,tk,os⟩) m ys:=q2.at λo e=>ai _ e
  wp_walk using Z3 p1,Z3 p2
  exact ⟨_,rfl,h⟩
theorem WL {t u:Bool}{l m:Addr}{xs ys:Array ah}{Q:ah->Shared->Prop}(q1:IsK t s.heap l xs) (q2:IsK u s.heap m ys)
  (R:∀g,iX g (s.heap.objs.size+4) (s.heap.objs.size+2) (s.heap.objs.size+3) .none->dU g (s.heap.objs.size+2) (.ref s.heap.objs.size) (.ref (s.heap.objs.size+1)) ->
   dU g (s.heap.objs.size+3) .none .none->ItK t g s.heap.objs.size l 0->ItK u g (s.heap.objs.size+1) m 0->(∀c o,s.heap.get? c=some o->g.get? c=some o)->Q (.ref (s.heap.objs.size+4)) { s with heap:=g }) :
  aC (aH prog w) A (call (.type "zip") [.ref l,.ref m]) Q E s:=by
 refine callType_new F.called_zip ⋯ (F.typeCall_zip_2 _ _) (F.newCall_zip_2 _ _) (λobj=>F.args_object_init_3 obj _ _) F.entry_zip_new (ZO t u l m xs ys) ⟨q1,q2,?_⟩
 have z1:(zp1 t s.heap l).objs.size=s.heap.objs.size+1:=bK ..
 have z2:(zp2 t u s.heap l m).objs.size=s.heap.objs.size+2:=by rw [bK,z1]
 have z3:(zp3 t u s.heap l m).objs.size=s.heap.objs.size+3:=by rw [bK,z2]
 have z4:(zp4 t u s.heap l m).objs.size=s.heap.objs.size+4:=by rw [bK,z3]
 have g5:(zp5 t u s.heap l m).get? (zp4 t u s.heap l m).objs.size=some _:=aA _ rfl
 have g4:(zp5 t u s.heap l m).get? (zp3 t u s.heap l m).objs.size=some _:=ai _ (aA _ rfl)
 have g3:(zp5 t u s.heap l m).get? (zp2 t u s.heap l m).objs.size=some _:=ai _ (ai _ (aA _ rfl))
 have g2:(zp5 t u s.heap l m).get? (zp1 t s.heap l).objs.size=some _:=ai _ (ai _ (ai _ (aA _ rfl)))
 have g1:(zp5 t u s.heap l m).get? s.heap.objs.size=some _:=ai _ (ai _ (ai _ (ai _ (aA _ rfl))))
 show _/\_
 rw [z2,z3,z4] at g5;rw [z1,z2] at g3;rw [z3] at g4;rw [z1] at g2;rw [z4]
 exact ⟨⟨_,g5,rfl⟩,R _ g5 g3 g4 (.of g1) (.of g2) λc o x=>ai _ (ai _ (ai _ (ai _ (ai _ x))))⟩
end
section
variable {X:Cx}{s:Shared}{σ:St}{H:Hp}{pins:List (Addr×Obj)}
theorem ZA {t:Bool}{a:Addr}{xs:List V}(I:Inv X pins σ H s) (h:SqK t X.K H a xs):∃its:List ah,jB xs its/\IsK t s.heap a its.toArray/\xs.length<=sizeLine:=by
 cases t with
 | true=>exact I.tuple h
 | false=>obtain ⟨its,r,p,z⟩:=I.list h;exact ⟨its,r,p.isList,z⟩
theorem QM {t:Bool}{a:Addr}{xs ys:List V}(I:Inv X pins σ H s) (h:SqK t X.K H a xs) (h':SqK t X.K H a ys):xs=ys:=by
 cases t with
 | true=>exact I.tuple_inj h h'
 | false=>exact I.list_inj h h'
end
noncomputable def V7 (K:aj) (t u:Bool) (l1 l2:Addr):It :=
 ⟨λi H=>∃xs ys x y,SqK t K H l1 xs/\SqK u K H l2 ys/\xs[i]? = some x/\ys[i]? = some y,λi H v H'=>∃p x y,v = .ref p/\H p=none/\H'=upd H p (.tup [x,y])/\(∀xs,SqK t K H l1 xs->xs[i]? = some x)/\∀ys,SqK u K H l2 ys->ys[i]? = some y,
  λi H=>∃xs ys,SqK t K H l1 xs/\SqK u K H l2 ys/\(xs.length<=i\/ys.length<=i)⟩
theorem ZB {t u:Bool}{P:Program}{w:b8}{K:aj}{es:List Expr}{x1:Nat}{pos:Pos}{z TI TO i1 i2 l1 l2:Addr}(D:nc z TI TO i1 i2 l1 l2) :
  Turn P w K (.Tuple es x1 pos) (V7 K t u l1 l2) [z,TI,TO,i1,i2] z (λi h=>∃a b,iX h z TI TO .none/\dU h TI (.ref i1) (.ref i2)/\dU h TO a b/\ItK t h i1 l1 i/\ItK u h i2 l2 i) where
 mem:=by simp
 obj:=λi h ⟨a,b,t1,t2,t3,t4,t5⟩ c hc=>by
  simp only [dW,eE,or_false] at hc
  rcases hc with rfl | rfl | rfl | rfl | rfl
  ·exact ⟨_,t1,λv e=>by have e':fK _=lM v:=e;cases e'⟩
  ·exact ⟨_,t2,λv e=>by have e':t7 _ _=lM v:=e;cases e'⟩
  ·exact ⟨_,t3,λv e=>by have e':t7 _ _=lM v:=e;cases e'⟩
  ·exact t4.obj
  ·exact t5.obj
 keep:=λi h h' ⟨a,b,t1,t2,t3,t4,t5⟩ k=>⟨a,b,k z (by simp) _ t1,k TI (by simp) _ t2,k TO (by simp) _ t3,t4.at λo e=>k i1 (by simp) o e,t5.at λo e=>k i2 (by simp) o e⟩
 item:=by
  intro X hP hw hK hc i pins s σ H E I hf st hg
  subst hP hw hK
  obtain ⟨a,b,t1,t2,t3,t4,t5⟩:=st
  obtain ⟨xs,ys,x,y,hq1,hq2,hx,hy⟩:=hg
  obtain ⟨its1,rv1,p1,_⟩:=ZA I hq1
  obtain ⟨its2,rv2,p2,_⟩:=ZA I hq2
  obtain ⟨u1,hu1,ru1⟩:=rv1.get hx
  obtain ⟨u2,hu2,ru2⟩:=rv2.get hy
  have hn:H s.heap.objs.size=none:=I.hok.fresh (ar _)
  have fz:=hf z (by simp)
  have fTO:=hf TO (by simp)
  have f1:=hf i1 (by simp)
  have f2:=hf i2 (by simp)
  refine Gn D (JT D.l1i1) (JT D.l2i2) t1 t2 t3 ⟨t4,p1⟩ ⟨t5,p2⟩ (x:=u1) (y:=u2) (by simpa using hu1) (by simpa using hu2) λh' o1 o2 o3 o4 o5 o6 o7=>⟨_,rfl,?_⟩
  obtain ⟨o3,_⟩:=o3;obtain ⟨o4,_⟩:=o4
  refine wpAny_letOwnedTupleGo_zip o1 λh2 q1 sb=>?_
  have hzl:z<s.heap.objs.size:=av t1
  have kk:∀c o,c≠z->c≠TO->c≠i1->c≠i2->s.heap.get? c=some o->h2.get? c=some o:=λc o n1 n2 n3 n4 e=>(sb.2 c n1).trans (o7 c o n1 n2 n3 n4 e)
  have et:h2.get? s.heap.objs.size=some { cls:=.type "tuple",data:=.seq #[u1,u2] }:=(sb.2 _ (c5 hzl)).trans o5
  have tne:∀c o,H c=some o->c≠z/\c≠TO/\c≠i1/\c≠i2/\c≠s.heap.objs.size:=λc o q=>⟨λe=>(by rw [e,fz.1] at q;cases q),λe=>(by rw [e,fTO.1] at q;cases q),λe=>(by rw [e,f1.1] at q;cases q),λe=>(by rw [e,f2.1] at q;cases q),λe=>(by rw [e,hn] at q;cases q)⟩
  have getF:∀{c:Addr} {o:HO},H c=some o->upd H s.heap.objs.size (.tup [x,y]) c=some o:=λ{c o} q=>by rw [j5 (tne c o q).2.2.2.2];exact q
  have nin:∀{c:Addr},c∉[z,TO,i1,i2]->c≠z/\c≠TO/\c≠i1/\c≠i2:=λ{c} h=>by simpa using h
  have I1:Inv X pins σ (upd H s.heap.objs.size (.tup [x,y])) { s with heap:=h2,toks:=s.toks }:=by
   refine I.step (g':=s.gens) (d':=s.drawn) (ch:=[z,TO,i1,i2]) (λc hc'=>?_) (λc o _ _ hc' e _=>kk c o (nin hc').1 (nin hc').2.1 (nin hc').2.2.1 (nin hc').2.2.2 e) (λc o _ _ hc' e _=>⟨o.slots,kk c o (nin hc').1 (nin hc').2.1 (nin hc').2.2.1 (nin hc').2.2.2 e⟩)
    (λc o _ e n=>by rw [j5 (aD (av e))];exact n) (λc o hc' e=>⟨o,kk c o (nin hc').1 (nin hc').2.1 (nin hc').2.2.1 (nin hc').2.2.2 e⟩) (λ_ _ q=>getF q) (λ_ _ _ q=>getF q) (λc ps q=>⟨#[],by rw [getF q];simp⟩) (λm hm=>?_) (λc v q=>?_) I.bare
   ·simp only [dW,eE,or_false] at hc'
    rcases hc' with rfl | rfl | rfl | rfl
    ·exact ⟨fz.2.2.2.1,fz.2.1,fz.2.2.2.2.1,fz.2.2.2.2.2⟩
    ·exact ⟨fTO.2.2.2.1,fTO.2.1,fTO.2.2.2.2.1,fTO.2.2.2.2.2⟩
    ·exact ⟨f1.2.2.2.1,f1.2.1,f1.2.2.2.2.1,f1.2.2.2.2.2⟩
    ·exact ⟨f2.2.2.2.1,f2.2.1,f2.2.2.2.2.1,f2.2.2.2.2.2⟩
   ·obtain ⟨o,es,ep,ho,r⟩:=hm
    exact ⟨o,es,ep,kk _ o (cA fz.2.1) (cA fTO.2.1) (cA f1.2.1) (cA f2.2.1) ho,r⟩
   ·by_cases hb:c=s.heap.objs.size
    ·subst hb
     rw [j4] at q;cases q
     exact ⟨by show 2<=sizeLine;decide,[u1,u2],.cons ru1 (.cons ru2 .nil),⟨_,et,rfl,0,rfl⟩⟩
    ·rw [j5 hb] at q
     have hh:=tne c v q
     refine (I.hok c v q).stay (λc' o hc' e=>?_) (λ_ e=>getF e) λ_ _ e=>getF e
     have hh':c'≠z/\c'≠TO/\c'≠i1/\c'≠i2:=by
      rcases hc' with e | e
      ·rw [e];exact ⟨hh.1,hh.2.1,hh.2.2.1,hh.2.2.2.1⟩
      ·have:=tne c' _ e;exact ⟨this.1,this.2.1,this.2.2.1,this.2.2.2.1⟩
     exact kk c' o hh'.1 hh'.2.1 hh'.2.2.1 hh'.2.2.2 e
  have s2:∀{c:Addr} {o:Obj},c≠z->h'.get? c=some o->h2.get? c=some o:=λn e=>(sb.2 _ n).trans e
  refine ⟨.ref s.heap.objs.size,_,I1,rfl,⟨_,x,y,rfl,hn,rfl,λys' hy'=>by rw [QM I hy' hq1];exact hx,λys' hy'=>by rw [QM I hy' hq2];exact hy⟩,⟨u1,u2,q1,kk _ _ D.TIz D.TITO D.TIi1 D.TIi2 t2,s2 D.TOz o2,o3.at λo e=>s2 D.i1z e,o4.at λo e=>s2 D.i2z e⟩,λc hc'=>?_⟩
  have hl:c<s.heap.objs.size:=by
   simp only [dW,eE,or_false] at hc'
   rcases hc' with rfl | rfl | rfl | rfl | rfl
   ·exact hzl
   ·exact av t2
   ·exact av t3
   ·obtain ⟨o,e,_⟩:=t4.obj;exact av e
   ·obtain ⟨o,e,_⟩:=t5.obj;exact av e
  rw [j5 (aD hl)]
  exact (hf c hc').1
 done:=by
  intro X hP hw hK hc i pins s σ H E I hf st hg
  subst hP hw hK
  obtain ⟨a,b,t1,t2,t3,t4,t5⟩:=st
  obtain ⟨xs,ys,hq1,hq2,hend⟩:=hg
  obtain ⟨its1,rv1,p1,_⟩:=ZA I hq1
  obtain ⟨its2,rv2,p2,_⟩:=ZA I hq2
  have e1:=rv1.length
  have e2:=rv2.length
  have fz:=hf z (by simp)
  have fTO:=hf TO (by simp)
  have f1:=hf i1 (by simp)
  have f2:=hf i2 (by simp)
  have tne:∀c o,H c=some o->c≠z/\c≠TO/\c≠i1/\c≠i2:=λc o q=>⟨λe=>(by rw [e,fz.1] at q;cases q),λe=>(by rw [e,fTO.1] at q;cases q),λe=>(by rw [e,f1.1] at q;cases q),λe=>(by rw [e,f2.1] at q;cases q)⟩
  have nin:∀{c:Addr},c∉[z,TO,i1,i2]->c≠z/\c≠TO/\c≠i1/\c≠i2:=λ{c} h=>by simpa using h
  refine Gm (I.ok.hd hc) D (JT D.l1i1) (JT D.l2i2) t1 t2 t3 ⟨t4,p1⟩ ⟨t5,p2⟩ ?_ λh' kk=>⟨rfl,?_⟩
  ·rcases hend with h | h
   ·exact .inl (by simp;omega)
   ·exact .inr (by simp;omega)
  ·refine I.step (g':=s.gens) (d':=s.drawn) (t':=s.toks) (ch:=[z,TO,i1,i2]) (λc hc'=>?_) (λc o _ _ hc' e _=>kk c o (nin hc').1 (nin hc').2.1 (nin hc').2.2.1 (nin hc').2.2.2 e) (λc o _ _ hc' e _=>⟨o.slots,kk c o (nin hc').1 (nin hc').2.1 (nin hc').2.2.1 (nin hc').2.2.2 e⟩)
    (λ_ _ _ _ n=>n) (λc o hc' e=>⟨o,kk c o (nin hc').1 (nin hc').2.1 (nin hc').2.2.1 (nin hc').2.2.2 e⟩) (λ_ _ q=>q) (λ_ _ _ q=>q) (λc ps q=>⟨#[],by rw [q];simp⟩) (λm hm=>?_) (λc v q=>?_) I.bare
   ·simp only [dW,eE,or_false] at hc'
    rcases hc' with rfl | rfl | rfl | rfl
    ·exact ⟨fz.2.2.2.1,fz.2.1,fz.2.2.2.2.1,fz.2.2.2.2.2⟩
    ·exact ⟨fTO.2.2.2.1,fTO.2.1,fTO.2.2.2.2.1,fTO.2.2.2.2.2⟩
    ·exact ⟨f1.2.2.2.1,f1.2.1,f1.2.2.2.2.1,f1.2.2.2.2.2⟩
    ·exact ⟨f2.2.2.2.1,f2.2.1,f2.2.2.2.2.1,f2.2.2.2.2.2⟩
   ·obtain ⟨o,es,ep,ho,r⟩:=hm
    exact ⟨o,es,ep,kk _ o (cA fz.2.1) (cA fTO.2.1) (cA f1.2.1) (cA f2.2.1) ho,r⟩
   ·have hh:=tne c v q
    refine (I.hok c v q).stay (λc' o hc' e=>?_) (λ_ e=>e) λ_ _ e=>e
    have hh':c'≠z/\c'≠TO/\c'≠i1/\c'≠i2:=by
     rcases hc' with e | e
     ·rw [e];exact hh
     ·exact tne c' _ e
    exact kk c' o hh'.1 hh'.2.1 hh'.2.2.1 hh'.2.2.2 e
 self:=λ_ _ _ _ _ ⟨_,_,t1,_⟩ h=>pE t1 h
section
variable {X:Cx}
noncomputable def GT (K:aj) (ta:TA):TI:=λσ H R=>ta σ H λvs H1=>∃t u a b,vs=[.ref a,.ref b]/\(∃xs,SqK t K H1 a xs)/\(∃ys,SqK u K H1 b ys)/\R (V7 K t u a b) H1
theorem JE {es:List Expr}{x1:Nat}{tpos:Pos}{l r:Expr}{ta:TA}{p pos:Pos}(K:aj) (hg:Gl X "zip") (hm:X.mg "zip" = none) (ha:PA X [l,r] ta) (hs:aN [l,r] X.env=(false,eval l X.env)::aN [r] X.env:=by rfl) (hs2:(cz pos (aN [r] X.env)).any (·.1)=false:=by rfl) (hK:X.K=K:=by rfl) :
  PI X (.Tuple es x1 tpos) (.Call (.Name "zip" p) [l,r] [] pos) (GT K ta):=by
 subst hK
 intro pins s σ H R I h
 refine tf (zK I hg hm boot_zip (cj (thn (ha pos pins s σ H _ I h) λus s1 ⟨vs,H1,I1,r1,q1⟩=>?_) hs hs2))
 obtain ⟨t,t2,a,b,e,⟨xs,hq⟩,⟨ys,hq2⟩,q⟩:=q1
 subst e
 obtain ⟨u,u2,rfl,ru,ru2⟩:=Zo r1
 cases ru
 cases ru2
 obtain ⟨its,rv,pl,_⟩:=ZA I1 hq
 obtain ⟨its2,rv2,pl2,_⟩:=ZA I1 hq2
 refine WL pl pl2 λh' z1 z2 z3 z4 z5 kk=>?_
 refine pE z1 ?_
 have I2:Inv X pins σ H1 { s1 with heap:=h',toks:=s1.toks }:=I1.kept kk
 have la:a<s1.heap.objs.size:=pl.lt
 have lb:b<s1.heap.objs.size:=pl2.lt
 have D:nc (s1.heap.objs.size+4) (s1.heap.objs.size+2) (s1.heap.objs.size+3) s1.heap.objs.size (s1.heap.objs.size+1) a b:=by
  constructor <;> first | exact aD la | exact aD lb | exact aD (aJ la (eF _ _)) | exact aD (aJ lb (eF _ _)) | (apply aD;omega) | (apply c5;omega)
 refine ⟨_,[s1.heap.objs.size+4,s1.heap.objs.size+2,s1.heap.objs.size+3,s1.heap.objs.size,s1.heap.objs.size+1],_,_,H1,rfl,I2,ZB D,⟨.none,.none,z1,z2,z3,z4,z5⟩,λc hc=>?_,q⟩
 have hle:s1.heap.objs.size<=c:=by
  simp only [dW,eE,or_false] at hc
  rcases hc with rfl | rfl | rfl | rfl | rfl
  ·exact eF _ _
  ·exact eF _ _
  ·exact eF _ _
  ·exact ar _
  ·exact eF _ _
 exact I1.fpOk hle (I1.hok.fresh hle)
end
theorem vc {K:aj}{t0 u0:Bool}{a b acc:Addr}{xs ys:List V}{g:TG}{ti:TT}{te:TE}{R:Hp->Prop}{σ:St}{H:Hp}(hl2:xs.length=ys.length) (Pv:Nat->St->Hp->Prop) (h0:Pv 0 σ H) (hl:∀i σ H,i<=xs.length->Pv i σ H->SqK t0 K H a xs/\SqK u0 K H b ys)
  (hs:∀i x y σ H t,xs[i]? = some x->ys[i]? = some y->Pv i σ H->H t=none->g (.ref t) σ (upd H t (.tup [x,y])) λσ3 H3=>ti σ3 H3 λok H4=>if ok=true then te σ3 H4 λv H5=>∃zs,H5 acc=some (.lst zs)/\zs.length<sizeLine/\Pv (i+1) σ3 (upd H5 acc (.lst (zs++[v]))) else Pv (i+1) σ3 H4)
  (hd:∀σ H,Pv xs.length σ H->R H) :
  ∃W:Nat->Nat->St->Hp->Prop,(∃m,W 0 m σ H)/\∀i m σ' H',W i m σ' H' ->
   ((V7 K t0 u0 a b).stop i H'/\R H')\/((V7 K t0 u0 a b).go i H'/\∃NX:St->Hp->Prop,(∀σ2 H2,NX σ2 H2->∃m',m'<m/\W (i+1) m' σ2 H2) /\
    ∀x H2,(V7 K t0 u0 a b).yld i H' x H2->g x σ' H2 λσ3 H3=>ti σ3 H3 λok H4=>if ok=true then te σ3 H4 λv H5=>∃zs,H5 acc=some (.lst zs)/\zs.length<sizeLine/\NX σ3 (upd H5 acc (.lst (zs++[v]))) else NX σ3 H4):=by
 refine ⟨λi m σ H=>m=xs.length-i/\i<=xs.length/\Pv i σ H,⟨xs.length,by simp,aQ _,h0⟩,?_⟩
 rintro i m σ H ⟨rfl,hi,p⟩
 obtain ⟨q,q2⟩:=hl i σ H hi p
 by_cases hlt:i<xs.length
 ·refine .inr ⟨⟨xs,ys,xs[i],ys[i]'∅,q,q2,by simp [hlt],ae ∅⟩,Pv (i+1),λσ' H' p'=>⟨xs.length-(i+1),∅,rfl,hlt,p'⟩,λv H' y=>?_⟩
  obtain ⟨t,x,y',rfl,hn,rfl,y1,y2⟩:=y
  exact hs i x y' σ H t (y1 xs q) (y2 ys q2) p hn
 ·have e:i=xs.length:=∅
  subst e
  exact .inl ⟨⟨xs,ys,q,q2,.inl (ar _)⟩,hd σ H p⟩
end L2
end
section
namespace L2
open PySem.W
mutual
inductive Dat (H:Hp):V->iH->Prop
 | non:Dat H .non .none
 | bl (b:Bool):Dat H (.bl b) (.bool b)
 | int (i:Int):Dat H (.int i) (.int i)
 | str (x:Str):Dat H (.str x) (.str x)
 | tup {p:Addr} {vs:List V} {ds:List iH}:H p=some (.tup vs)->DatL H vs ds->Dat H (.ref p) (.tuple ds)
 | lst {p:Addr} {vs:List V} {ds:List iH}:H p=some (.lst vs)->DatL H vs ds->Dat H (.ref p) (.list ds)
inductive DatL (H:Hp):List V->List iH->Prop
 | nil:DatL H [] []
 | cons {v:V} {vs:List V} {d:iH} {ds:List iH}:Dat H v d->DatL H vs ds->DatL H (v::vs) (d::ds)
end
mutual
theorem Dat.ext {M:Addr->Prop}{H H':Hp}(x:YF M H H') (hM:∀c,M c->∀vs,H c≠some (.lst vs)/\H c≠some (.tup vs)):∀{v:V}{d:iH},Dat H v d->Dat H' v d
 | _,_,.non=>.non
 | _,_,.bl b=>.bl b
 | _,_,.int i=>.int i
 | _,_,.str y=>.str y
 | _,_,.tup h r=>.tup (x _ _ h λz=>(hM _ z _).2 h) (DatL.ext x hM r)
 | _,_,.lst h r=>.lst (x _ _ h λz=>(hM _ z _).1 h) (DatL.ext x hM r)
theorem DatL.ext {M:Addr->Prop}{H H':Hp}(x:YF M H H') (hM:∀c,M c->∀vs,H c≠some (.lst vs)/\H c≠some (.tup vs)):∀{vs:List V}{ds:List iH},DatL H vs ds->DatL H' vs ds
 | _,_,.nil=>.nil
 | _,_,.cons h r=>.cons (Dat.ext x hM h) (DatL.ext x hM r)
end
theorem Dat.same {H H':Hp}{v:V}{d:iH}(s:jg H H') (h:Dat H v d):Dat H' v d:=h.ext (M:=λ_=>False) (YF.of_same s) (λ_ z=>z.elim)
theorem DatL.length {H:Hp}:∀{vs:List V}{ds:List iH},DatL H vs ds->vs.length=ds.length
 | _,_,.nil=>rfl
 | _,_,.cons _ r=>congrArg Nat.succ r.length
theorem DatL.get {H:Hp}:∀{vs:List V}{ds:List iH}{i:Nat}{v:V},DatL H vs ds->vs[i]? = some v->∃d,ds[i]? = some d/\Dat H v d
 | _,_,_,_,.nil,e=>by simp at e
 | _,_,0,_,.cons r _,e=>by simp at e;subst e;exact ⟨_,rfl,r⟩
 | _,_,i+1,v,.cons _ t,e=>by
  obtain ⟨d,h1,h2⟩:=DatL.get (i:=i) (v:=v) t (by simpa using e)
  exact ⟨d,by simpa using h1,h2⟩
noncomputable def vD:Nat->iH->Bool
 | 0,_=>false
 | _+1,.none=>true
 | _+1,.bool _=>true
 | _+1,.int _=>true
 | _+1,.str _=>true
 | n+1,.list ds=>decide (ds.length<=1000) && ds.all (vD n)
 | n+1,.tuple ds=>decide (ds.length<=1000) && ds.all (vD n)
 | _+1,_=>false
noncomputable def Ua (n:Nat):Sp:=λvs H Q _=>∃(x y:V) (d:iH),vs=[x,y]/\Dat H x d/\Dat H y d/\vD n d=true/\∀H',jg H H'->Q (.bl true) H'
theorem Qi (K:aj):bx K (.type "str") (.type "bool")=some false:=(qf K _ _).trans (by decide +kernel)
theorem Z0 (K:aj):bx K (.type "str") (.type "int")=some false:=(qf K _ _).trans (by decide +kernel)
theorem k7 (K:aj):bx K (.type "str") (.type "str")=some true:=(qf K _ _).trans (by decide +kernel)
end L2
end
section
namespace L2
open PySem.W
noncomputable def Two (vs:Array ah) (a0:ah):Prop:=vs[0]? = some a0/\vs[2]? = some .none
theorem Two.put {vs:Array ah}{a0:ah}(t:Two vs a0) (x:ah):Two (vs.setIfInBounds 1 x) a0 :=
 ⟨by rw [ib ⋯];exact t.1,by rw [ib ⋯];exact t.2⟩
theorem YR (o:Obj) (f:Array ah->Array ah):(o.mapFields f).dict=o.dict:=by
 obtain ⟨c,d,dt,sl⟩:=o
 cases dt <;> rfl
noncomputable def OnT (h B:Heap) (e:Addr) (cls a0 fl:ah):Prop :=
 ∃oe vs T oT ts,h.get? e=some oe/\(oe.cls=cls/\Two vs a0/\oe.dict=none)/\oe.data = .fields vs/\vs[1]? = some (.ref T)/\B.get? T=none/\T≠e/\h.get? T=some oT/\oT.data = .fields ts/\ts[3]? = some fl
section
variable {M:sQ}{A:br}{E:ah->Shared->Prop}{s:Shared}{B:Heap}{env:Env}{outer l:List Env}{L e:Addr}{cls a0 fl:ah}{Q:Unit->Shared->Prop}
theorem kU (st:B.StaysIn s.heap) (fu:s.heap.FunFrames B l) (on:OnT s.heap B e cls a0 fl)
  (k:∀g,B.StaysIn g->g.FunFrames B l->OnT g B e cls a0 .none->(∀b o,s.heap.get? b=some o->(∀vs,o.data≠.fields vs)->g.get? b=some o)->Q () { s with heap:=g }):aC M A (setFlight (.ref e) none) Q E s:=by
 obtain ⟨oe,vs,T,oT,ts,ge,gc,gd,g1,gB,gn,gT,gD,g3⟩:=on
 have z3:3<ts.size:=(Array.getElem?_eq_some_iff.mp g3).1
 have ot:∀b,b≠T->(s.heap.update T (ir (·.setIfInBounds 3 ((none:Option Addr).elim b0 λf=>cg f)))).get? b=s.heap.get? b:=λb hb =>
  bB _ _ hb.symm
 have nr:∀{b o},s.heap.get? b=some o->(∀vs,o.data≠.fields vs)->b≠T:=λhb hn q=>by
  rw [q,gT] at hb
  cases hb
  exact hn ts gD
 unfold setFlight
 refine af (bW ge gd g1 ?_)
 rw [if_pos (by simp)]
 refine i4 gT gD z3 (k _ (λb o hb=>?_) (fu.of_keeps λb o hb hn=>⟨o,?_,rfl⟩) ?_ λb o hb hn=>?_)
 ·rw [ot b λq=>by rw [q,gB] at hb;cases hb]
  exact st b o hb
 ·rw [ot b (nr hb hn)]
  exact hb
 ·refine ⟨oe,vs,T,_,_,?_,gc,gd,g1,gB,gn,cW _ gT (fe (eP gD _)),eP gD _,by simp [z3]⟩
  rw [ot e gn.symm]
  exact ge
 ·rw [ot b (nr hb hn)]
  exact hb
theorem Qe {oe:Obj}{vs:Array ah}{head:ah}{nx:Bool}(fr:A.frames=some (env::outer)) (fu:s.heap.FunFrames B (env::outer)) (hL:env.frame=some L) (ge:s.heap.get? e=some oe) (st:B.StaysIn s.heap) (ne:B.get? e=none) (gd:oe.data = .fields vs)
  (z1:1<vs.size) (tw:Two vs a0) (dn:oe.dict=none) (k:∀g,B.StaysIn g->g.FunFrames B (env::outer)->OnT g B e oe.cls a0 (cg L)->s.heap.UpToSlots g->Q () { s with heap:=g }) :
  aC M A (do let a <- frameOf env;let pl <- entryPlaceOf L nx;let b <- nK head a .none (cg L) .none pl;setField (.ref e) 1 b) Q E s:=by
 have out:e∉(env::outer).filterMap (·.frame):=λq=>by
  obtain ⟨_,o,ho,hn⟩:=fu.mem q
  rw [ge] at ho
  cases ho
  exact hn vs gd
 refine af (wpAny_frameOf_fun fr fu hL λg1 so=>?_)
 refine af (wpAny_entryPlaceOf λpl sh=>?_)
 unfold nK newFields
 refine af (c3 ?_ (sh.sizeOk5 _ _ _ _ _))
 have e1:g1.get? e=some oe:=(so.2.1 e out).trans ge
 have s1:B.StaysIn g1:=λb o hb=>(so.2.1 b λq=>by rw [(fu.mem q).1] at hb;cases hb).trans (st b o hb)
 generalize hnew:({ cls:=.type "traceback",dict:=none,data:=.fields ([head,.ref L,.none,cg L,.none]++(if pl.isEmpty then bX 6 b0 else pl)).toArray }:Obj)=new
 have nd:new.data = .fields ([head,.ref L,.none,cg L,.none]++(if pl.isEmpty then bX 6 b0 else pl)).toArray:=by rw [<- hnew]
 have e2:=ai (h:=g1) new e1
 refine i4 e2 gd z1 ?_
 have Te:g1.objs.size≠e:=c5 (av e1)
 have d3:=eP gd (·.setIfInBounds 1 (aV g1.objs.size))
 have e3:=cW (ir (·.setIfInBounds 1 (aV g1.objs.size))) e2 (fe d3)
 have T3:((g1.push new).update e (ir (·.setIfInBounds 1 (aV g1.objs.size)))).get? g1.objs.size=some new:=by
  rw [bB _ _ Te.symm]
  exact aA g1 (fe nd)
 have kp:∀{b o},b≠e->g1.get? b=some o->((g1.push new).update e (ir (·.setIfInBounds 1 (aV g1.objs.size)))).get? b=some o:=λhb q=>by
  rw [bB _ _ hb.symm]
  exact ai _ q
 have nr:∀{b o},s.heap.get? b=some o->(∀vs,o.data≠.fields vs)->b≠e:=λhb hn q=>by
  rw [q,ge] at hb
  cases hb
  exact hn vs gd
 refine k _ (λb o hb=>kp (λq=>by rw [q,ne] at hb;cases hb) (s1 b o hb)) (fu.of_keeps λb o hb hn=>?_) ?_ λb o hb hn=>?_
 ·obtain ⟨sl,hs⟩:=so.2.2 b o hb
  exact ⟨_,kp (nr hb hn) hs,rfl⟩
 ·exact ⟨_,_,g1.objs.size,_,_,e3,⟨oW _ _,tw.put _,(YR _ _).trans dn⟩,d3,by simp [z1],s1.fresh,Te,T3,nd,by first | (simp;done) | (rcases sh with rfl | ⟨_,_,_,_,_,_,_,rfl⟩ <;> simp)⟩
 ·obtain ⟨sl,hs⟩:=so.2.2 b o hb
  exact ⟨sl,kp (nr hb hn) hs⟩
theorem UA (fr:A.frames=some (env::outer)) (fu:s.heap.FunFrames B (env::outer)) (hL:env.frame=some L) (on:OnT s.heap B e cls a0 .none) (st:B.StaysIn s.heap) (ne:B.get? e=none)
  (k:∀g,B.StaysIn g->g.FunFrames B (env::outer)->OnT g B e cls a0 (cg L)->s.heap.UpToSlots g->Q () { s with heap:=g }):aC M A (iO (.ref e) env) Q E s:=by
 obtain ⟨oe,vs,T,oT,ts,ge,⟨rfl,tw,dn⟩,gd,g1,gB,gn,gT,gD,g3⟩:=on
 unfold iO
 simp only [hL]
 refine af (bW ge gd g1 ?_)
 rw [if_pos (by simp)]
 refine af (bW gT gD g3 ?_)
 rw [if_neg (by simp [cg])]
 refine af (i4 gT gD (Array.getElem?_eq_some_iff.mp g3).1 ?_)
 have ot:∀b,b≠T->(s.heap.update T (ir (·.setIfInBounds 3 b0))).get? b=s.heap.get? b:=λb hb =>
  bB _ _ hb.symm
 have nr:∀{b o},s.heap.get? b=some o->(∀vs,o.data≠.fields vs)->b≠T:=λhb hn q=>by
  rw [q,gT] at hb
  cases hb
  exact hn ts gD
 refine Qe (oe:=oe) (vs:=vs) (a0:=a0) fr (fu.of_keeps λb o hb hn=>⟨o,?_,rfl⟩) hL ?_ (λb o hb=>?_) ne gd (Array.getElem?_eq_some_iff.mp g1).1 tw dn λg k1 k2 k3 k4=>k g k1 k2 k3 λb o hb hn=>?_
 ·exact (ot b (nr hb hn)).trans hb
 ·exact (ot e gn.symm).trans ge
 ·exact (ot b λq=>by rw [q,gB] at hb;cases hb).trans (st b o hb)
 ·exact k4 b o ((ot b (nr hb hn)).trans hb) hn
theorem VI (fr:A.frames=some (env::outer)) (fu:s.heap.FunFrames B (env::outer)) (hL:env.frame=some L) (on:OnT s.heap B e cls a0 .none) (st:B.StaysIn s.heap) (ne:B.get? e=none)
  (k:∀g,B.StaysIn g->g.FunFrames B (env::outer)->OnT g B e cls a0 .none->s.heap.UpToSlots g->Q () { s with heap:=g }):aC M A (nu env (.ref e)) Q E s:=by
 unfold nu
 refine af (UA fr fu hL on st ne λg k1 k2 k3 k4=>?_)
 exact kU (s:={ s with heap:=g }) k1 k2 k3 λg' m1 m2 m3 m4=>k g' m1 m2 m3 (k4.trans λb o hb hn=>⟨o.slots,m4 b o hb hn⟩)
theorem XS {h:Heap}{args:List ah}(fr:A.frames=some (env::outer)) (hL:env.frame=some L) (st:B.StaysIn h) (fu:h.FunFrames B (env::outer)) (hx:nh h s.heap e cls args)
  (k:∀g t,B.StaysIn g->g.FunFrames B (env::outer)->OnT g B e cls (.ref t) .none->B.get? e=none->s.heap.UpToSlots g->Q () { s with heap:=g }):aC M A (nu env (.ref e)) Q E s:=by
 obtain ⟨t,ge,tn,gt⟩:=hx.there
 have new:B.get? e=none:=by
  cases q:B.get? e with
  | none=>rfl
  | some o =>
   have:=st e o q
   rw [hx.new] at this
   cases this
 unfold nu iO
 simp only [hL]
 refine af (af (bW (x:=.none) ge rfl rfl ?_))
 rw [if_neg ⋯]
 refine Qe (a0:=.ref t) fr (fu.of_keeps λb o hb _=>⟨o,hx.keeps b o hb,rfl⟩) hL ge (λb o hb=>hx.keeps b o (st b o hb)) new rfl (by simp) ⟨rfl,rfl⟩ rfl λg k1 k2 k3 k4=>?_
 exact kU (s:={ s with heap:=g }) k1 k2 k3 λg' m1 m2 m3 m4=>k g' t m1 m2 m3 new (k4.trans λb o hb hn=>⟨o.slots,m4 b o hb hn⟩)
end
end L2
end
section
namespace L2
open PySem.W
structure Fly (g:Heap) (H:Hp) (h:Heap) (a:Addr) (cls fl:ah):Prop where
 na:g.get? a=none
 ha:H a=none
 ob:∃oe vs T oT ts a0,h.get? a=some oe/\(oe.cls=cls/\Two vs a0/\oe.dict=none)/\oe.data = .fields vs/\vs[1]? = some (.ref T)/\g.get? T=none/\H T=none/\T≠a/\h.get? T=some oT/\oT.data = .fields ts/\ts[3]? = some fl
theorem Fly.mono {g g':Heap}{H:Hp}{h:Heap}{a:Addr}{cls fl:ah}(f:Fly g H h a cls fl) (l:∀b o,g'.get? b=some o->∃o',g.get? b=some o'):Fly g' H h a cls fl:=by
 have no:∀{b},g.get? b=none->g'.get? b=none:=λ{b} e=>by
  cases q:g'.get? b with
  | none=>rfl
  | some o =>
   obtain ⟨o',e'⟩:=l b o q
   rw [e] at e'
   cases e'
 obtain ⟨oe,vs,T,oT,ts,a0,h1,h2,h3,h4,h5,h6⟩:=f.ob
 exact ⟨no f.na,f.ha,oe,vs,T,oT,ts,a0,h1,h2,h3,h4,no h5,h6⟩
noncomputable def CX1 (P:Program) (w:b8):CXT:=λouter H s E e s' =>
 ∃a cls H',e = .ref a/\s'.os=s.os/\ip s'.gens/\Un (frs outer) [] H H' s.heap s'.heap/\HOk P w H' s'.heap/\Fly s.heap H' s'.heap a cls .none/\E cls none H'
noncomputable def y7 (X:Cx) (pins:List (Addr×Obj)) (σ:St) (H':Hp) (s1:Shared) (a:Addr) (cls fl:ah):Prop :=
 ∃s H,Inv X pins σ H s/\s1.os=s.os/\ip s1.gens/\Un (frs X.stack) [] H H' s.heap s1.heap/\HOk X.prog X.w H' s1.heap/\Fly s.heap H' s1.heap a cls fl
theorem kl {P:Program}{w:b8}{H:Hp}{h:Heap}{a:Addr}{o:HO}(x:qg P w H h a o):∃ob,h.get? a=some ob:=by
 cases o with
 | lst xs=>obtain ⟨_,_,_,_,e⟩:=x;exact ⟨_,e⟩
 | tup xs=>obtain ⟨_,_,_,ob,e,_⟩:=x;exact ⟨_,e⟩
 | dK kvs=>obtain ⟨_,_,_,_,ob,_,_,e,_⟩:=x;exact ⟨_,e⟩
 | dT kvs=>obtain ⟨_,_,_,_,ob,_,_,e,_⟩:=x;exact ⟨_,e⟩
 | set S n=>obtain ⟨ob,_,_,_,e,_⟩:=x;exact ⟨_,e⟩
 | ins C dx fs=>obtain ⟨_,_,_,e,_⟩:=x;exact ⟨_,e⟩
 | own y=>exact x
 | xd fs=>obtain ⟨_,⟨_,_,_,e,_⟩,_⟩:=x;exact ⟨_,e⟩
 | rng lo hi=>obtain ⟨_,_,_,e⟩:=x;exact ⟨_,e⟩
 | frz ob u=>obtain ⟨e,_⟩:=x;exact ⟨_,e⟩
 | tbl ps=>exact ⟨_,(show h.get? a=some _ from x)⟩
 | met f y=>exact ⟨_,(show h.get? a=some _ from x)⟩
 | ext φ=>obtain ⟨_,e,_⟩:=x;exact e
section
variable {X:Cx}{pins:List (Addr×Obj)}{σ:St}{H H':Hp}{s s1:Shared}{a:Addr}{cls fl:ah}
theorem y7.inv (f:y7 X pins σ H' s1 a cls fl):Inv X pins σ H' s1:=by
 obtain ⟨s,H,I,os,b,u,ok,fy⟩:=f
 exact I.call' os u ok b (λb z=>absurd z (by simp))
theorem y7.fly (hex:X.ex=[]) (f:y7 X pins σ H' s1 a cls fl):Fly X.s₀.heap H' s1.heap a cls fl:=by
 obtain ⟨s,H,I,os,b,u,ok,fy⟩:=f
 exact fy.mono λc o e=>I.base.there c o e (by rw [hex];exact λz=>by cases z)
theorem y7.under (f:y7 X pins σ H' s1 a cls .none):∃B a0,(B.StaysIn s1.heap/\B.get? a=none/\s1.heap.FunFrames B X.stack/\OnT s1.heap B a cls a0 .none) /\
  ∀h2 fl2,B.StaysIn h2->s1.heap.UpToSlots h2->OnT h2 B a cls a0 fl2->y7 X pins σ H' { s1 with heap:=h2 } a cls fl2:=by
 have I1:=f.inv
 obtain ⟨s,H,I,os,b,u,ok,fy⟩:=f
 obtain ⟨oe,vs,T,oT,ts,a0,h1,h2,h3,h4,h5,h6,h7,h8,h9,h10⟩:=fy.ob
 have fr:=I1.stack
 have fs:∀b∈frs X.stack,b≠a/\b≠T:=λb hb=>by
  obtain ⟨_,o,ho,hn⟩:=fr.mem hb
  refine ⟨λz=>?_,λz=>?_⟩
  ·rw [z,h1] at ho;cases ho;exact hn _ h3
  ·rw [z,h8] at ho;cases ho;exact hn _ h9
 have in_:∀env∈X.stack,∀c,env.frame=some c->c∈a::T::frs X.stack:=λenv he c hc=>az _ (az _ (List.mem_filterMap.mpr ⟨env,he,hc⟩))
 have noB:∀{c o},s1.heap.get? c=some o->c≠a->c≠T->c∉frs X.stack->(hideAll s1.heap (a::T::frs X.stack)).get? c=some o:=λe n1 n2 n3 =>
  hideAll_get _ e (by simp only [dW,not_or];exact ⟨n1,n2,n3⟩)
 refine ⟨hideAll s1.heap (a::T::frs X.stack),a0,⟨λb o q=>of_hideAll _ q,hideAll_none _ (.head _),rW fr in_,oe,vs,T,oT,ts,h1,h2,h3,h4,hideAll_none _ (.tail _ (.head _)),h7,h8,h9,h10⟩,λhp fl2 st up tr=>?_⟩
 have lo:∀{c o},s.heap.get? c=some o->c≠a/\c≠T:=λ{c o} e=>⟨λz=>(by rw [z,fy.na] at e;cases e),λz=>(by rw [z,h5] at e;cases e)⟩
 have frn:∀{c o},s1.heap.get? c=some o->c∈frs X.stack->∀vs,o.data≠.fields vs:=λe hc=>by
  obtain ⟨_,o',ho,hn⟩:=fr.mem hc
  rw [e] at ho;cases ho;exact hn
 refine ⟨s,H,I,os,b,⟨λc o e n nf nx=>?_,λc o e n hf nx=>?_,λc o e n nx=>u.free c o e n nx,λc o e nx=>?_,u.tups,u.frzs,u.tbls⟩,λc o hc=>?_,?_⟩
 ·exact st _ _ (noB (u.keep c o e n nf nx) (lo e).1 (lo e).2 nf)
 ·obtain ⟨sl,e1⟩:=u.slot c o e n hf nx
  obtain ⟨sl2,e2⟩:=up c _ e1 (frn e1 hf)
  exact ⟨sl2,e2⟩
 ·obtain ⟨o1,e1⟩:=u.there c o e nx
  by_cases hf:c∈frs X.stack
  ·obtain ⟨sl2,e2⟩:=up c _ e1 (frn e1 hf)
   exact ⟨_,e2⟩
  ·exact ⟨o1,st _ _ (noB e1 (lo e).1 (lo e).2 hf)⟩
 ·refine (ok c o hc).stay (λc' o' hc' e=>?_) (λ_ e=>e) λ_ _ e=>e
  have hne:H' c'≠none:=by
   rcases hc' with z | z
   ·rw [z,hc];exact λy=>by cases y
   ·rw [z];exact λy=>by cases y
  exact st _ _ (noB e (λz=>hne (by rw [z];exact fy.ha)) (λz=>hne (by rw [z];exact h6)) λz=>hne (I1.stkFree _ z))
 ·obtain ⟨oe2,vs2,T2,oT2,ts2,g1,g2,g3,g4,g5,g6,g7,g8,g9⟩:=tr
  have key:T2=T\/s1.heap.get? T2=none:=by
   cases q:s1.heap.get? T2 with
   | none=>exact .inr rfl
   | some o =>
    refine .inl ?_
    by_cases hT:T2=T
    ·exact hT
    ·by_cases hf:T2∈frs X.stack
     ·obtain ⟨sl2,e2⟩:=up T2 _ q (frn q hf)
      rw [e2] at g7
      cases g7
      exact absurd g8 (frn q hf _)
     ·have:=noB q g6 hT hf
      rw [g5] at this
      cases this
  refine ⟨fy.na,fy.ha,oe2,vs2,T2,oT2,ts2,a0,g1,g2,g3,g4,?_,?_,g6,g7,g8,g9⟩
  ·rcases key with z | z
   ·rw [z];exact h5
   ·cases q:s.heap.get? T2 with
    | none=>rfl
    | some o =>
     obtain ⟨o',e'⟩:=u.there T2 o q (by simp)
     rw [z] at e'
     cases e'
  ·rcases key with z | z
   ·rw [z];exact h6
   ·cases q:H' T2 with
    | none=>rfl
    | some o =>
     obtain ⟨o',e'⟩:=kl (ok T2 o q)
     rw [z] at e'
     cases e'
theorem y7.leave {Q:Unit->Shared->Prop}{E:ah->Shared->Prop}(f:y7 X pins σ H' s1 a cls .none) (st:X.stack=X.env::X.outer) (hf:X.env.frame=some X.env.locals)
  (k:∀h2,y7 X pins σ H' { s1 with heap:=h2 } a cls .none->Q () { s1 with heap:=h2 }):aC (aH X.prog X.w) X.A (nu X.env (.ref a)) Q E s1:=by
 obtain ⟨B,a0,fw,up⟩:=f.under
 have fr:X.A.frames=some (X.env::X.outer):=by rw [<- st];exact f.inv.ok.frames
 rw [st] at fw
 obtain ⟨f1,f2,f3,f4⟩:=fw
 exact VI fr f3 hf f4 f1 f2 λh2 k1 k2 k3 k4=>k h2 (up h2 .none k1 k4 k3)
theorem Xu {vs:List ah}{h1:Heap}{Q:Unit->Shared->Prop}{E:ah->Shared->Prop}(I:Inv X pins σ H s) (hx:nh s.heap h1 a cls vs) (st:X.stack=X.env::X.outer) (hf:X.env.frame=some X.env.locals)
  (k:∀h2,y7 X pins σ H { s with heap:=h2 } a cls .none->Q () { s with heap:=h2 }):aC (aH X.prog X.w) X.A (nu X.env (.ref a)) Q E { s with heap:=h1 }:=by
 have fr:X.A.frames=some (X.env::X.outer):=by rw [<- st];exact I.ok.frames
 have fun0:=I.stack
 have in_:∀env∈X.stack,∀c,env.frame=some c->c∈frs X.stack:=λenv he c hc=>List.mem_filterMap.mpr ⟨env,he,hc⟩
 have fun1:=rW fun0 in_
 have frn:∀{c o},s.heap.get? c=some o->c∈frs X.stack->∀vs,o.data≠.fields vs:=λe hc=>by
  obtain ⟨_,o',ho,hn⟩:=fun0.mem hc
  rw [e] at ho;cases ho;exact hn
 rw [st] at fun1
 refine XS (s:={ s with heap:=h1 }) (B:=hideAll s.heap (frs (X.env::X.outer))) (h:=s.heap) fr hf (λb o q=>of_hideAll _ q) fun1 hx λh2 t b1 b2 fw b3 up=>?_
 rw [<- st] at fw b1
 obtain ⟨oe,ws,T,oT,ts,g1,g2,g3,g4,g5,g6,g7,g8,g9⟩:=fw
 have keepB:∀{c o},s.heap.get? c=some o->c∉frs X.stack->h2.get? c=some o:=λe n=>b1 _ _ (hideAll_get _ e n)
 have slotB:∀{c o},s.heap.get? c=some o->c∈frs X.stack->∃sl,h2.get? c=some { o with slots:=sl }:=λ{c o} e hc=>up c o (hx.keeps _ _ e) (frn e hc)
 have nT:s.heap.get? T=none:=by
  cases q:s.heap.get? T with
  | none=>rfl
  | some o =>
   exfalso
   by_cases hc:T∈frs X.stack
   ·obtain ⟨sl,e⟩:=slotB q hc
    rw [e] at g7
    cases g7
    exact frn q hc _ g8
   ·rw [hideAll_get _ q hc] at g5
    cases g5
 have hn:∀{c},s.heap.get? c=none->H c=none:=λ{c} e=>by
  cases q:H c with
  | none=>rfl
  | some o =>
   obtain ⟨o',e'⟩:=kl (I.hok c o q)
   rw [e] at e'
   cases e'
 refine k h2 ⟨s,H,I,rfl,I.bare,⟨λc o e n nf nx=>keepB e nf,λc o e n hf nx=>slotB e hf,λc o e n nx=>n,λc o e nx=>?_,λ_ _ e=>e,λ_ _ _ e=>e,λc ps e=>⟨#[],by rw [e];simp⟩⟩,λc o hc=>?_,hx.new,hn hx.new,oe,ws,T,oT,ts,.ref t,g1,g2,g3,g4,nT,hn nT,g6,g7,g8,g9⟩
 ·by_cases hc:c∈frs X.stack
  ·obtain ⟨sl,e2⟩:=slotB e hc
   exact ⟨_,e2⟩
  ·exact ⟨o,keepB e hc⟩
 ·refine (I.hok c o hc).stay (λc' o' hc' e=>?_) (λ_ e=>e) λ_ _ e=>e
  refine keepB e λz=>?_
  have:=I.stkFree _ z
  rcases hc' with y | y
  ·rw [y,hc] at this;cases this
  ·rw [y] at this;cases this
end
noncomputable def Acc (X:Cx) (J:ah->St->Hp->Prop):Prop:=∀(pins:List (Addr×Obj)) (σ:St) (H':Hp) (s1:Shared) (a:Addr) (cls:ah),y7 X pins σ H' s1 a cls .none->J cls σ H'->X.xe (.ref a) s1
noncomputable def WF (sp:Sp) (J:ah->St->Hp->Prop) (t:TA):TE:=λσ H Q=>t σ H λvs H1=>sp vs H1 Q λcls _ H'=>J cls σ H'
structure CalX (P:Program) (w:b8) (K:aj) (mg:Str->Option ah) (base:Heap) (k:Nat) (x:Str) (ps:List Str) (sp:Sp):Prop where
 ex:∃f fd,FnOk P w K mg base (CX1 P w) k f fd ps sp/\zZ K fd ps []/\mg x=some (.ref f)/\c6 K (.ref f)=true
theorem yt {X:Cx}{k:Nat}{x:Str}{ps:List Str}{sp:Sp}{e:Expr}{es:List Expr}{t:TA}{p pos:Pos}{J:ah->St->Hp->Prop}(c:CalX X.prog X.w X.K X.mg X.base k x ps sp) (hr:Room k X.A) (ac:Acc X J) (hg:Gl X x) (ha:PA X (e::es) t)
  (hdb:(x == ("__debug__" : Str))=false:=by decide) (he:aN (e::es) X.env=(false,eval e X.env)::aN es X.env:=by rfl) (hpl:(cz pos (aN es X.env)).any (·.1)=false:=by rfl) :
  PE X (.Call (.Name x p) (e::es) [] pos) (WF sp J t):=by
 obtain ⟨f,fd,F,hb,hm,hk⟩:=c.ex
 intro pins s σ H Q I h
 refine cY (uh I hg hm ?_ hdb)
 refine eO (h₀:=X.base) I.ok.mod.kin hk (thn (ha pos pins s σ H _ I h) λus s1 ⟨vs,H1,I1,r,q⟩=>⟨I1.kIn,?_⟩) he hpl
 have hl:us.length=ps.length:=by rw [<- r.length];exact F.len _ _ _ _ q
 have hb':=hb s1 us I1.kIn (by rw [bc];exact hl)
 rw [bc] at hb'
 refine lZ (dJ (F.run X.A X.stack s1 H1 ⟨us,[]⟩ us vs Q _ hr I1.env0 hb' r q) λr s' hq=>?_)
 cases r with
 | error e =>
  obtain ⟨a,cls,H',rfl,os,b,u,ok,fy,j⟩:=hq
  exact ac pins σ H' s' a cls ⟨s1,H1,I1,os,b,u,ok,fy⟩ j
 | ok fl =>
  cases fl with
  | ret u=>exact I1.after hq
  | next=>exact bH hq
  | brk=>exact bH hq
  | cont=>exact bH hq
theorem CalX.cal {P:Program}{w:b8}{K:aj}{mg:Str->Option ah}{base:Heap}{k:Nat}{x:Str}{ps:List Str}{sp:Sp}(c:CalX P w K mg base k x ps sp):Cal P w K mg base k x ps (λvs H Q _=>sp vs H Q E0):=by
 obtain ⟨f,fd,F,hb,hm,hk⟩:=c.ex
 refine ⟨f,fd,⟨λvs H Q E h=>F.len vs H Q E0 h,λA outer s H args us vs Q E hr he hb hv hs=>dJ (F.run A outer s H args us vs Q E0 hr he hb hv hs) λr s' q=>?_⟩,hb,hm,hk⟩
 cases r with
 | error e =>
  obtain ⟨a,cls,H',_,_,_,_,_,_,j⟩:=q
  exact bH j
 | ok fl =>
  cases fl with
  | ret u=>exact q
  | next=>exact q
  | brk=>exact q
  | cont=>exact q
theorem qO {P:Program}{w:b8}{K:aj}{mg:Str->Option ah}{base:Heap}{N:List Str}{qual:Str}{scope:Scope}{f:Addr}{cd:ah}{A:br}{outer:List Env}{s:Shared}{H:Hp}{E:XK} :
  Acc (vx (CX1 P w) P w K mg base N qual scope f cd A outer s H E) λcls _ H'=>E cls none H':=by
 intro pins σ H' s1 a cls fl j
 refine y7.leave (X:=vx (CX1 P w) P w K mg base N qual scope f cd A outer s H E) fl rfl rfl λh2 f2=>?_
 exact ⟨a,cls,H',rfl,f2.inv.os,f2.inv.bare,f2.inv.base,f2.inv.hok,f2.fly rfl,j⟩
noncomputable def GK (X:Cx) (J:ah->St->Hp->Prop):Prop:=∀(pins:List (Addr×Obj)) (σ:St) (H:Hp) (s:Shared) (h1:Heap) (a:Addr) (cls:ah) (vs:List ah),Inv X pins σ H s->nh s.heap h1 a cls vs->J cls σ H->X.xe (.ref a) { s with heap:=h1 }
theorem zd {P:Program}{w:b8}{K:aj}{mg:Str->Option ah}{base:Heap}{N:List Str}{qual:Str}{scope:Scope}{f:Addr}{cd:ah}{A:br}{outer:List Env}{s:Shared}{H:Hp}{E:XK} :
  GK (vx (CX1 P w) P w K mg base N qual scope f cd A outer s H E) λcls _ H'=>E cls none H':=by
 intro pins σ H' s1 h1 a cls vs I hx j
 refine Xu (X:=vx (CX1 P w) P w K mg base N qual scope f cd A outer s H E) I hx rfl rfl λh2 f2=>?_
 exact ⟨a,cls,H',rfl,f2.inv.os,f2.inv.bare,f2.inv.base,f2.inv.hok,f2.fly rfl,j⟩
theorem Wo {K:aj}{h:Heap}{C:Addr}{bmB:List ah}{newId:String}(X:K.In h) (q:excIn K C bmB newId=true) :
  ∃bm N nm q bs hdct sn sub ab col dd k0 k1 k2 k3 k5 mN,h.get? C=some (excClassObj nm q C N bs bm hdct sn sub ab col dd k0 k1 k2 k3 k5 newId)/\h.Ns N mN/\mN "__init__" = none/\OwnTail h bmB bm:=by
 unfold excIn at q
 split at q
 ·rename_i dd cd sl ho
  split at q
  ·rename_i C' bm k0 k1 k2 k3 n k5 em es
   simp only [bh,beq_iff_eq,Bool.not_eq_true'] at q
   obtain ⟨⟨⟨⟨⟨rfl,rfl⟩,e1⟩,e2⟩,e3⟩,e4⟩:=q
   obtain ⟨nm,bs,mro,ns,qn,hd,sn,sub,ab,col,del⟩:=cd
   dsimp only at em e1 e3 e4
   subst em e1
   have e5:sl = #[k0,k1,k2,k3,some (.builtin n),k5]:=by obtain ⟨l⟩:=sl;simp only at es;rw [es]
   subst e5
   exact ⟨bm,ns,nm,qn,bs,hd,sn,sub,ab,col,dd,k0,k1,k2,k3,k5,_,X _ _ ho,.of_isNs (isNs_of_in X e3),nsMap_none_of_in X e3 e4,tail_of_in X e2⟩
  ·cases q
 ·cases q
theorem xu {X:Cx}{x:Str}{np cpos pos:Pos}{e:Expr}{es:List Expr}{t:TA}{C:Addr}{B newId initId:String}{bmB:List ah}{J:ah->St->Hp->Prop}(FB:ExcBaseFacts B newId initId bmB) (O:excIn X.K C bmB newId=true) (hm:X.mg x=some (.ref C)) (hc:X.calm=true) (am:GK X J)
  (hg:Gl X x) (ha:PA X (e::es) t) (hdb:(x == ("__debug__" : Str))=false:=by decide) (he:aN (e::es) X.env=(false,eval e X.env)::aN es X.env:=by rfl) (hpl:(cz cpos (aN es X.env)).any (·.1)=false:=by rfl) :
  PS X (.Raise (some (.Call (.Name x np) (e::es) [] cpos)) none pos) (λD σ H=>t σ H λvs H1=>vs.length<=sizeLine/\J (.ref C) σ H1):=by
 intro pins s σ H D I h
 obtain ⟨bm,N,nm,q,bs,hdct,sn,sub,ab,col,dd,k0,k1,k2,k3,k5,mN,hC,hN,hni,T⟩:=Wo I.ok.mod.kin O
 have h':=ha cpos pins s σ H _ I h
 rw [he] at h'
 refine wpAny_Raise_call_subT (C:=C) (nm:=nm) (q:=q) (N:=N) (bs:=bs) (bm:=bm) (hdct:=hdct) (sn:=sn) (sub:=sub) (ab:=ab) (col:=col) (dd:=dd) (k0:=k0) (k1:=k1) (k2:=k2) (k3:=k3) (k5:=k5)
  FB (mN:=mN) (T.hasType FB.hasBase) (I.ok.hd hc) (by rw [he];show (false || (cz cpos (aN es X.env)).any (·.1))=false;rw [hpl];rfl) hni (uh I hg hm ⟨rfl,?_⟩ hdb)
 rw [he]
 refine iz (thn h' λus s2 ⟨vs,H2,I2,r,hl,j⟩=>⟨rfl,by rw [<- r.length];exact hl,I2.bk _ _ hC,hN.keeps I2.bk,T.keeps I2.bk,λh1 a hx=>am pins σ H2 s2 h1 a (.ref C) _ I2 hx j⟩)
theorem Fun.okX {P:Program}{w:b8}{K:aj}{mg:Str->Option ah}{base:Heap}{x qual:Str}{st:Stmt}{f:Addr}{fd:FuncData}{N ps:List Str}{k:Nat}{sp:Sp}(F:Fun K x qual st f fd) (S:FnScope N ps (j7 st)) (len:∀vs H Q E,sp vs H Q E->vs.length=ps.length)
  (hbody:∀(cdv:ah) (A:br) (outer:List Env) (s:Shared) (H:Hp) (vs:List V) (Q:VK) (E:XK),Room k (A.deeper (lC qual (j7 st) s.heap.objs.size f cdv))->sp vs H Q E ->
   ∃t,PSs (vx (CX1 P w) P w K mg base N qual (j7 st) f cdv A outer s H E) (jP st) t/\t { nx:=λ_ H'=>Q .non H',rt:=Q } (start N vs) H):FnOk P w K mg base (CX1 P w) (k+1) f fd ps sp:=by
 obtain ⟨oc,od,kV,doc,pm,an,cdv,ct,osl,rfl,lk,hcd⟩:=F.ex
 exact VB lk hcd S len λA outer s H vs Q E hr hsp=>hbody cdv A outer s H vs Q E hr hsp
theorem CalX.mk' {P:Program}{w:b8}{K:aj}{mg:Str->Option ah}{base:Heap}{k:Nat}{x:Str}{ps:List Str}{sp:Sp}{st:Stmt}{h:Heap}{f:Addr}{oc:ah}{od an:Option Addr}{osl:Array (Option ah)}{kV doc pm cdv ct:ah}
  (X:K.In h) (G:h.Ns mainGlobals mg) (a:aU K mainGlobals x=some (some (.ref f)))
  (l:K.lookup f=some ⟨oc,od,.func (bL x x (jW st) (jP st) (j7 st) .none kV doc pm an cdv ct),osl⟩) (c:cQ K cdv x=true) (k':c6 K (.ref f)=true)
  (hb:∀(kV doc pm:ah) (an:Option Addr) (cdv ct:ah) (us:List ah),us.length=ps.length->cP (bL x x (jW st) (jP st) (j7 st) .none kV doc pm an cdv ct) ⟨us,[]⟩=pure (ps.zip us))
  (ok:∀{f:Addr} {fd:FuncData},Fun K x x st f fd->FnOk P w K mg base (CX1 P w) k f fd ps sp):CalX P w K mg base k x ps sp:=by
 have F:=vA (st:=st) l c k'
 exact ⟨f,_,ok F,F.binds hb,bw X G a,k'⟩
end L2
end
section
namespace L2
open PySem.W
section
variable {X:Cx}{pins pn:List (Addr×Obj)}{σ:St}{H:Hp}{s:Shared}{J:ah->St->Hp->Prop}
theorem okP (ok:X.Ok) (Y:Cx) (h:Y={ X with pn:=Y.pn,xe:=Y.xe }):Y.Ok:=by
 rw [h]
 exact ⟨ok.mod,ok.kind,ok.glob,ok.blt,ok.above,ok.inj,ok.has,ok.cab,ok.hd,ok.frames,ok.stk,ok.exf,ok.bs,ok.bsz,ok.noex,ok.exfs,ok.funs,ok.frf⟩
theorem spOf {Y:Cx}{pins':List (Addr×Obj)}{D:Ends}{f:Flow}{s':Shared}(g:∀{σ H},Inv Y pins' σ H s'->Inv X pins σ H s') (h:SP Y pins' D f s'):SP X pins D f s':=by
 cases f with
 | next=>obtain ⟨σ',H',I,q⟩:=h;exact ⟨σ',H',g I,q⟩
 | brk=>obtain ⟨σ',H',I,q⟩:=h;exact ⟨σ',H',g I,q⟩
 | cont=>obtain ⟨σ',H',I,q⟩:=h;exact ⟨σ',H',g I,q⟩
 | ret u=>obtain ⟨v,σ',H',I,r,q⟩:=h;exact ⟨v,σ',H',g I,r,q⟩
end
end L2
end
section
namespace L2
open PySem.W
section
variable {s:Shared}{A:br}{prog:Program}{w:b8}{E:ah->Shared->Prop}
end
section
variable {X:Cx}
end
end L2
end
section
namespace L2
open PySem.W
end L2
end
section
namespace L2
open PySem.W
section
variable {X:Cx}{o e:Expr}{es:List Expr}{to:TE}{t:TA}{name:Str}{apos cpos:Pos}{id:String}{r:V->List V->Hp->VK->Prop}
end
end L2
end
section
namespace L2
open PySem.W
noncomputable abbrev wz (ifs:List Expr) (env:Env):Sem Bool:=sU ifs true λc r=>if r=true then do let ok <- isTrue c env (eval c env);pure (c7 ok) else pure (c7 r)
noncomputable abbrev xE (elt tg iter tg2 iter2:Expr) (ifs ifs2:List Expr) (scope:Scope) (pos:Pos):Expr:=.ListComp elt [⟨tg,iter,ifs,0⟩,⟨tg2,iter2,ifs2,0⟩] scope pos
theorem ZX (elt tg iter tg2 iter2:Expr) (ifs ifs2:List Expr) (scope:Scope) (pos:Pos) (it acc:ah) (env:Env) :
  oO (xE elt tg iter tg2 iter2 ifs ifs2 scope pos) 0 it acc env=(fg iter.pos >>= λ_=>fQ it >>= λr=>match r with
   | none=>pure (.done .next)
   | some v=>dh tg it v >>= λ_=>fB tg env v >>= λ_=>wz ifs env >>= λok =>
    (if ok=true then (eval iter2 env >>= λx=>fg iter2.pos >>= λ_=>cB iter2 env x >>= λx=>dY [x] (mQ x) >>= λi2=>runOwn (.compStart (xE elt tg iter tg2 iter2 ifs ifs2 scope pos) 1 i2 acc env) env >>= λ_=>again (.compLoop (xE elt tg iter tg2 iter2 ifs ifs2 scope pos) 0 it acc env))
     else again (.compLoop (xE elt tg iter tg2 iter2 ifs ifs2 scope pos) 0 it acc env))):=by
 rfl
theorem YY (elt tg iter tg2 iter2:Expr) (ifs ifs2:List Expr) (scope:Scope) (pos:Pos) (it acc:ah) (env:Env) :
  oO (xE elt tg iter tg2 iter2 ifs ifs2 scope pos) 1 it acc env=(fg iter2.pos >>= λ_=>fQ it >>= λr=>match r with
   | none=>pure (.done .next)
   | some v=>dh tg2 it v >>= λ_=>fB tg2 env v >>= λ_=>wz ifs2 env >>= λok =>
    (if ok=true then ((eval elt env >>= λx=>call (.builtin "list.append") [acc,x] >>= λ_=>pure ()) >>= λ_=>again (.compLoop (xE elt tg iter tg2 iter2 ifs ifs2 scope pos) 1 it acc env))
     else again (.compLoop (xE elt tg iter tg2 iter2 ifs ifs2 scope pos) 1 it acc env))):=by
 rfl
section
variable {s:Shared}{A:br}{prog:Program}{w:b8}{R:lY->Shared->Prop}{elt tg iter tg2 iter2:Expr}{ifs ifs2:List Expr}{scope:Scope}{pos:Pos}{it acc:ah}{env:Env}
theorem V6 (I:Nat->Shared->Prop)
  (turn:∀n s,I n s->aC (aH prog w) A (fQ it) (λr s₁=>match r with
   | none=>R (.ok .next) s₁
   | some v=>aC (aH prog w) A (dh tg2 it v) (λ_ s₂=>aC (aH prog w) A (fB tg2 env v) (λ_ s₃=>aC (aH prog w) A (wz ifs2 env) (λok s₄ =>
      if ok=true then aC (aH prog w) A (eval elt env) (λx s₅=>aC (aH prog w) A (call (.builtin "list.append") [acc,x]) (λ_ s₆=>∃m,m<n/\I m s₆) (λ_ _=>False) s₅) (λ_ _=>False) s₄
      else ∃m,m<n/\I m s₄) (λ_ _=>False) s₃) (λ_ _=>False) s₂) (λ_ _=>False) s₁) (λ_ _=>False) s)
  (n:Nat) (h:I n s):cO (aH prog w) A (.compLoop (xE elt tg iter tg2 iter2 ifs ifs2 scope pos) 1 it acc env) R s:=by
 refine oN rfl I (λn s hI=>?_) n h
 show aC _ A ((oO (xE elt tg iter tg2 iter2 ifs ifs2 scope pos) 1 it acc env).onRaise (λx=>do iO x env;mx x)) _ _ s
 refine pN ?_;rw [YY]
 refine af (cF (af (b9 (turn n s hI) (λr s₁ h₁=>?_) λ_ _ h'=>h'.elim)))
 cases r with
 | none=>exact wpAny_pure h₁
 | some v =>
  refine af (b9 h₁ (λ_ s₂ h₂=>?_) λ_ _ h'=>h'.elim)
  refine af (b9 h₂ (λ_ s₃ h₃=>af (b9 h₃ (λok s₄ h₄=>?_) λ_ _ h'=>h'.elim)) λ_ _ h'=>h'.elim)
  cases ok with
  | false=>exact wpAny_pure ⟨rfl,h₄⟩
  | true=>exact af (af (b9 h₄ (λx s₅ h₅=>af (b9 h₅ (λ_ s₆ h₆=>wpAny_pure (wpAny_pure ⟨rfl,h₆⟩)) λ_ _ h'=>h'.elim)) λ_ _ h'=>h'.elim))
theorem ZL {R:lY->Shared->Prop}(h0:cO (aH prog w) A (.compLoop (xE elt tg iter tg2 iter2 ifs ifs2 scope pos) 1 it acc env) R s)
  (h:aC (aH prog w) A (mQ it) (λi2 s'=>cO (aH prog w) A (.compLoop (xE elt tg iter tg2 iter2 ifs ifs2 scope pos) 1 i2 acc env) R s') (λ_ _=>False) s) :
  cO (aH prog w) A (.compStart (xE elt tg iter tg2 iter2 ifs ifs2 scope pos) 1 it acc env) R s:=by
 refine codeAny_of_tree ?_
 show aC _ _ ((compStart (xE elt tg iter tg2 iter2 ifs ifs2 scope pos) 1 it acc env).onRaise (λx=>do iO x env;fg theWindowsPlace)) _ _ s
 refine wpAny_notedAt ?_;unfold compStart;show aC _ _ (ask >>= _) _ _ s
 refine af (wpAny_askSetting (wpAny_ite ?_))
 split
 ·first | exact af (wpAny_pure (wpAny_pure (fN rfl h0))) | exact wpAny_pure (fN rfl h0)
 ·first
   | exact af (fI (af (cF (af (b9 h (λi2 s' h'=>wpAny_pure (fN rfl h')) λ_ _ x=>x.elim)))))
   | (refine af (fI ?_);show aC _ _ (fg iter2.pos >>= _) _ _ s;exact af (cF (af (b9 h (λi2 s' h'=>wpAny_pure (fN rfl h')) λ_ _ x=>x.elim))))
theorem Y3 (I:Nat->Shared->Prop) (hs2:∀x,cB iter2 env x=pure x)
  (turn:∀n s,I n s->aC (aH prog w) A (fQ it) (λr s₁=>match r with
   | none=>R (.ok .next) s₁
   | some v=>aC (aH prog w) A (dh tg it v) (λ_ s₂=>aC (aH prog w) A (fB tg env v) (λ_ s₃=>aC (aH prog w) A (wz ifs env) (λok s₄ =>
      if ok=true then aC (aH prog w) A (eval iter2 env) (λx s₅=>aC (aH prog w) A (mQ x) (λi2 s₆=>cO (aH prog w) A (.compStart (xE elt tg iter tg2 iter2 ifs ifs2 scope pos) 1 i2 acc env) (λr s'=>match r with | .ok _=>∃m,m<n/\I m s' | .error _=>False) s₆) (λ_ _=>False) s₅) (λ_ _=>False) s₄
      else ∃m,m<n/\I m s₄) (λ_ _=>False) s₃) (λ_ _=>False) s₂) (λ_ _=>False) s₁) (λ_ _=>False) s)
  (n:Nat) (h:I n s):cO (aH prog w) A (.compLoop (xE elt tg iter tg2 iter2 ifs ifs2 scope pos) 0 it acc env) R s:=by
 refine oN rfl I (λn s hI=>?_) n h
 show aC _ A ((oO (xE elt tg iter tg2 iter2 ifs ifs2 scope pos) 0 it acc env).onRaise (λx=>do iO x env;mx x)) _ _ s
 refine pN ?_;rw [ZX]
 refine af (cF (af (b9 (turn n s hI) (λr s₁ h₁=>?_) λ_ _ h'=>h'.elim)))
 cases r with
 | none=>exact wpAny_pure h₁
 | some v =>
  refine af (b9 h₁ (λ_ s₂ h₂=>?_) λ_ _ h'=>h'.elim)
  refine af (b9 h₂ (λ_ s₃ h₃=>af (b9 h₃ (λok s₄ h₄=>?_) λ_ _ h'=>h'.elim)) λ_ _ h'=>h'.elim)
  cases ok with
  | false=>exact wpAny_pure ⟨rfl,h₄⟩
  | true =>
   refine af (b9 h₄ (λx s₅ h₅=>af (cF (af (pQ (hs2 x) (af (bR (b9 h₅ (λi2 s₆ h₆=>af (wpAny_runOwn ?_)) λ_ _ h'=>h'.elim))))))) λ_ _ h'=>h'.elim)
   rw [Around.mark_none]
   refine dJ h₆ λr s' q=>?_
   cases r with
   | ok f=>exact wpAny_pure ⟨rfl,q⟩
   | error e=>exact q.elim
end
noncomputable def wG (acc:Addr) (g2:TG) (ti2:TT) (te:TE) (J2:It) (NX:St->Hp->Prop) (σ3:St) (H5:Hp):Prop :=
 ∃W2:Nat->Nat->St->Hp->Prop,(∃m,W2 0 m σ3 H5)/\∀j m σ6 H6,W2 j m σ6 H6->(J2.stop j H6/\NX σ6 H6)\/(J2.go j H6/\∃NX2:St->Hp->Prop,(∀σ7 H7,NX2 σ7 H7->∃m',m'<m/\W2 (j+1) m' σ7 H7) /\
  ∀y H7,J2.yld j H6 y H7->g2 y σ6 H7 λσ8 H8=>ti2 σ8 H8 λok2 H9=>if ok2=true then te σ8 H9 λv H10=>∃ys,H10 acc=some (.lst ys)/\ys.length<sizeLine/\NX2 σ8 (upd H10 acc (.lst (ys++[v]))) else NX2 σ8 H9)
section
variable {X:Cx}{pos:Pos}
noncomputable def Wi (own:Nat) (caps:List Nat) (wi:TI) (g:TG) (ti:TT) (wi2:TI) (g2:TG) (ti2:TT) (te:TE):TE:=λσ H Q=>wi σ H λJ H1=>∀acc,H1 acc=none ->
 ∃W:Nat->Nat->St->Hp->Prop,(∃m,W 0 m (zc own caps σ) (upd H1 acc (.lst [])))/\∀i m σ' H',W i m σ' H' ->
  (J.stop i H'/\Q (.ref acc) H') \/
  (J.go i H'/\∃NX:St->Hp->Prop,(∀σ2 H2,NX σ2 H2->∃m',m'<m/\W (i+1) m' σ2 H2) /\
   ∀x H2,J.yld i H' x H2->g x σ' H2 λσ3 H3=>ti σ3 H3 λok H4=>if ok=true then wi2 σ3 H4 λJ2 H5=>wG acc g2 ti2 te J2 NX σ3 H5 else NX σ3 H4)
theorem Yo {osc:Scope}{ON N:List Str}{scope:Scope}{own:Nat}{caps:List Nat}{cl:List (Str×Addr)}{tg elt iter tg2 iter2:Expr}{ifs ifs2:List Expr}{g g2:TG}{ti ti2:TT}{wi2:TI}{te:TE}{pins:List (Addr×Obj)}{σ:St}{H:Hp}{s:Shared}{fp:List Addr}{it:Addr}
  {tn:Nat->Heap->Prop} {J:It} {Q:VK} {RR:ah->Addr->lY->Shared->Prop} {E:ah->Shared->Prop}
  (hc:X.calm=true) (S:CompSc osc ON scope own N caps) (hsc:X.env.scope=osc) (hN:X.N=ON) (hcl:∀x,cl.lookup x=if (x,aP)∈scope.names then X.env.cells.lookup x else none)
  (hg:∀cl C s H ex,PG (X.block scope cl C N s H ex) tg g) (hif:∀cl C s H ex,wN (X.block scope cl C N s H ex) ifs ti) (hi2:∀cl C s H ex,PI (X.block scope cl C N s H ex) tg2 iter2 wi2) (hg2:∀cl C s H ex,PG (X.block scope cl C N s H ex) tg2 g2) (hif2:∀cl C s H ex,wN (X.block scope cl C N s H ex) ifs2 ti2) (he:∀cl C s H ex,PE (X.block scope cl C N s H ex) elt te) (hs2:∀env x,cB iter2 env x=pure x)
  (I:Inv X pins σ H s) (T:Turn X.prog X.w X.K tg J fp it tn) (st:tn 0 s.heap) (hf:∀b∈fp,yT X pins H b)
  (hw:∀acc,H acc=none->∃W:Nat->Nat->St->Hp->Prop,(∃m,W 0 m (zc own caps σ) (upd H acc (.lst [])))/\∀i m σ' H',W i m σ' H' ->
   (J.stop i H'/\Q (.ref acc) H')\/(J.go i H'/\∃NX:St->Hp->Prop,(∀σ2 H2,NX σ2 H2->∃m',m'<m/\W (i+1) m' σ2 H2) /\
    ∀x H2,J.yld i H' x H2->g x σ' H2 λσ3 H3=>ti σ3 H3 λok H4=>if ok=true then wi2 σ3 H4 λJ2 H5=>wG acc g2 ti2 te J2 NX σ3 H5 else NX σ3 H4))
  (fin:∀(D C:Addr) (H':Hp) (s':Shared),Inv X pins σ H' s'->BlockAt X pins H' C->(∃m,s'.heap.Ns C m)->Q (.ref D) H'->RR (.ref D) C (.ok .next) s') :
  aC (aH X.prog X.w) X.A (nA []) (λacc s₃=>aC (aH X.prog X.w) X.A (fW scope X.env.globals cl [] X.env.qual none .none (some X.env)) (λcenv s₄ =>
   cO (aH X.prog X.w) X.A (.compStart (xE elt tg iter tg2 iter2 ifs ifs2 scope pos) 0 (.ref it) acc { cenv with scope:=pZ scope X.env }) (RR acc cenv.locals) s₄) E s₃) E s:=by
 have hfs:∀b∈fp,b<s.heap.objs.size:=λb hb=>by
  obtain ⟨o,e,_⟩:=T.obj _ _ st b hb
  exact av e
 refine c3 (mW S.nocell (by intro y hy;simp at hy) (λh₁ hns₁ hsb₁=>?_) S.kind)
 dsimp only at hns₁ hsb₁ ⊢
 generalize hH2:s.heap.push { cls:=.type "list",dict:=none,data:=.seq ([]:List ah).toArray }=H2 at hns₁ hsb₁ ⊢
 have hCsz:H2.objs.size=s.heap.objs.size+1:=by rw [<- hH2,bK]
 have old:∀b o,s.heap.get? b=some o->h₁.get? b=some o:=λb o e=>hsb₁.extBut b o (aD (by rw [hCsz];exact bE (av e))) (ai _ (hH2 ▸ ai _ e))
 have eD:h₁.get? s.heap.objs.size=some { cls:=.type "list",data:=.seq #[] }:=hsb₁.extBut _ _ (aD ∅) (ai _ (hH2 ▸ aA _ rfl))
 have hDn:H s.heap.objs.size=none:=I.hok.fresh (ar _)
 obtain ⟨W,⟨m0,w0⟩,turn⟩:=hw s.heap.objs.size hDn
 have hns:h₁.Ns H2.objs.size λ_=>none:=hns₁
 have I1:Inv (X.block scope cl H2.objs.size N s H fp) [] (zc own caps σ) (upd H s.heap.objs.size (.lst [])) { s with heap:=h₁,toks:=s.toks+([]:List (Str×ah)).length } :=
  uT S hsc hN hcl I hf hfs rfl hCsz old eD hns _
 have st1:tn 0 h₁:=T.keep 0 _ _ st λb _ o e=>old b o e
 have fpB:∀{H':Hp},(∀b∈fp,H' b=none)->∀b∈fp,yT (X.block scope cl H2.objs.size N s H fp) [] H' b:=λ{H'} hn b hb=>by
  have ok:=I1.ok
  exact ⟨hn b hb,(ok.exf b hb).1,ok.exfs b hb,.inl hb,(ok.exf b hb).2,λp hp=>absurd (show p∈([]:List (Addr×Obj)) from hp) (by simp)⟩
 have back:∀{σ':St} {H':Hp} {s':Shared},Inv (X.block scope cl H2.objs.size N s H fp) [] σ' H' s'->Q (.ref s.heap.objs.size) H'->RR (.ref s.heap.objs.size) H2.objs.size (.ok .next) s':=λ{σ' H' s'} J1 q=>by
  have J2:Inv X pins σ H' s':=I.call' (ch:=fp) J1.os J1.base J1.hok J1.bare λb hb=>⟨(hf b hb).2.2.2.1,(hf b hb).2.1,(hf b hb).2.2.2.2.1,(hf b hb).2.2.2.2.2⟩
  obtain ⟨m,hm,_⟩:=J1.loc
  refine fin _ _ H' s' J2 ⟨J1.free,c5 (aJ I.lt ∅),aI I.sz ∅,λx c e z=>?_,λp hp z=>?_⟩ ⟨m,hm⟩ q
  ·obtain ⟨v,y⟩:=I.cell x c e
   have h1:H2.objs.size<s.heap.objs.size:=z ▸ y.lt
   exact absurd h1 ∅
  ·have h1:H2.objs.size<s.heap.objs.size:=z ▸ av (I.pin p hp).1
   exact absurd h1 ∅
 have loop:∀s₃:Shared,s₃={ s with heap:=h₁,toks:=s.toks+([]:List (Str×ah)).length } ->
   cO (aH X.prog X.w) X.A (.compLoop (xE elt tg iter tg2 iter2 ifs ifs2 scope pos) 0 (.ref it) (.ref s.heap.objs.size) (mV scope cl H2.objs.size X.env)) (RR (.ref s.heap.objs.size) H2.objs.size) s₃:=by
  rintro s₃ rfl
  refine Y3 (λn s'=>∃i σ' H',Inv (X.block scope cl H2.objs.size N s H fp) [] σ' H' s'/\tn i s'.heap/\(∀b∈fp,H' b=none)/\W i n σ' H') (hs2 _) ?_ m0
   ⟨0,_,_,I1,st1,λb hb=>by rw [j5 (aD (hfs b hb))];exact (hf b hb).1,w0⟩
  rintro n s3 ⟨i,σ3,H3,I3,st3,fr3,w3⟩
  rcases turn i n σ3 H3 w3 with ⟨stop,qn⟩ | ⟨go,NX,hNX,step⟩
  ·refine thn (T.done (X.block scope cl H2.objs.size N s H fp) rfl rfl rfl hc i [] s3 σ3 H3 _ I3 (fpB fr3) st3 stop) λr s4 ⟨hr,I4⟩=>?_
   subst hr
   exact back I4 qn
  ·refine thn (T.item (X.block scope cl H2.objs.size N s H fp) rfl rfl rfl hc i [] s3 σ3 H3 _ I3 (fpB fr3) st3 go) λr s4 ⟨u,hr,h4⟩=>?_
   subst hr
   refine thn h4 λ_ s5 ⟨x,H5,I5,r5,y5,st5,fr5⟩=>?_
   have I5':=I5.pinned (fpB fr5) (T.obj _ _ st5)
   refine thn (hg cl H2.objs.size s H fp _ s5 σ3 H5 x u _ I5' r5 (step x H5 y5)) λ_ s6 ⟨σ6,H6,I6,q6⟩=>?_
   refine thn (hif cl H2.objs.size s H fp _ s6 σ6 H6 _ I6 q6) λok s7 ⟨H7,I7,q7⟩=>?_
   have again:∀{s8:Shared} {σ8:St} {H8:Hp},Inv (X.block scope cl H2.objs.size N s H fp) ([]++xZ fp s5.heap) σ8 H8 s8->NX σ8 H8->∃m,m<n/\∃i σ' H',Inv (X.block scope cl H2.objs.size N s H fp) [] σ' H' s8/\tn i s8.heap/\(∀b∈fp,H' b=none)/\W i m σ' H':=λ{s8 σ8 H8} I8 n8=>by
    obtain ⟨m',hm,w8⟩:=hNX σ8 H8 n8
    refine ⟨m',hm,i+1,σ8,H8,I8.unpinned,T.keep _ _ _ st5 λb hb o e=>(I8.pin (b,o) (aE _ (aE _ (qv hb e)))).1,λb hb=>?_,w8⟩
    obtain ⟨o,e,d⟩:=T.obj _ _ st5 b hb
    exact (I8.pin (b,o) (aE _ (aE _ (qv hb e)))).2.1
   cases ok with
   | false =>
    rw [if_neg au] at q7 ⊢
    exact again I7 q7
   | true =>
    rw [if_pos rfl] at q7 ⊢
    refine thn (hi2 cl H2.objs.size s H fp _ s7 σ6 H7 _ I7 q7) λv s8 h8=>thn h8 λitv s9 h9=>?_
    obtain ⟨it2,fp2,tn2,J2,H9,e,I9,T2,st9,f9,W2,⟨m2,w2⟩,turn2⟩:=h9
    subst e
    have stat2:∀{H':Hp},(∀b∈fp2,H' b=none)->∀b∈fp2,yT (X.block scope cl H2.objs.size N s H fp) ([]++xZ fp s5.heap) H' b:=λhn b hb=>⟨hn b hb,(f9 b hb).2⟩
    have inner:cO (aH X.prog X.w) X.A (.compLoop (xE elt tg iter tg2 iter2 ifs ifs2 scope pos) 1 (.ref it2) (.ref s.heap.objs.size) (mV scope cl H2.objs.size X.env)) (λr s'=>match r with | .ok _=>∃m,m<n/\∃i σ' H',Inv (X.block scope cl H2.objs.size N s H fp) [] σ' H' s'/\tn i s'.heap/\(∀b∈fp,H' b=none)/\W i m σ' H' | .error _=>False) s9:=by
     refine V6 (λn2 s'=>∃j σ' H',Inv (X.block scope cl H2.objs.size N s H fp) ([]++xZ fp s5.heap) σ' H' s'/\tn2 j s'.heap/\(∀b∈fp2,H' b=none)/\W2 j n2 σ' H') ?_ m2 ⟨0,_,_,I9,st9,λb hb=>(f9 b hb).1,w2⟩
     rintro n2 s10 ⟨j,σ10,H10,I10,st10,fr10,w10⟩
     rcases turn2 j n2 σ10 H10 w10 with ⟨stop2,nx2⟩ | ⟨go2,NX2,hNX2,step2⟩
     ·refine thn (T2.done (X.block scope cl H2.objs.size N s H fp) rfl rfl rfl hc j _ s10 σ10 H10 _ I10 (stat2 fr10) st10 stop2) λr s11 ⟨hr,I11⟩=>?_
      subst hr
      exact again I11 nx2
     ·refine thn (T2.item (X.block scope cl H2.objs.size N s H fp) rfl rfl rfl hc j _ s10 σ10 H10 _ I10 (stat2 fr10) st10 go2) λr s11 ⟨u2,hr,h11⟩=>?_
      subst hr
      refine thn h11 λ_ s12 ⟨x2,H12,I12,r12,y12,st12,fr12⟩=>?_
      have I12':=I12.pinned (stat2 fr12) (T2.obj _ _ st12)
      refine thn (hg2 cl H2.objs.size s H fp _ s12 σ10 H12 x2 u2 _ I12' r12 (step2 x2 H12 y12)) λ_ s13 ⟨σ13,H13,I13,q13⟩=>?_
      refine thn (hif2 cl H2.objs.size s H fp _ s13 σ13 H13 _ I13 q13) λok2 s14 ⟨H14,I14,q14⟩=>?_
      have again2:∀{s15:Shared} {σ15:St} {H15:Hp},Inv (X.block scope cl H2.objs.size N s H fp) (([]++xZ fp s5.heap)++xZ fp2 s12.heap) σ15 H15 s15->NX2 σ15 H15->∃m,m<n2/\∃j σ' H',Inv (X.block scope cl H2.objs.size N s H fp) ([]++xZ fp s5.heap) σ' H' s15/\tn2 j s15.heap/\(∀b∈fp2,H' b=none)/\W2 j m σ' H':=λ{s15 σ15 H15} I15 n15=>by
       obtain ⟨m',hm,w15⟩:=hNX2 σ15 H15 n15
       refine ⟨m',hm,j+1,σ15,H15,I15.unpinned,T2.keep _ _ _ st12 λb hb o e=>(I15.pin (b,o) (aE _ (aE _ (qv hb e)))).1,λb hb=>?_,w15⟩
       obtain ⟨o,e,d⟩:=T2.obj _ _ st12 b hb
       exact (I15.pin (b,o) (aE _ (aE _ (qv hb e)))).2.1
      cases ok2 with
      | false =>
       rw [if_neg au] at q14 ⊢
       exact again2 I14 q14
      | true =>
       rw [if_pos rfl] at q14 ⊢
       refine thn (he cl H2.objs.size s H fp _ s14 σ13 H14 _ I14 q14) λv15 s15 ⟨y15,H15,I15,r15,ys,e15,z15,q15⟩=>?_
       refine thn (qx _ s15 σ13 H15 (.ref s.heap.objs.size) [y15] _ [v15] (λ_ H16=>NX2 σ13 H16) I15 rfl (.cons r15 .nil) ⟨_,ys,y15,rfl,rfl,e15,z15,q15⟩) λ_ s16 ⟨_,H16,I16,_,q16⟩=>?_
       exact again2 I16 q16
    exact ZL inner (T2.self _ 0 _ _ _ st9 inner)
 exact fX (loop _ rfl) (T.self _ 0 _ _ _ st1 (loop _ rfl))
theorem YJ {osc:Scope}{ON N:List Str}{scope:Scope}{own:Nat}{caps:List Nat}{tg elt iter tg2 iter2:Expr}{ifs ifs2:List Expr}{wi wi2:TI}{g g2:TG}{ti ti2:TT}{te:TE}(S:CompSc osc ON scope own N caps)
  (hc:X.calm=true) (hsc:X.env.scope=osc) (hN:X.N=ON) (hi:PI X tg iter wi)
  (hg:∀cl C s H ex,PG (X.block scope cl C N s H ex) tg g) (hif:∀cl C s H ex,wN (X.block scope cl C N s H ex) ifs ti) (hi2:∀cl C s H ex,PI (X.block scope cl C N s H ex) tg2 iter2 wi2) (hg2:∀cl C s H ex,PG (X.block scope cl C N s H ex) tg2 g2) (hif2:∀cl C s H ex,wN (X.block scope cl C N s H ex) ifs2 ti2) (he:∀cl C s H ex,PE (X.block scope cl C N s H ex) elt te)
  (hs:∀x,cB iter X.env x=pure x:=by intro _;rfl) (hs2:∀env x,cB iter2 env x=pure x:=by intro _ _;rfl):PE X (.ListComp elt [⟨tg,iter,ifs,0⟩,⟨tg2,iter2,ifs2,0⟩] scope pos) (Wi own caps wi g ti wi2 g2 ti2 te):=by
 intro pins s σ H Q I h
 obtain ⟨cl,hclos,hcl⟩:=yi (XJ S hsc I)
 rw [si]
 refine dQ (use:=none) rfl hs hclos S.kind S.loc (thn (hi pins s σ H _ I h) λv s1 h1=>thn h1 λitv s2 h2=>?_)
 obtain ⟨it,fp,tn,J,H2,e,I2,T,st2,f2,hw⟩:=h2
 subst e
 refine Yo (RR:=λacc C=>rM (aH X.prog X.w) X.A X.xe none (EP X pins σ Q) acc C) hc S hsc hN hcl hg hif hi2 hg2 hif2 he hs2 I2 T st2 f2 hw λD C H' s' J1 B ⟨m,hm⟩ q=>?_
 exact ⟨m,hm,λh' hs'=>⟨.ref D,H',B.gone J1 hs',rfl,q⟩⟩
end
end L2
end
section
namespace L2
open PySem.W
structure CalM (P:Program) (w:b8) (K:aj) (mg:Str->Option ah) (base:Heap) (k:Nat) (C:Addr) (m:Str) (ps:List Str) (sp:Sp):Prop where
 ex:∃f fd,FnOk P w K mg base CX0 k f fd ps sp/\zZ K fd ps []/\Meth K C m f
structure CalMX (P:Program) (w:b8) (K:aj) (mg:Str->Option ah) (base:Heap) (k:Nat) (C:Addr) (m:Str) (ps:List Str) (sp:Sp):Prop where
 ex:∃f fd,FnOk P w K mg base (CX1 P w) k f fd ps sp/\zZ K fd ps []/\Meth K C m f
section
variable {X:Cx}{k:Nat}{f C:Addr}{fd:FuncData}{ps:List Str}{sp:Sp}{x m:Str}{p pos apos:Pos}{e o:Expr}{es:List Expr}{ta:TE}{t:TA}{J:ah->St->Hp->Prop}
theorem GS {pins:List (Addr×Obj)}{σ:St}{H:Hp}{s:Shared}{Q:VK}{us:List ah}{vs:List V}(F:FnOk X.prog X.w X.K X.mg X.base (CX1 X.prog X.w) k f fd ps sp) (hr:Room k X.A) (hb:zZ X.K fd ps []) (ac:Acc X J)
  (I:Inv X pins σ H s) (r:jB vs us) (h:sp vs H Q λcls _ H'=>J cls σ H'):aC (aH X.prog X.w) X.A (call (.ref f) us) (EP X pins σ Q) X.xe s:=by
 have hl:us.length=ps.length:=by rw [<- r.length];exact F.len _ _ _ _ h
 have hb':=hb s us I.kIn (by rw [bc];exact hl)
 rw [bc] at hb'
 refine lZ (dJ (F.run X.A X.stack s H ⟨us,[]⟩ us vs Q _ hr I.env0 hb' r h) λr s' hq=>?_)
 cases r with
 | error e =>
  obtain ⟨a,cls,H',rfl,os,b,u,ok,fy,j⟩:=hq
  exact ac pins σ H' s' a cls ⟨s,H,I,os,b,u,ok,fy⟩ j
 | ok fl =>
  cases fl with
  | ret u=>exact I.after hq
  | next=>exact bH hq
  | brk=>exact bH hq
  | cont=>exact bH hq
theorem pe_m {pl:Sem Bool}(he:PE X o ta) (c:Cls X.K C) (cm:CalM X.prog X.w X.K X.mg X.base k C m ps sp) (hr:Room k X.A) (ha:PA X (e::es) t)
  (hst:aN (e::es) X.env=(false,eval e X.env)::aN es X.env:=by rfl) (hpl:(cz pos (aN es X.env)).any (·.1)=false:=by rfl)
  (ht:eval (.Call (.Attribute o m apos) (e::es) [] pos) X.env=(do let ov <- eval o X.env;fg apos.atName;let (f,first) <- dY [ov] (ij ov m pl);lO pos f first (cz pos (aN (e::es) X.env)) (fS pos (dI [] X.env))):=by rfl) :
  PE X (.Call (.Attribute o m apos) (e::es) [] pos) (Z5 C m sp [] E0 ta t):=by
 obtain ⟨f,fd,F,hb,hm⟩:=cm.ex
 exact Uc he c hm F hr hb .nil YT ha hst hpl ht
theorem UP {pl:Sem Bool}(he:PE X o ta) (c:Cls X.K C) (cm:CalM X.prog X.w X.K X.mg X.base k C m ps sp) (hr:Room k X.A)
  (ht:eval (.Call (.Attribute o m apos) [] [] pos) X.env=(do let ov <- eval o X.env;fg apos.atName;let (f,first) <- dY [ov] (ij ov m pl);lO pos f first (cz pos (aN [] X.env)) (fS pos (dI [] X.env))):=by rfl) :
  PE X (.Call (.Attribute o m apos) [] [] pos) (Z5 C m sp [] E0 ta kY):=by
 obtain ⟨f,fd,F,hb,hm⟩:=cm.ex
 exact Vd he c hm F hr hb .nil YT ht
noncomputable def WE (C:Addr) (m:Str) (sp:Sp) (J:ah->St->Hp->Prop) (ta:TE) (t:TA):TE:=λσ H Q=>ta σ H λx H1=>∃a dx fs,x = .ref a/\H1 a=some (.ins C dx fs)/\fs.lookup m=none/\t σ H1 λvs H2=>sp (x::vs) H2 Q λcls _ H'=>J cls σ H'
theorem zU {pl:Sem Bool}(he:PE X o ta) (c:Cls X.K C) (cm:CalMX X.prog X.w X.K X.mg X.base k C m ps sp) (hr:Room k X.A) (ac:Acc X J) (ha:PA X (e::es) t)
  (hst:aN (e::es) X.env=(false,eval e X.env)::aN es X.env:=by rfl) (hpl:(cz pos (aN es X.env)).any (·.1)=false:=by rfl)
  (ht:eval (.Call (.Attribute o m apos) (e::es) [] pos) X.env=(do let ov <- eval o X.env;fg apos.atName;let (f,first) <- dY [ov] (ij ov m pl);lO pos f first (cz pos (aN (e::es) X.env)) (fS pos (dI [] X.env))):=by rfl) :
  PE X (.Call (.Attribute o m apos) (e::es) [] pos) (WE C m sp J ta t):=by
 obtain ⟨f,fd,F,hb,hm⟩:=cm.ex
 intro pins s σ H Q I h
 refine fc (pl:=pl) (thn (he pins s σ H _ I h) λu s1 ⟨x,H1,I1,rx,a,dx,fs,ex,ea,l,q⟩=>?_) ht
 subst ex
 obtain rfl:u=aV a:=rx
 refine yu I1 ea c hm l ?_
 refine eO (first:=[.ref a]) (h₀:=X.base) I.ok.mod.kin hm.kp (thn (ha pos pins s1 σ H1 _ I1 q) λus s2 ⟨vs,H2,I2,r,q2⟩=>⟨I2.kIn,?_⟩) hst hpl
 exact GS (us:=.ref a::us) (vs:=.ref a::vs) F hr hb ac I2 (.cons rfl r) q2
structure MakX (P:Program) (w:b8) (K:aj) (mg:Str->Option ah) (base:Heap) (k:Nat) (C:Addr) (x:Str) (ps:List Str) (sp:Sp):Prop where
 ex:∃f fd,FnOk P w K mg base (CX1 P w) k f fd ps sp/\zZ K fd ps []/\Mk K C f/\mg x=some (.ref C)
noncomputable def WR (C:Addr) (sp:Sp) (J:ah->St->Hp->Prop) (t:TA):TE:=λσ H Q=>t σ H λvs H1=>∀x dx,H1 x=none->H1 dx=none->dx≠x ->
 sp (.ref x::vs) (upd (upd H1 dx (.own x)) x (.ins C dx [])) (λv H2=>v = .non/\Q (.ref x) H2) λcls _ H'=>J cls σ H'
theorem Uf (c:MakX X.prog X.w X.K X.mg X.base k C x ps sp) (hr:Room (k+1) X.A) (ac:Acc X J) (hg:Gl X x) (ha:PA X (e::es) t) (hdb:(x == ("__debug__" : Str))=false:=by decide) (he:aN (e::es) X.env=(false,eval e X.env)::aN es X.env:=by rfl) (hpl:(cz pos (aN es X.env)).any (·.1)=false:=by rfl) :
  PE X (.Call (.Name x p) (e::es) [] pos) (WR C sp J t):=by
 obtain ⟨f,fd,F,hb,M,hm⟩:=c.ex
 intro pins s0 σ H0 Q I0 h0
 refine cY (uh I0 hg hm ?_ hdb)
 refine eO (h₀:=X.base) I0.ok.mod.kin M.kp (thn (ha pos pins s0 σ H0 _ I0 h0) λus s ⟨vs,H,I,r,h⟩=>⟨I.kIn,?_⟩) he hpl
 have hq:=h (s.heap.objs.size+1) s.heap.objs.size (I.hok.fresh (dM _)) (I.hok.fresh (ar _)) (aD (cX _))
 have I2:=Inv.made (C:=C) I
 have r2:jB (V.ref (s.heap.objs.size+1)::vs) (aV (s.heap.objs.size+1)::us):=.cons rfl r
 have hl:(aV (s.heap.objs.size+1)::us).length=ps.length:=by rw [<- r2.length];exact F.len _ _ _ _ hq
 have hb':=hb { s with heap:=_ } (aV (s.heap.objs.size+1)::us) I2.kIn (by rw [bc];exact hl)
 rw [bc] at hb'
 refine lZ (VJ (f:=f) I.kIn M.makes M.init (beq_iff_eq.mp M.fn) (dJ (F.run _ X.stack _ _ ⟨aV (s.heap.objs.size+1)::us,[]⟩ (aV (s.heap.objs.size+1)::us) _ _ _ (hr.make C us []) (I2.env0.make C us []) hb' r2 hq) λr s' hq'=>?_))
 cases r with
 | error e =>
  obtain ⟨a,cls,H',rfl,os,b,u,ok,fy,j⟩:=hq'
  exact ac pins σ H' s' a cls ⟨_,_,I2,os,b,u,ok,fy⟩ j
 | ok fl =>
  cases fl with
  | ret u =>
   obtain ⟨v,H',I3,rv,ev,q3⟩:=I2.after hq'
   subst ev
   exact ⟨rv,⟨V.ref (s.heap.objs.size+1),H',I3,rfl,q3⟩⟩
  | next=>exact bH hq'
  | brk=>exact bH hq'
  | cont=>exact bH hq'
theorem qH {f:Str}(K:aj) (he:PE X e ta) (hb:fE e f X.env (eval e X.env)=eval e X.env:=by rfl) (hK:X.K=K:=by rfl):PE X (.Attribute e f pos) (Go K ta f):=by subst hK;exact Wz he hb
theorem uj {f:Str}{value:Expr}{pos':Pos}{tv:TE}(K:aj) (ha:PE X o ta) (hv:PE X value tv) (hs:ig value (some (.Attribute o f pos')) pos.line X.env=pure false:=by rfl) (hK:X.K=K:=by rfl):PS X (.Assign [.Attribute o f pos'] value pos) (GI K ta tv f):=by subst hK;exact WA ha hv hs
end
theorem WP {K:aj}{a acc:Addr}{xs:List V}{g2:TG}{ti2:TT}{te:TE}{NX:St->Hp->Prop}{σ:St}{H:Hp}(Pv:Nat->St->Hp->Prop) (h0:Pv 0 σ H) (hl:∀i σ H,i<=xs.length->Pv i σ H->SqT K H a xs)
  (hs:∀i x σ H,xs[i]? = some x->Pv i σ H->g2 x σ H λσ3 H3=>ti2 σ3 H3 λok H4=>if ok=true then te σ3 H4 λv H5=>∃ys,H5 acc=some (.lst ys)/\ys.length<sizeLine/\Pv (i+1) σ3 (upd H5 acc (.lst (ys++[v]))) else Pv (i+1) σ3 H4)
  (hd:∀σ H,Pv xs.length σ H->NX σ H):wG acc g2 ti2 te (Itt K a) NX σ H:=by
 refine ⟨λi m σ H=>m=xs.length-i/\i<=xs.length/\Pv i σ H,⟨xs.length,by simp,aQ _,h0⟩,λi m σ H z=>?_⟩
 obtain ⟨rfl,hi,p⟩:=z
 have q:=hl i σ H hi p
 by_cases hlt:i<xs.length
 ·refine .inr ⟨⟨xs,xs[i],q,by simp [hlt]⟩,Pv (i+1),λσ' H' p'=>⟨xs.length-(i+1),∅,rfl,hlt,p'⟩,λx H' y=>?_⟩
  obtain ⟨e,y⟩:=y
  subst e
  exact hs i x σ _ (y xs q) p
 ·obtain rfl:i=xs.length:=∅
  exact .inl ⟨⟨xs,q,ar _⟩,hd σ H p⟩
theorem Yy {K:aj}{a acc:Addr}{xs:List V}{g g2:TG}{ti ti2:TT}{wi2:TI}{te:TE}{R:Hp->Prop}{σ:St}{H:Hp}(Pv:Nat->St->Hp->Prop) (h0:Pv 0 σ H) (hl:∀i σ H,i<=xs.length->Pv i σ H->SqT K H a xs)
  (hs:∀i x σ H,xs[i]? = some x->Pv i σ H->g x σ H λσ3 H3=>ti σ3 H3 λok H4=>if ok=true then wi2 σ3 H4 λJ2 H5=>wG acc g2 ti2 te J2 (Pv (i+1)) σ3 H5 else Pv (i+1) σ3 H4)
  (hd:∀σ H,Pv xs.length σ H->R H) :
  ∃W:Nat->Nat->St->Hp->Prop,(∃m,W 0 m σ H)/\∀i m σ' H',W i m σ' H' ->
   ((Itt K a).stop i H'/\R H')\/((Itt K a).go i H'/\∃NX:St->Hp->Prop,(∀σ2 H2,NX σ2 H2->∃m',m'<m/\W (i+1) m' σ2 H2) /\
    ∀x H2,(Itt K a).yld i H' x H2->g x σ' H2 λσ3 H3=>ti σ3 H3 λok H4=>if ok=true then wi2 σ3 H4 λJ2 H5=>wG acc g2 ti2 te J2 NX σ3 H5 else NX σ3 H4):=by
 refine ⟨λi m σ H=>m=xs.length-i/\i<=xs.length/\Pv i σ H,⟨xs.length,by simp,aQ _,h0⟩,λi m σ H z=>?_⟩
 obtain ⟨rfl,hi,p⟩:=z
 have q:=hl i σ H hi p
 by_cases hlt:i<xs.length
 ·refine .inr ⟨⟨xs,xs[i],q,by simp [hlt]⟩,Pv (i+1),λσ' H' p'=>⟨xs.length-(i+1),∅,rfl,hlt,p'⟩,λx H' y=>?_⟩
  obtain ⟨e,y⟩:=y
  subst e
  exact hs i x σ _ (y xs q) p
 ·obtain rfl:i=xs.length:=∅
  exact .inl ⟨⟨xs,q,ar _⟩,hd σ H p⟩
theorem Jj {X:Cx}:Acc X λ_ _ _=>False:=λ_ _ _ _ _ _ _ z=>z.elim
end L2
end
section
namespace L2
open PySem.W
inductive gN (K:aj) (n:Str) (s:Stmt):Prop
 | mk {f:Addr} {oc kV dc pm cd ct:ah} {od an:Option Addr} {sl:Array (Option ah)} (a:nsIn K mainGlobals n=some (some (.ref f))) (l:K.lookup f=some ⟨oc,od,.func (fnOf n n (jW s) (jP s) (j7 s) .none kV dc pm an cd ct),sl⟩) (c:codeIn K cd n=true) (k:keepIn K (.ref f)=true)
inductive gM (K:aj) (C:Addr) (m q:Str) (s:Stmt):Prop
 | mk {f:Addr} {oc kV dc pm cd ct:ah} {od an:Option Addr} {sl:Array (Option ah)} (a:findIn K (.ref C) m=some (some (.ref f))) (i:isFn K (.ref f)=true) (l:K.lookup f=some ⟨oc,od,.func (fnOf m q (jW s) (jP s) (j7 s) .none kV dc pm an cd ct),sl⟩) (c:codeIn K cd q=true) (k:keepIn K (.ref f)=true)
structure gE (K:aj) (n:Str) (C:Addr):Prop where
 e:nsIn K mainGlobals n=some (some (.ref C))
 x:excIn K C [.type "ValueError",.type "Exception",.type "BaseException",.type "object"] "ValueError.__new__" = true
 m:exmOne K (.ref C) (.ref C)=some true
noncomputable abbrev gB (x q:Str) (st:Stmt) (ps:List Str):Prop:=∀(kV doc pm:ah) (an:Option Addr) (cdv ct:ah) (us:List ah),us.length=ps.length->cP (fnOf x q (jW st) (jP st) (j7 st) .none kV doc pm an cdv ct) ⟨us,[]⟩=pure (ps.zip us)
inductive Zt (P:Program) (w:b8) (K:aj) (mg:Str->Option ah) (base:Heap):Prop
 | mk {h:Heap} (X:K.In h) (G:h.Ns mainGlobals mg)
section
variable {P:Program}{w:b8}{K:aj}{mg:Str->Option ah}{base:Heap}{k:Nat}{x q:Str}{ps:List Str}{sp:Sp}{st:Stmt}{C:Addr}
theorem gN.cal (a:gN K x st) (z:Zt P w K mg base) (hb:gB x x st ps)
  (ok:∀{f:Addr} {fd:FuncData},Fun K x x st f fd->FnOk P w K mg base CX0 k f fd ps sp):Cal P w K mg base k x ps sp:=by
 obtain ⟨a,l,c,k'⟩:=a
 obtain ⟨X,G⟩:=z
 exact Cal.mk' X G a l c k' hb ok
theorem gN.calX (a:gN K x st) (z:Zt P w K mg base) (hb:gB x x st ps)
  (ok:∀{f:Addr} {fd:FuncData},Fun K x x st f fd->FnOk P w K mg base (CX1 P w) k f fd ps sp):CalX P w K mg base k x ps sp:=by
 obtain ⟨a,l,c,k'⟩:=a
 obtain ⟨X,G⟩:=z
 exact CalX.mk' X G a l c k' hb ok
theorem gM.cal (a:gM K C x q st) (z:Zt P w K mg base) (hb:gB x q st ps)
  (ok:∀{f:Addr} {fd:FuncData},Fun K x q st f fd->FnOk P w K mg base CX0 k f fd ps sp):CalM P w K mg base k C x ps sp:=by
 obtain ⟨a,i,l,c,k'⟩:=a
 have F:=vA (st:=st) l c k'
 exact ⟨_,_,ok F,F.binds hb,⟨a,i,k'⟩⟩
theorem gM.calX (a:gM K C x q st) (z:Zt P w K mg base) (hb:gB x q st ps)
  (ok:∀{f:Addr} {fd:FuncData},Fun K x q st f fd->FnOk P w K mg base (CX1 P w) k f fd ps sp):CalMX P w K mg base k C x ps sp:=by
 obtain ⟨a,i,l,c,k'⟩:=a
 have F:=vA (st:=st) l c k'
 exact ⟨_,_,ok F,F.binds hb,⟨a,i,k'⟩⟩
theorem gM.mak {y:Str}(a:gM K C "__init__" q st) (z:Zt P w K mg base) (m:makesIn K C=true) (kc:keepIn K (.ref C)=true) (n:nsIn K mainGlobals y=some (some (.ref C))) (hb:gB "__init__" q st ps)
  (ok:∀{f:Addr} {fd:FuncData},Fun K "__init__" q st f fd->FnOk P w K mg base (CX1 P w) k f fd ps sp):MakX P w K mg base k C y ps sp:=by
 obtain ⟨a,i,l,c,k'⟩:=a
 obtain ⟨X,G⟩:=z
 have F:=vA (st:=st) l c k'
 exact ⟨_,_,ok F,F.binds hb,⟨m,a,i,kc⟩,mg_of X G n⟩
end
theorem bnd1 {fd:FuncData}{ps:List Str}{us:List ah}(hl:us.length=1) (h:∀a,cP fd ⟨[a],[]⟩=pure (ps.zip [a])):cP fd ⟨us,[]⟩=pure (ps.zip us):=match us,hl with | [a],_=>h a
theorem bnd2 {fd:FuncData}{ps:List Str}{us:List ah}(hl:us.length=2) (h:∀a b,cP fd ⟨[a,b],[]⟩=pure (ps.zip [a,b])):cP fd ⟨us,[]⟩=pure (ps.zip us):=match us,hl with | [a,b],_=>h a b
theorem bnd3 {fd:FuncData}{ps:List Str}{us:List ah}(hl:us.length=3) (h:∀a b c,cP fd ⟨[a,b,c],[]⟩=pure (ps.zip [a,b,c])):cP fd ⟨us,[]⟩=pure (ps.zip us):=match us,hl with | [a,b,c],_=>h a b c
theorem bnd4 {fd:FuncData}{ps:List Str}{us:List ah}(hl:us.length=4) (h:∀a b c d,cP fd ⟨[a,b,c,d],[]⟩=pure (ps.zip [a,b,c,d])):cP fd ⟨us,[]⟩=pure (ps.zip us):=match us,hl with | [a,b,c,d],_=>h a b c d
theorem bnd5 {fd:FuncData}{ps:List Str}{us:List ah}(hl:us.length=5) (h:∀a b c d e,cP fd ⟨[a,b,c,d,e],[]⟩=pure (ps.zip [a,b,c,d,e])):cP fd ⟨us,[]⟩=pure (ps.zip us):=match us,hl with | [a,b,c,d,e],_=>h a b c d e
theorem bnd6 {fd:FuncData}{ps:List Str}{us:List ah}(hl:us.length=6) (h:∀a b c d e f,cP fd ⟨[a,b,c,d,e,f],[]⟩=pure (ps.zip [a,b,c,d,e,f])):cP fd ⟨us,[]⟩=pure (ps.zip us):=match us,hl with | [a,b,c,d,e,f],_=>h a b c d e f
end L2
end
section
namespace L2
open PySem.W
end L2
end
section
namespace L2
end L2
namespace L2
section
variable (P:Program) (w:b8)
end
section
variable {P:Program}{w:b8}{H H':Hp}{h h':Heap}{a:Addr}{o:HO}
end
section
variable {P:Program}{w:b8}{H:Hp}{h h':Heap}{x e:Addr}{o':HO}
end
section
variable {fs fs' ex ex':List Addr}{H H1 H2:Hp}{h h1 h2 h':Heap}{a x e:Addr}{o:HO}
end
end L2
namespace L2
section
variable {X:Cx}{pins:List (Addr×Obj)}{σ:List (Option V)}{H H':Hp}{s:Shared}{h':Heap}
end
end L2
namespace L2
section
variable {X:Cx}
variable {a b:Expr}{ta tb:TE}{pos:Pos}
variable {tA tB':TT}{vC:List Expr}
end
end L2
namespace L2
section
variable {X:Cx}{pins:List (Addr×Obj)}{σ:St}{H:Hp}{s:Shared}{a:Addr}{xs ys:List V}
end
section
variable {X:Cx}{pins:List (Addr×Obj)}{σ:St}{H:Hp}{s:Shared}{E:ah->Shared->Prop}
end
section
variable {X:Cx}{st:Stmt}{vC:List Stmt}{t u:TS}{e:Expr}{te:TE}{pos:Pos}
end
section
variable {X:Cx}{pos:Pos}
end
section
variable {X:Cx}{pos:Pos}
end
end L2
namespace L2
section
variable {X:Cx}{tg:Expr}
end
end L2
namespace L2
section
variable {X:Cx}{a b c:Expr}{ta tb tc:TE}{pos:Pos}
end
section
variable {X:Cx}{a b c:Expr}{ta tb tc:TE}{pos:Pos}
end
end L2
namespace L2
section
variable {prog:Program}{w:b8}{A:br}{E:ah->Shared->Prop}{s:Shared}{K:aj}{x dx C f:Addr}{mA:Str->Option ah}{name:Str}{v:ah}
end
section
variable {P:Program}{w:b8}{H H':Hp}{h h':Heap}{a C dx:Addr}{fs fs':List (Str×V)}
end
section
variable {X:Cx}{pins:List (Addr×Obj)}{σ:St}{H:Hp}{s:Shared}{a C dx:Addr}{fs:List (Str×V)}{f:Str}{v:V}{A:br}{E:ah->Shared->Prop}
end
section
variable {X:Cx}{o e value:Expr}{f:Str}{pos pos' tpos:Pos}{ta tv:TE}
end
section
variable {X:Cx}{pins:List (Addr×Obj)}{σ:St}{H:Hp}{s:Shared}{A:br}{E:ah->Shared->Prop}{Q:ah->Shared->Prop}{c:ah}{b:Bool}
end
end L2
namespace L2
section
variable {X:Cx}{e:Expr}{es:List Expr}{te:TE}{t:TA}{pos:Pos}
end
section
variable {X:Cx}{pins:List (Addr×Obj)}{σ:St}{H:Hp}{s s':Shared}
end
section
variable {X:Cx}{CX:CXT}{k:Nat}{f C:Addr}{fd:FuncData}{ps:List Str}{sp:Sp}{dvs:List V}{ds:List ah}{E:XK}{x m:Str}{p pos apos:Pos}{e o:Expr}{es:List Expr}{ta:TE}{t:TA}
end
section
variable {X:Cx}{CX:CXT}{k:Nat}{f C:Addr}{fd:FuncData}{ps ks:List Str}{sp:Sp}{E:XK}{x m:Str}{p pos apos kpos:Pos}{e o:Expr}{es:List Expr}{kws:List m6}{te ta:TE}{t tk:TA}{nm:Option Str}
variable {g:List ah->List ah->List ah}{gV:List V->List V->List V}
end
end L2
namespace L2
section
variable {X:Cx}{x:Str}{p pos:Pos}{e:Expr}{es:List Expr}{t:TA}{id T:String}{r:List V->Hp->VK->Prop}
end
end L2
namespace L2
section
variable {κ:Type} [DecidableEq κ]
noncomputable def qi (kvs:List (κ×V)) (k:κ):Option V:=(kvs.find? λkv=>decide (kv.1=k)).map (·.2)
noncomputable def qJ (kvs:List (κ×V)) (k:κ) (v:V):List (κ×V) :=
 if (kvs.any λkv=>decide (kv.1=k))=true then kvs.map (λkv=>if kv.1=k then (kv.1,v) else kv) else kvs++[(k,v)]
theorem yR {k:κ}:qi ([]:List (κ×V)) k=none:=rfl
theorem zn {p:κ×V}{r:List (κ×V)}{k:κ}(e:p.1=k):qi (p::r) k=some p.2:=by simp [qi,eW,e]
theorem zq {p:κ×V}{r:List (κ×V)}{k:κ}(e:¬p.1=k):qi (p::r) k=qi r k:=by simp [qi,eW,e]
theorem kH (k:κ):∀kvs:List (κ×V),(kvs.any λkv=>decide (kv.1=k))=(qi kvs k).isSome
 | []=>rfl
 | p::r=>by
  rw [fF]
  by_cases e:p.1=k
  ·simp only [zn e,decide_eq_true e,Bool.true_or,ow]
  ·rw [zq e,decide_eq_false e,Bool.false_or];exact kH k r
theorem Ja (k j:κ) (y:V):∀kvs:List (κ×V),qi kvs k=none->qi (kvs++[(k,y)]) j=if j=k then some y else qi kvs j
 | [],_=>by
  by_cases e:k=j
  ·rw [if_pos e.symm];exact zn (p:=(k,y)) e
  ·rw [if_neg (λz=>e z.symm)];exact zq (p:=(k,y)) e
 | p::r,hn=>by
  rw [List.cons_append]
  have hk:¬p.1=k:=λz=>by rw [zn z] at hn;cases hn
  rw [zq hk] at hn
  have ih:=Ja k j y r hn
  by_cases e:p.1=j
  ·rw [zn e,zn e,if_neg (λz=>hk (e.trans z))]
  ·rw [zq e,zq e,ih]
theorem yM (kvs:List (κ×V)) (k:κ) (v:V):(qJ kvs k v).length<=kvs.length+1:=by
 unfold qJ
 split
 ·rw [aa];omega
 ·rw [aw,b7,pV];omega
theorem y3 {kvs:List (κ×V)}{k:κ}(v:V) (h:qi kvs k=none):qJ kvs k v=kvs++[(k,v)]:=by
 unfold qJ
 rw [kH,h]
 exact if_neg ⋯
theorem yz.isSome_eq {o:Option V}{u:Option ah}(r:yz o u):o.isSome=u.isSome:=by
 cases o with
 | none=>cases u with
  | none=>rfl
  | some _=>exact (show False from r).elim
 | some _=>cases u with
  | none=>exact (show False from r).elim
  | some _=>rfl
theorem yz.getD {o:Option V}{u:Option ah}{d:V}{d':ah}(r:yz o u) (rd:jx d d'):jx (o.getD d) (u.getD d'):=by
 cases o with
 | none=>cases u with
  | none=>exact rd
  | some _=>exact (show False from r).elim
 | some _=>cases u with
  | none=>exact (show False from r).elim
  | some _=>exact r
theorem KV.val {kvs:List (κ×V)}{vs:List (κ×ah)}(r:KV kvs vs) (k:κ):yz (qi kvs k) (nB vs k):=by
 unfold KV at r
 induction r with
 | nil=>exact di
 | @cons p q ps qs h t ih =>
  obtain ⟨h1,h2⟩:=h
  by_cases e:p.1=k
  ·have e':q.1=k:=h1.symm.trans e
   have b:nB (q::qs) k=some q.2:=by simp [nB,eW,e']
   rw [zn e,b];exact h2
  ·have e':¬q.1=k:=λz=>e (h1.trans z)
   have b:nB (q::qs) k=nB qs k:=by simp [nB,eW,e']
   rw [zq e,b];exact ih
theorem KV.any {kvs:List (κ×V)}{vs:List (κ×ah)}(r:KV kvs vs) (k:κ):(kvs.any λkv=>decide (kv.1=k))=vs.any λkv=>decide (kv.1=k):=by
 unfold KV at r
 induction r with
 | nil=>rfl
 | cons h t ih=>rw [fF,fF,ih,h.1]
theorem KV.repl {kvs:List (κ×V)}{vs:List (κ×ah)}(r:KV kvs vs) (k:κ) {y:V}{u:ah}(ry:jx y u) :
  KV (kvs.map λkv=>if kv.1=k then (kv.1,y) else kv) (vs.map λkv=>if kv.1=k then (kv.1,u) else kv):=by
 unfold KV at r ⊢
 induction r with
 | nil=>exact .nil
 | @cons p q ps qs h t ih =>
  rw [aO,aO]
  refine .cons ?_ ih
  obtain ⟨h1,h2⟩:=h
  by_cases e:p.1=k
  ·rw [if_pos e,if_pos (h1.symm.trans e)];exact ⟨h1,ry⟩
  ·rw [if_neg e,if_neg (λz=>e (h1.trans z))];exact ⟨h1,h2⟩
theorem KV.put {kvs:List (κ×V)}{vs:List (κ×ah)}(r:KV kvs vs) (k:κ) {y:V}{u:ah}(ry:jx y u):KV (qJ kvs k y) (sJ vs k u):=by
 unfold qJ sJ
 rw [r.any k]
 by_cases e:(vs.any λkv=>decide (kv.1=k))=true
 ·rw [if_pos e,if_pos e];exact r.repl k ry
 ·rw [if_neg e,if_neg e];exact cU r ⟨rfl,ry⟩
theorem KV.length {kvs:List (κ×V)}{vs:List (κ×ah)}(r:KV kvs vs):kvs.length=vs.length:=aY r
end
theorem wE {P:Program}{w:b8}{k:Key}{u:ah}(r:jx (kV k) u):(jD P w).is k u=true:=by
 cases k with
 | inl i=>obtain ⟨t,e⟩:=(show ∃t,u=eY i t from r);subst e;exact Qt P w i t
 | inr x=>obtain ⟨t,e⟩:=(show ∃t,u=nk x t from r);subst e;exact Qg P w x t
theorem gp {P:Program}{w:b8}:∀{ks:List Key}{us:List ah},jB (ks.map kV) us->ItemsAre (jD P w) ks us
 | [],_,r=>by rw [fU] at r;cases r;exact .nil
 | k::ks,_,r=>by
  rw [aO] at r
  cases r with
  | cons h t=>exact .cons (wE h) (gp t)
noncomputable abbrev KT (H:Hp):List (List Key×V)->List (List Key×Addr×ah)->Prop:=ck λp q=>p.1=q.1/\H q.2.1=some (.tup (p.1.map kV))/\jx p.2 q.2.2
theorem KT.val {H:Hp}{kvs:List (List Key×V)}{xs:List (List Key×Addr×ah)}(r:KT H kvs xs) (k:List Key):yz (qi kvs k) ((pR xs k).map (·.2)):=by
 induction r with
 | nil=>exact di
 | @cons p q ps qs h t ih =>
  obtain ⟨h1,_,h2⟩:=h
  by_cases e:p.1=k
  ·have e':q.1=k:=h1.symm.trans e
   have b:pR (q::qs) k=some q.2:=by simp [pR,eW,e']
   rw [zn e,b];exact h2
  ·have e':¬q.1=k:=λz=>e (h1.trans z)
   have b:pR (q::qs) k=pR qs k:=by simp [pR,eW,e']
   rw [zq e,b];exact ih
theorem KT.repl {H:Hp}{kvs:List (List Key×V)}{xs:List (List Key×Addr×ah)}(r:KT H kvs xs) (k:List Key) {y:V}{u:ah}(ry:jx y u) :
  KT H (kvs.map λkv=>if kv.1=k then (kv.1,y) else kv) (xs.map (putAt k u)):=by
 induction r with
 | nil=>exact .nil
 | @cons p q ps qs h t ih =>
  rw [aO,aO]
  refine .cons ?_ ih
  obtain ⟨h1,h2,h3⟩:=h
  unfold putAt
  by_cases e:p.1=k
  ·rw [if_pos e,if_pos (h1.symm.trans e)];exact ⟨h1,h2,ry⟩
  ·rw [if_neg e,if_neg (λz=>e (h1.trans z))];exact ⟨h1,h2,h3⟩
theorem KT.put {H:Hp}{kvs:List (List Key×V)}{xs:List (List Key×Addr×ah)}(r:KT H kvs xs) (k:List Key) {b:Addr}{y:V}{u:ah}(hb:H b=some (.tup (k.map kV))) (ry:jx y u) :
  KT H (qJ kvs k y) (storedH xs k b u):=by
 have e:(kvs.any λkv=>decide (kv.1=k))=(pR xs k).isSome:=by
  rw [kH,(r.val k).isSome_eq,oY]
 unfold qJ storedH
 rw [e]
 by_cases q:(pR xs k).isSome=true
 ·rw [if_pos q,if_pos q];exact r.repl k ry
 ·rw [if_neg q,if_neg q];exact cU r ⟨rfl,hb,ry⟩
theorem KT.keeps {H H':Hp}{kvs:List (List Key×V)}{xs:List (List Key×Addr×ah)}(r:KT H kvs xs) (ht:∀b ys,H b=some (.tup ys)->H' b=some (.tup ys)):KT H' kvs xs :=
 Paired.mapP r λ_ _ z=>⟨z.1,ht _ _ z.2.1,z.2.2⟩
section
variable {P:Program}{w:b8}{H:Hp}{h:Heap}{a:Addr}
theorem UQ {u:HO}(ok:HOk P w H h) (e:Rd H a u):qg P w H h a u:=e.ok ok
theorem ur {kvs:List (Key×V)}(ok:HOk P w H h) (e:Rd H a (.dK kvs)):kvs.length<=sizeLine/\(a == eL)=false/\∃vs,KV kvs vs/\h.DictOf (jD P w) a vs :=
 show qg P w H h a (.dK kvs) from UQ ok e
theorem Vv {kvs:List (Key×V)}(ok:HOk P w H h) (e:H a=some (.dK kvs)):kvs.length<=sizeLine/\(a == eL)=false/\∃vs,KV kvs vs/\h.DictOf (jD P w) a vs:=ur ok (.inl e)
theorem kK {ks:List Key}(ok:HOk P w H h) (e:H a=some (.tup (ks.map kV))):(lK (jD P w)).is h ks a:=by
 obtain ⟨_,its,r,o,h1,h2,n,h3⟩:=(show qg P w H h a (.tup (ks.map kV)) from ok a _ e)
 exact ⟨o,its.toArray,n,h1,h2,h3,by simpa using gp r⟩
theorem Jc {kvs:List (List Key×V)}(ok:HOk P w H h) (e:Rd H a (.dT kvs)):kvs.length<=sizeLine/\(a == eL)=false /\
  ∃xs,KT H kvs xs/\h.DictOfH (lK (jD P w)) a xs:=by
 obtain ⟨z,y,xs,r,o,es,ep,h1,h2,h3,h4,h5⟩:=(show qg P w H h a (.dT kvs) from UQ ok e)
 refine ⟨z,y,xs,r,o,es,ep,h1,h2,h3,h4,λx hx=>?_,h5⟩
 have all:∀{l:List (List Key×V)} {m:List (List Key×Addr×ah)},KT H l m->∀x∈m,(lK (jD P w)).is h x.1 x.2.1:=by
  intro l m q
  induction q with
  | nil=>intro x hx;exact nomatch hx
  | @cons p q ps qs hq t ih =>
   intro x hx
   rcases List.mem_cons.mp hx with e | hx
   ·subst e
    exact kK ok (by rw [<- hq.1];exact hq.2.1)
   ·exact ih x hx
 exact all r x hx
theorem Gk {kvs:List (List Key×V)}(ok:HOk P w H h) (e:H a=some (.dT kvs)):kvs.length<=sizeLine/\(a == eL)=false /\
  ∃xs,KT H kvs xs/\h.DictOfH (lK (jD P w)) a xs:=Jc ok (.inl e)
end
noncomputable def qK (H:Hp) (a:Addr) (y:V) (r:Option V):Prop :=
 (∃kvs k,Rd H a (.dK kvs)/\y=kV k/\r=qi kvs k)\/∃kvs k b,Rd H a (.dT kvs)/\y = .ref b/\H b=some (.tup (k.map kV))/\r=qi kvs k
noncomputable def kT (H:Hp) (a:Addr) (y v:V) (H':Hp):Prop :=
 (∃kvs k,H a=some (.dK kvs)/\y=kV k/\kvs.length<sizeLine/\H'=upd H a (.dK (qJ kvs k v))) \/
 ∃kvs k b,H a=some (.dT kvs)/\y = .ref b/\H b=some (.tup (k.map kV))/\kvs.length<sizeLine/\H'=upd H a (.dT (qJ kvs k v))
theorem qK.k {H:Hp}{a:Addr}{kvs:List (Key×V)}{k:Key}(e:H a=some (.dK kvs)):qK H a (kV k) (qi kvs k):=.inl ⟨kvs,k,.inl e,rfl,rfl⟩
theorem kT.k {H:Hp}{a:Addr}{kvs:List (Key×V)}{k:Key}{v:V}(e:H a=some (.dK kvs)) (hl:kvs.length<sizeLine):kT H a (kV k) v (upd H a (.dK (qJ kvs k v))):=.inl ⟨kvs,k,e,rfl,hl,rfl⟩
section
variable {X:Cx}{pins:List (Addr×Obj)}{σ:St}{H:Hp}{s:Shared}{a:Addr}{y v:V}{u r:ah}{o:Option V}{A:br}{E:ah->Shared->Prop}
theorem Inv.big (I:Inv X pins σ H s):eL<s.heap.objs.size:=by
 have h:mainGlobals<s.heap.objs.size:=(I.mod.glob.keeps I.bk).lt
 exact Nat.lt_trans ⋯ h
theorem ZD {Q:ah->Shared->Prop}(hu:A.units+1<cLine) (I:Inv X pins σ H s) (g:qK H a y (some v)) (ry:jx y u) (h:∀w' s',Inv X pins σ H s'->jx v w'->Q w' s') :
  aC (aH X.prog X.w) A (lq (.ref a) u) Q E s:=by
 rcases g with ⟨kvs,k,e,ey,l⟩ | ⟨kvs,k,b,e,ey,eb,l⟩
 ·subst ey
  obtain ⟨z,hd,vs,rel,dd⟩:=ur I.hok e
  obtain ⟨w',hw,rw'⟩:=yz.some_of (v:=v) (o:=nB vs k) (by rw [l];exact rel.val k)
  exact wpAny_getItem_of (wE ry) dd.mapOf hw (h w' _ (I.tok _) rw')
 ·subst ey
  cases (show u=aV b from ry)
  obtain ⟨z,hd,xs,rel,dd⟩:=Jc I.hok e
  obtain ⟨w',hw,rw'⟩:=yz.some_of (v:=v) (o:=(pR xs k).map (·.2)) (by rw [l];exact rel.val k)
  obtain ⟨p,hp,hp2⟩:=Option.map_eq_some_iff.mp hw
  refine wpAny_getItem_heap (fJ hu) (kK I.hok eb) dd hp ?_
  rw [hp2]
  exact h w' _ (I.tok _) rw'
theorem d_in {Q:ah->Shared->Prop}(hu:A.units+1<cLine) (I:Inv X pins σ H s) (g:qK H a y o) (ry:jx y u) (h:∀s',Inv X pins σ H s'->Q (.bool o.isSome) s') :
  aC (aH X.prog X.w) A (cD .In u (.ref a)) Q E s:=by
 rcases g with ⟨kvs,k,e,ey,l⟩ | ⟨kvs,k,b,e,ey,eb,l⟩
 ·subst ey
  obtain ⟨z,hd,vs,rel,dd⟩:=ur I.hok e
  refine wpAny_in_of (wE ry) hd dd.mapOf ?_
  rw [<- (rel.val k).isSome_eq,<- l]
  exact h _ (I.tok _)
 ·subst ey
  cases (show u=aV b from ry)
  obtain ⟨z,hd,xs,rel,dd⟩:=Jc I.hok e
  refine wpAny_in_heap (fJ hu) (kK I.hok eb) hd dd ?_
  have q:=(rel.val k).isSome_eq
  rw [oY] at q
  rw [<- q,<- l]
  exact h _ (I.tok _)
theorem JL {h':Heap}{t':Nat}{ob:HO}(I:Inv X pins σ H s) (mu:Mut (H a)) (hs:eM a s.heap h') (he:∃q,h'.get? a=some q) (new:qg X.prog X.w (upd H a ob) h' a ob) :
  Inv X pins σ (upd H a ob) { s with heap:=h',toks:=t' } :=
 I.write (x:=a) (e:=a) mu (.inl rfl) (λb q hb z=>(hs.2 b hb).trans z) he new
theorem XC {P:Program}{w:b8}{H':Hp}{h':Heap}{kvs:List (Key×V)}{vs:List (Key×ah)}(z:kvs.length<=sizeLine) (hd:(a == eL)=false) (rel:KV kvs vs) (dd:h'.DictOf (jD P w) a vs) :
  qg P w H' h' a (.dK kvs):=⟨z,hd,vs,rel,dd⟩
theorem Yg {H':Hp}{Q:Unit->Shared->Prop}(hu:A.units+1<cLine) (I:Inv X pins σ H s) (g:kT H a y v H') (ry:jx y u) (rv:jx v r) (h:∀s',Inv X pins σ H' s'->Q () s') :
  aC (aH X.prog X.w) A (sG (.ref a) u r) Q E s:=by
 rcases g with ⟨kvs,k,e,ey,l,eH⟩ | ⟨kvs,k,b,e,ey,eb,l,eH⟩
 ·subst ey eH
  obtain ⟨z,hd,vs,rel,dd⟩:=Vv I.hok e
  have hz:vs.length<=sizeLine:=by rw [<- rel.length];exact z
  have hl:(qJ kvs k v).length<=sizeLine:=by have:=yM kvs k v;omega
  refine wpAny_setItem_pairs (hsz:=hz) (wE ry) dd λh' dd' hs=>h _ ?_
  have he:∃q,h'.get? a=some q:=let ⟨q,_,_,hq,_⟩:=dd';⟨q,hq⟩
  exact JL I (by rw [e];exact di) hs he (XC hl hd (rel.put k rv) dd')
 ·subst ey eH
  cases (show u=aV b from ry)
  obtain ⟨z,hd,xs,rel,dd⟩:=Gk I.hok e
  have hz:xs.length<=sizeLine:=by rw [<- aY rel];exact z
  have hl:(qJ kvs k v).length<=sizeLine:=by have:=yM kvs k v;omega
  refine wpAny_setItem_heap (hsz:=hz) (fJ hu) (kK I.hok eb) dd λh' dd' hs=>h _ ?_
  obtain ⟨q,es,ep,hq,h2,h3,h4,_,h5⟩:=dd'
  refine JL I (by rw [e];exact di) hs ⟨q,hq⟩ ⟨hl,hd,_,(rel.put k eb rv).keeps λc ys ec=>?_,q,es,ep,hq,h2,h3,h4,h5⟩
  rw [j5 (jk ec e (λz=>nomatch z))]
  exact ec
end
section
variable {X:Cx}{pins:List (Addr×Obj)}{σ:St}{H:Hp}{s:Shared}{a:Addr}{kvs:List (Key×V)}{k:Key}{u:ah}{A:br}{E:ah->Shared->Prop}
end
noncomputable def GM (i:Expr):Prop:=∀ov iv,mU i false ov iv=operate [ov,iv] (lq ov iv)
theorem Uq {prog:Program}{w:b8}{A:br}{E:ah->Shared->Prop}{s:Shared}{env:Env}{value slice:Expr}{pos:Pos}{T id:String}{Q:ah->Shared->Prop}
  (hl:rK (.type T) "__getitem__" = pure (some (.builtin id))) (hs:GM slice)
  (h:aC (aH prog w) A (eval value env) (λo s₁=>aC (aH prog w) A (eval slice env) (λi s₂=>s₂.TypeIs o T/\aC (aH prog w) A (lq o i) Q E s₂) E s₁) E s) :
  aC (aH prog w) A (eval (.Subscript value slice pos) env) Q E s:=by
 refine m7 (b9 h (λo s₁ h₁=>b9 h₁ (λi s₂ h₂=>?_) λ_ _ x=>x) λ_ _ x=>x)
 obtain ⟨hT,h₂⟩:=h₂
 unfold iq
 refine af ?_
 rw [getitemInPython_of_ne hT.not_modules]
 refine af (wpAny_specialOf hT hl ?_)
 have fin:aC (aH prog w) A (mU slice false o i) (λr s₃=>aC (aH prog w) A (letTemporaryGo value o r >>= λ_=>pure r) Q E s₃) E s₂:=by
  rw [hs o i]
  exact wpAny_operating (b9 h₂ (λr s₃ h₃=>af (wpAny_letTemporaryGo (wpAny_pure h₃))) λ_ _ x=>x)
 first
  | exact wpAny_pure (af fin)
  | exact af (wpAny_pure (af fin))
  | exact af fin
theorem QQ {X:Cx}{pins:List (Addr×Obj)}{σ:St}{H:Hp}{s:Shared}{a:Addr}{y:V}{o:Option V}(I:Inv X pins σ H s) (g:qK H a y o):s.TypeIs (.ref a) "dict":=by
 rcases g with ⟨kvs,k,e,_,_⟩ | ⟨kvs,k,b,e,_,_,_⟩
 ·obtain ⟨_,_,vs,_,dd⟩:=ur I.hok e
  exact dd.typeIs
 ·obtain ⟨_,_,xs,_,dd⟩:=Jc I.hok e
  exact dd.typeIs
noncomputable def UR (td ty:TE):TE:=λσ H Q=>td σ H λx H1=>ty σ H1 λy H2=>∃a v,x = .ref a/\qK H2 a y (some v)/\Q v H2
noncomputable def tDIn (ty td:TE):TE:=λσ H Q=>ty σ H λy H1=>td σ H1 λx H2=>∃a o,x = .ref a/\qK H2 a y o/\Q (.bl o.isSome) H2
noncomputable def GJ (td ty tv:TE):TS:=λD σ H=>tv σ H λv H1=>td σ H1 λx H2=>ty σ H2 λy H3=>∃a H4,x = .ref a/\kT H3 a y v H4/\D.nx σ H4
section
variable {X:Cx}{o i e value:Expr}{pos pos' tpos:Pos}{td ty tv:TE}
theorem jE (hu:X.A.units+1<cLine) (ho:PE X o td) (hi:PE X i ty) (hs:GM i):PE X (.Subscript o i pos) (UR td ty):=by
 intro pins s σ H Q I h
 refine Uq PySem.F.slot_dict_getitem.lookup hs (thn (ho pins s σ H _ I h) λu s1 ⟨x,H1,I1,rx,q1⟩=>thn (hi pins s1 σ H1 _ I1 q1) λiv s2 ⟨y,H2,I2,ry,a,v,ex,g,q2⟩=>?_)
 subst ex
 obtain rfl:u=aV a:=rx
 exact ⟨QQ I2 g,ZD hu I2 g ry λw' s3 I3 rw'=>⟨v,H2,I3,rw',q2⟩⟩
theorem Wh (hu:X.A.units+1<cLine) (hi:PE X i ty) (ho:PE X o td):PC X .In i o (tDIn ty td):=by
 intro pins s σ H Q I h
 refine thn (hi pins s σ H _ I h) λiv s1 ⟨y,H1,I1,ry,q1⟩=>thn (ho pins s1 σ H1 _ I1 q1) λu s2 ⟨x,H2,I2,rx,a,ov,ex,g,q2⟩=>?_
 subst ex
 obtain rfl:u=aV a:=rx
 exact d_in hu I2 g ry λs3 I3=>⟨.bl ov.isSome,H2,I3,rfl,q2⟩
theorem yk (hu:X.A.units+1<cLine) (ho:PE X o td) (hi:PE X i ty) (hv:PE X value tv) (hs:ig value (some (.Subscript o i pos')) pos.line X.env=pure false) :
  PS X (.Assign [.Subscript o i pos'] value pos) (GJ td ty tv):=by
 intro pins s σ H D I h
 refine wpAny_Assign_Subscript (thn (hv pins s σ H _ I h) λr s1 ⟨v,H1,I1,rv,q1⟩=>thn (ho pins s1 σ H1 _ I1 q1) λu s2 ⟨x,H2,I2,rx,q2⟩=>thn (hi pins s2 σ H2 _ I2 q2) λiv s3 ⟨y,H3,I3,ry,a,H4,ex,g,q3⟩=>?_) hs
 subst ex
 obtain rfl:u=aV a:=rx
 exact Yg hu I3 g ry rv λs4 I4=>⟨σ,H4,I4,q3⟩
end
theorem Qz {P:Program}{w:b8}{H:Hp}(h:Heap) (hb:eL<h.objs.size):qg P w H (h.push { cls:=.type "dict",data:=.dict #[] }) h.objs.size (.dK []) :=
 ⟨aQ _,beq_eq_false_iff_ne.mpr (cA (aD hb)),[],.nil,pW h⟩
noncomputable def Wn:TE:=λ_ H Q=>∀p,H p=none->Q (.ref p) (upd H p (.dK []))
section
variable {X:Cx}{pos:Pos}
theorem y8:PE X (.Dict [] [] pos) Wn:=λpins s σ H Q I h =>
 wpAny_Dict_empty ⟨.ref s.heap.objs.size,_,I.laid (a:=s.heap.objs.size) (o:=.dK []) (t':=s.toks) (λ_ _ q=>ai _ q) (ar _) (Qz s.heap I.big),rfl,h _ (I.hok.fresh (ar _))⟩
end
noncomputable def Xe:List (TE×TE)->St->Hp->(List (V×V)->Hp->Prop)->Prop
 | [],_,H,Q=>Q [] H
 | (tk,tv)::r,σ,H,Q=>tk σ H λx H1=>tv σ H1 λy H2=>Xe r σ H2 λps H3=>Q ((x,y)::ps) H3
noncomputable abbrev VV:List (V×V)->List (ah×ah)->Prop:=ck λp q=>jx p.1 q.1/\jx p.2 q.2
noncomputable def PPs (X:Cx) (pos:Pos) (keys:List (Option Expr)) (values:List Expr) (trs:List (TE×TE)):Prop :=
 ∀(pins:List (Addr×Obj)) (s:Shared) (σ:St) (H:Hp) (Q:List (V×V)->Hp->Prop),Inv X pins σ H s->Xe trs σ H Q ->
  aC (aH X.prog X.w) X.A (evalPairs (pairTrees keys values X.env pos)) (λvs s'=>∃ps H',Inv X pins σ H' s'/\VV ps vs/\Q ps H') X.xe s
theorem U4 {X:Cx}{pos:Pos}:PPs X pos [] [] []:=λpins s σ H Q I h=>pairTrees_nil_walk ⟨[],H,I,.nil,h⟩
theorem wT {X:Cx}{pos:Pos}{k v:Expr}{ks:List (Option Expr)}{vs:List Expr}{tk tv:TE}{trs:List (TE×TE)}(hk:PE X k tk) (hv:PE X v tv) (hr:PPs X pos ks vs trs) :
  PPs X pos (some k::ks) (v::vs) ((tk,tv)::trs):=λpins s σ H Q I h =>
 pairTrees_cons_walk (thn (hk pins s σ H _ I h) λu s1 ⟨x,H1,I1,rx,q1⟩=>thn (hv pins s1 σ H1 _ I1 q1) λw2 s2 ⟨y,H2,I2,ry,q2⟩ =>
  thn (hr pins s2 σ H2 _ I2 q2) λws s3 ⟨ps,H3,I3,rel,q3⟩=>⟨(x,y)::ps,H3,I3,.cons ⟨rx,ry⟩ rel,q3⟩)
noncomputable def qY (kvs more:List (Key×V)):List (Key×V):=more.foldl (λacc kv=>qJ acc kv.1 kv.2) kvs
theorem KV.merge:∀{more:List (Key×V)}{rs:List (Key×ah)}{kvs:List (Key×V)}{vs:List (Key×ah)},KV more rs->KV kvs vs->KV (qY kvs more) (merged vs rs):=by
 intro more rs kvs vs r
 unfold KV at r
 induction r generalizing kvs vs with
 | nil=>intro q;exact q
 | @cons p q ps qs h t ih =>
  intro r0
  have e:KV (qJ kvs p.1 p.2) (sJ vs q.1 q.2):=by
   have:=r0.put p.1 h.2
   rw [<- h.1];exact this
  exact ih e
theorem zR:∀(more kvs:List (Key×V)),(qY kvs more).length<=kvs.length+more.length
 | [],kvs=>by show kvs.length<=kvs.length+0;omega
 | p::r,kvs=>by
  have h1:=zR r (qJ kvs p.1 p.2)
  have h2:=yM kvs p.1 p.2
  show (qY (qJ kvs p.1 p.2) r).length<=_
  rw [b7];omega
theorem kN {P:Program}{w:b8}:∀{kvs:List (Key×V)}{ws:List (ah×ah)},VV (kvs.map λkv=>(kV kv.1,kv.2)) ws->∃rs,Carries (jD P w) ws rs/\KV kvs rs
 | [],_,r=>by rw [fU] at r;cases r;exact ⟨[],di,.nil⟩
 | p::kvs,_,r=>by
  rw [aO] at r
  cases r with
  | @cons a b as bs h t =>
   obtain ⟨rs,c,q⟩:=kN (P:=P) (w:=w) t
   obtain ⟨b1,b2⟩:=b
   exact ⟨(p.1,b2)::rs,⟨wE h.1,rfl,c⟩,.cons ⟨rfl,h.2⟩ q⟩
noncomputable def GW (trs:List (TE×TE)):TE:=λσ H Q=>∀p,H p=none->Xe trs σ (upd H p (.dK [])) λps H2=>H2 p=some (.dK [])/\∃kvs:List (Key×V),ps=kvs.map (λkv=>(kV kv.1,kv.2))/\kvs.length<=15/\Q (.ref p) (upd H2 p (.dK (qY [] kvs)))
theorem Uz {X:Cx}{pos:Pos}{keys:List (Option Expr)}{values:List Expr}{trs:List (TE×TE)}(h:PPs X pos keys values trs) (hall:keys.all (·.isSome)=true) (hl:keys.length=values.length) (h0:keys≠[])
  (h15:keys.length<=15):PE X (.Dict keys values pos) (GW trs):=by
 intro pins s σ H Q I q
 have hn:=I.hok.fresh (ar s.heap.objs.size)
 have I1:=I.laid (a:=s.heap.objs.size) (o:=.dK []) (h':=s.heap.push { cls:=.type "dict",data:=.dict #[] }) (t':=s.toks) (λ_ _ q=>ai _ q) (ar _) (Qz s.heap I.big)
 refine wpAny_Dict_walk (knd:=jD X.prog X.w) hall hl h0 h15 (thn (h pins _ σ _ _ I1 (q _ hn)) λws s2 ⟨ps,H2,I2,rel,e,kvs,ep,lk,q2⟩=>?_)
 subst ep
 obtain ⟨rs,c,rk⟩:=kN (P:=X.prog) (w:=X.w) rel
 obtain ⟨z,hd,vs0,r0,dd⟩:=Vv I2.hok e
 cases r0
 refine ⟨rs,c,dd,λh' dd' hs=>⟨.ref s.heap.objs.size,_,?_,rfl,q2⟩⟩
 have hz:(qY [] kvs).length<=sizeLine:=by
  have h1:=zR kvs []
  rw [pV] at h1
  rw [bN];omega
 have he:∃q,h'.get? s.heap.objs.size=some q:=let ⟨q,_,_,hq,_⟩:=dd';⟨q,hq⟩
 exact JL I2 (by rw [e];exact di) hs he (XC hz hd (rk.merge .nil) dd')
structure M2 (X:Cx) (o:Expr) (m:Str) (apos:Pos) (e f:Expr) (cpos:Pos):Prop where
 base:fE o m X.env (eval o X.env)=eval o X.env
 few:((cz cpos (aN [e,f] X.env)).all (λx=>!x.1) && (fS cpos (dI [] X.env)).all (λx=>x.1.isSome)
  && decide (([e,f]:List Expr).length+([]:List m6).length+(if ([]:List m6).isEmpty then 0 else 1)<30))=true
 line:(apos.endLine == cpos.line)=true
 trees:cz cpos (aN [e,f] X.env)=[(false,eval e X.env),(false,eval f X.env)]
noncomputable def IsD (H:Hp) (a:Addr):Prop:=(∃kvs,Rd H a (.dK kvs))\/∃kvs,Rd H a (.dT kvs)
theorem Wu {X:Cx}{pins:List (Addr×Obj)}{σ:St}{H:Hp}{s:Shared}{a:Addr}(I:Inv X pins σ H s) (d:IsD H a) :
  s.TypeIs (.ref a) "dict" /\ (∀b,aV a = .ref b->∃ob,s.heap.get? b=some ob/\ob.dict=none)/\(a == eL)=false:=by
 rcases d with ⟨kvs,e⟩ | ⟨kvs,e⟩
 ·obtain ⟨_,hd,vs,_,dd⟩:=ur I.hok e
  refine ⟨dd.typeIs,λb q=>?_,hd⟩
  cases q
  obtain ⟨ob,_,_,h1,h2,_⟩:=dd
  exact ⟨ob,h1,h2.2.1⟩
 ·obtain ⟨_,hd,xs,_,dd⟩:=Jc I.hok e
  refine ⟨dd.typeIs,λb q=>?_,hd⟩
  cases q
  obtain ⟨ob,_,_,h1,h2,_⟩:=dd
  exact ⟨ob,h1,h2.2.1⟩
section
variable {X:Cx}{pins:List (Addr×Obj)}{σ:St}{H:Hp}{s:Shared}{a:Addr}{y d:V}{u r:ah}{o:Option V}{A:br}{E:ah->Shared->Prop}
theorem WD {Q:ah->Shared->Prop}(hu:A.units+1<cLine) (I:Inv X pins σ H s) (g:qK H a y o) (ry:jx y u) (rd:jx d r) (h:∀w' s',Inv X pins σ H s'->jx (o.getD d) w'->Q w' s') :
  aC (aH X.prog X.w) A (call (.builtin "dict.get") [.ref a,u,r]) Q E s:=by
 rcases g with ⟨kvs,k,e,ey,l⟩ | ⟨kvs,k,b,e,ey,eb,l⟩
 ·subst ey
  obtain ⟨z,hd,vs,rel,dd⟩:=ur I.hok e
  refine call_meetsIn ic dd.typeIs mi (lQ _ _ _) (meets_dict_get_default (jD X.prog X.w) a (wE ry) hd r) ⟨_,dd.mapOf,h _ _ (I.tok _) ?_⟩
  rw [l]
  exact (rel.val k).getD rd
 ·subst ey
  cases (show u=aV b from ry)
  obtain ⟨z,hd,xs,rel,dd⟩:=Jc I.hok e
  refine call_meetsIn ic dd.typeIs mi (lQ _ _ _) (meetsH_dict_get_default (lK (jD X.prog X.w)) a b hd r) ⟨fJ hu,k,xs,kK I.hok eb,dd,h _ _ (I.tok _) ?_⟩
  rw [l]
  exact (rel.val k).getD rd
end
noncomputable def W1 (td ty tx:TE):TE:=λσ H Q=>td σ H λx H1=>∃a,x = .ref a/\IsD H1 a/\ty σ H1 λy H2=>tx σ H2 λz H3=>∃o,qK H3 a y o/\Q (o.getD z) H3
section
variable {X:Cx}{o e f:Expr}{apos cpos:Pos}{td ty tx:TE}
theorem kC (hu:X.A.units+1<cLine) (ho:PE X o td) (he:PE X e ty) (hf:PE X f tx) (m:M2 X o "get" apos e f cpos):PE X (.Call (.Attribute o "get" apos) [e,f] [] cpos) (W1 td ty tx):=by
 intro pins s σ H Q I h
 refine wpAny_Call_method m.base m.few m.line PySem.F.plainAttrs_dict ic PySem.F.type_dict_get (thn (ho pins s σ H _ I h) λu s1 ⟨x,H1,I1,rx,a,ex,d,q1⟩=>?_)
 subst ex
 obtain rfl:u=aV a:=rx
 obtain ⟨t1,t2,_⟩:=Wu I1 d
 refine ⟨t1,t2,?_⟩
 rw [m.trees]
 refine md rfl (iz (iR (thn (he pins s1 σ H1 _ I1 q1) λiv s2 ⟨y,H2,I2,ry,q2⟩ =>
  iR (thn (hf pins s2 σ H2 _ I2 q2) λfv s3 ⟨z,H3,I3,rz,ov,g,q3⟩=>oM ?_))))
 exact WD hu I3 g ry rz λw' s4 I4 rw'=>⟨_,H3,I4,rw',q3⟩
end
section
variable {X:Cx}{pins:List (Addr×Obj)}{σ:St}{H:Hp}{s:Shared}{a:Addr}{kvs:List (Key×V)}{A:br}{E:ah->Shared->Prop}
end
section
variable {X:Cx}{pins:List (Addr×Obj)}{σ:St}{H:Hp}{s:Shared}{a:Addr}{y:V}{u:ah}{A:br}{E:ah->Shared->Prop}
end
end L2
namespace Att
open PySem PySem.W PySem.Calls PyProof.Rows
section
variable {prog:Program}{w:b8}{A:br}{E:ah->Shared->Prop}{s:Shared}{K:Frag}
end
end Att
namespace L2
end L2
namespace L2
end L2
namespace L2
section
variable {P:Program}{w:b8}{K:aj}{mg:Str->Option ah}{base:Heap}
end
section
variable {X:Cx}
end
section
variable {κ:Type} [DecidableEq κ]
theorem wC:∀{l:List κ}{k:κ},l.Nodup->¬k∈l->(l++[k]).Nodup
 | [],k,_,_=>by simp
 | a::r,k,h,hk=>by
  obtain ⟨h1,h2⟩:=List.nodup_cons.mp h
  show (a::(r++[k])).Nodup
  refine List.nodup_cons.mpr ⟨λm=>?_,wC h2 λm=>hk (List.mem_cons.mpr (dz m))⟩
  rcases List.mem_append.mp m with q | q
  ·exact h1 q
  ·exact hk (List.mem_cons.mpr (aW (List.mem_singleton.mp q).symm))
end
end L2
end
section
namespace L2
open PySem.W
section
variable {prog:Program}{w:b8}{A:br}{E:ah->Shared->Prop}{s:Shared}
theorem QG {its:List ah}{κ:rN}{lt:Nat->Nat->Bool}{G:List Nat->Prop}{Q:ah->Shared->Prop}(h64:its.length<64)
  (hk:2<=its.length->∀h',(∀b o,s.heap.get? b=some o->h'.get? b=some o)->∀Q':rN->Shared->Prop,Q' κ { s with heap:=h' }->aC (aH prog w) A.in1.in1 (keyKind' its.toArray) Q' (λ_ _=>False) { s with heap:=h' })
  (hc:∀h',(∀b o,s.heap.get? b=some o->h'.get? b=some o)->∀i j,i<its.length->j<its.length->∀Q':Bool->Shared->Prop,Q' (lt i j) { s with heap:=h' } ->
   aC (aH prog w) A.in1.in1 (keyLt' κ (its.getD i b0) (its.getD j b0)) Q' (λ_ _=>False) { s with heap:=h' })
  (hs:2<=its.length->qU lt its.length (sX its.length) λp=>qm its.length p/\G p.toList) (h1:its.length<2->G (aK its.length))
  (h:∀(ix:List Nat) (h':Heap) (n:Nat),ix.Perm (aK its.length)->G ix->(∀b o,s.heap.get? b=some o->h'.get? b=some o) ->
   h'.get? (s.heap.objs.size)=some (bu "list" (ix.map λi=>its.getD i b0).toArray n)->Q (.ref (s.heap.objs.size)) { s with heap:=h' }) :
  aC (aH prog w) A.in1 (nA its >>= λl=>dY [l] (call (.builtin "list.sort") [l] []) >>= λ_=>ret l) (λfin s'=>∃v,fin = .done (.ret v)/\Q v s') E s:=by
 refine af (fH ?_ (by rw [bN];omega))
 have ho:(s.heap.push (bu "list" its.toArray 0)).get? (s.heap.objs.size)=some (bu "list" its.toArray 0):=aA _ rfl
 have keep:∀b o,s.heap.get? b=some o->(s.heap.push (bu "list" its.toArray 0)).get? b=some o:=λb o q=>by
  exact ai _ q
 show aC _ _ _ _ _ { s with heap:=s.heap.push (bu "list" its.toArray 0) }
 refine af (bR (dr mY ⟨_,ho,rfl⟩ my ?body (rP _)))
 case body =>
  generalize hh0:s.heap.push (bu "list" its.toArray 0)=h0 at ho keep
  generalize ha:s.heap.objs.size=a at ho h
  have aNew:∀b o,s.heap.get? b=some o->b≠a:=λb o q=>by have:=av q;rw [<- ha];exact aD this
  show aC (aH prog w) A.in1.in1 (ff.«list.sort» ⟨[.ref a],[]⟩) _ _ { s with heap:=h0 }
  rw [pS]
  have hal:a<h0.objs.size:=av ho
  refine af (mf ho rfl ?_)
  refine af (d4 ho rfl ?_ (by rw [ax,bN];omega) (aQ _))
  obtain ⟨e1,ho1⟩:∃e1,(h0.update a (aZ λ_=>(#[]:Array ah))).get? a=some (bu "list" #[] e1):=⟨_,eV ho (λ_=>#[])⟩
  refine af (fi ho1 rfl ?_)
  refine af (iV ?_ (by show its.length<=_;rw [bN];omega))
  refine af (fH ?_ (aQ _))
  refine bR ?_
  have ho6:(((h0.update a (aZ λ_=>(#[]:Array ah))).push (bu "tuple" its.toArray 0)).push (bu "list" #[] 0)).get? a=some (bu "list" #[] e1):=by
   rw [cR _ _ _ (by rw [om,eC];exact aD (bE hal)),cR _ _ _ (by rw [eC];exact aD hal)]
   exact ho1
  have keep6:∀b o,s.heap.get? b=some o->(((h0.update a (aZ λ_=>(#[]:Array ah))).push (bu "tuple" its.toArray 0)).push (bu "list" #[] 0)).get? b=some o:=λb o q =>
   ai _ (ai _ ((cf _ _ _ _ (aNew b o q)).trans (keep b o q)))
  show aC (aH prog w) A.in1.in1 _ _ _ { s with heap:=((h0.update a (aZ λ_=>(#[]:Array ah))).push (bu "tuple" its.toArray 0)).push (bu "list" #[] 0) }
  generalize ((h0.update a (aZ λ_=>(#[]:Array ah))).push (bu "tuple" its.toArray 0)).push (bu "list" #[] 0)=h6 at ho6 keep6
  dsimp only
  have fin:∀(ix:List Nat),ix.Perm (aK its.length)->G ix->∀out:Array ah,out=(ix.map λi=>its.getD i b0).toArray ->
    ∃v,rQ (Flow.ret b0) = .done (.ret v)/\aC (aH prog w) A.in1 (do let _ <- pure v;ret (aV a)) (λfin s'=>∃v,fin = .done (.ret v)/\Q v s') E { s with heap:=h6.update a (aZ λ_=>out) }:=λix hp hg out ho'=>by
   refine ⟨_,rfl,af (wpAny_pure (wpAny_pure ⟨_,rfl,?_⟩))⟩
   subst ho'
   exact h ix _ _ hp hg (λb o q=>(cf _ _ _ _ (aNew b o q)).trans (keep6 b o q)) (eV ho6 λ_=>_)
  by_cases h2:its.toArray.size<2
  ·rw [if_pos h2,if_pos h2]
   refine af (wpAny_pure ?_)
   rw [mz]
   refine af (wpAny_pure ?_)
   dsimp only
   refine af (fi ho6 rfl ?_)
   rw [vZ]
   refine af (d4 ho6 rfl ?_ (aQ _) (by rw [ax,bN];omega))
   simp only [bne_self_eq_false,cp,if_false]
   rw [ax] at h2
   exact wpAny_pure (fin _ (mZ _) (h1 h2) _ (by rw [vB]))
  ·rw [if_neg h2,if_neg h2]
   rw [ax] at h2
   refine af (b9 (hk ∅ h6 keep6 (λκ' s'=>κ'=κ/\s'={ s with heap:=h6 }) ⟨rfl,rfl⟩) (λκ' s' q=>?_) λ_ _ x=>x.elim)
   obtain ⟨rfl,rfl⟩:=q
   refine af (b9 (kat_run (ks:=its) (vs:=its) (κ:=κ') (G:=λp s'=>(qm its.length p/\G p.toList)/\s'={ s with heap:=h6 }) (Q:=λst' s'=>∃p:Array Nat,arrOf st'=p.map (sY (its.toArray.zip its.toArray))/\rR st'=none/\(qm its.length p/\G p.toList)/\s'={ s with heap:=h6 })
    rfl ∅ h64 (λp st' s' a1 a2 a3 a4=>⟨p,a2,a3,a4⟩) (qU.wp (I:=λs'=>s'={ s with heap:=h6 }) (λi j C s' hi hj hI hC=>?_) (λp s' hp hI=>⟨hp,hI⟩) (hs ∅) rfl)) ?_ λ_ _ e=>e)
   ·subst hI
    exact hc h6 keep6 i j hi hj C (hC _ rfl)
   ·rintro ⟨⟨⟩,st'⟩ s' ⟨p,har,hf,⟨hP,hG⟩,rfl⟩
    dsimp only
    have hout:=sZ (ks:=its) (vs:=its) rfl har
    have hz:(oR (p.toList.map λi=>its.getD i b0)).size=its.length:=by rw [ax,aa,bJ,hP.size]
    rw [hout]
    refine af (fi ho6 rfl ?_)
    refine af (d4 ho6 rfl ?_ (aQ _) (by rw [hz,bN];omega))
    rw [hf]
    simp only [bne_self_eq_false,cp,if_false]
    exact wpAny_pure (fin p.toList (by have:=Array.perm_iff_toList_perm.mp hP;simpa using this) hG _ rfl)
theorem XA {v:ah}{Q:ah->Shared->Prop}(hcol:aC (aH prog w) A.in1 (collect v) (λits s1=>aC (aH prog w) A.in1 (nA its >>= λl=>dY [l] (call (.builtin "list.sort") [l] []) >>= λ_=>ret l) (λfin s'=>∃v,fin = .done (.ret v)/\Q v s') E s1) E s) :
  aC (aH prog w) A (call (.builtin "sorted") [v]) Q E s:=by
 refine lh pO oP oQ (args_sorted1 _) ?_
 unfold ff.«sorted»
 refine af (m:=rO "sorted" 1 1 _) (wpAny_pure ?_)
 exact af hcol
end
section
variable {X:Cx}
theorem Inv.laidN {pins:List (Addr×Obj)}{σ:St}{H:Hp}{s:Shared}{h':Heap}{a:Addr}{o:HO}{t':Nat}(I:Inv X pins σ H s) (k:∀b u,s.heap.get? b=some u->h'.get? b=some u) (hn:s.heap.get? a=none) (new:H a=none->qg X.prog X.w (upd H a o) h' a o):H a=none/\Inv X pins σ (upd H a o) { s with heap:=h',toks:=t' }:=by
 have hH:H a=none:=by
  cases q:H a with
  | none=>rfl
  | some u =>
   obtain ⟨ob,e⟩:=kl (I.hok a u q)
   rw [hn] at e
   cases e
 have ne:∀{b u},s.heap.get? b=some u->b≠a:=λe z=>by rw [z,hn] at e;cases e
 refine ⟨hH,I.un ⟨λb u q _ _ _=>k b u q,λb u q _ _ _=>⟨u.slots,k b u q⟩,λb u q n _=>by rw [j5 (ne q)];exact n,λb u q _=>⟨u,k b u q⟩,λb xs q=>by rw [j5 (j1 q hH)];exact q,λb u xs q=>by rw [j5 (j1 q hH)];exact q,λb ps q=>⟨#[],by rw [j5 (j1 q hH),q];simp⟩⟩ λb u e=>?_⟩
 by_cases hb:b=a
 ·subst hb;rw [j4] at e;cases e;exact new hH
 ·rw [j5 hb] at e
  exact (I.hok b u e).stay (λc v _ q=>k c v q) (λc q=>by rw [j5 (j1 q hH)];exact q) λc xs q=>by rw [j5 (j1 q hH)];exact q
theorem ua (K:aj) (hca:X.calm=true) (hK:X.K=K:=by rfl):qE X (.builtin "sorted") (λxs H Q=>∃(p:Addr) (kvs:List (Key×V)) (ns:List Int),xs=[.ref p]/\H p=some (.dK kvs)/\kvs.map (·.1)=ns.map dX/\ns.length<64 /\
  ∀(l:Addr) H' (ns':List Int),H l=none->H' l=some (.lst (ns'.map V.int))->jg H H'->ns'.Perm ns->ns'.Pairwise (· <= ·)->Q (.ref l) H'):=by
 subst hK
 intro pins s σ H xs us Q I r h
 obtain ⟨p,kvs,ns,rfl,hp0,hks,h64,k⟩:=h
 obtain ⟨u,rfl,ru⟩:=xT r
 cases ru
 obtain ⟨hz,lo,vs,kv,dd⟩:=Vv I.hok hp0
 obtain ⟨ep,hat⟩:=dd.dictAt
 have hvl:vs.length=ns.length:=by
  have e1:kvs.length=vs.length:=aY kv
  have e2:=congrArg mS hks
  rw [aa,aa] at e2
  omega
 refine XA (kdu_collect (kdl_dict (knd:=jD X.prog X.w) (kvs:=vs) (ep:=ep) lo) (I.ok.hd hca) hat (cJ (ja ∅)) λh1 tk acc hk1 hacc=>?_)
 have hal:acc.toList.length=ns.length:=by rw [bJ,hacc.1,hvl]
 have item:∀i,i<acc.toList.length->∃t,acc.toList.getD i b0 = .int (ns.getD i 0) t:=λi hi=>by
  have hi2:i<acc.size:=by rw [bJ] at hi;exact hi
  obtain ⟨key,x,hx,his⟩:=hacc.2 i acc[i] (dC hi2)
  have hi3:i<kvs.length:=by
   have e1:kvs.length=vs.length:=aY kv
   omega
  obtain ⟨q,hq,e1,_⟩:=Paired.get kv (ae hi3)
  rw [hx] at hq
  cases hq
  have e2:(kvs.map (·.1))[i]? = some key:=by rw [aB,ae hi3];exact congrArg some e1
  have hin:i<ns.length:=∅
  rw [hks,aB,ae hin] at e2
  cases e2
  obtain ⟨t,et⟩:=fO his
  refine ⟨t,?_⟩
  rw [ak,mJ,dC hi2,et,ak,ae hin]
  rfl
 generalize acc.toList=its at hal item
 refine QG (s:={ s with heap:=h1,toks:=tk }) (κ:=oneType') (lt:=ltK Ue λi=>ns.getD i 0) (G:=λix=>(ix.map λi=>ns.getD i 0).Pairwise Ue.kle) ∅ (λh2 h' hk' Q' q=>?_) (λh' hk' i j hi hj Q' q=>?_) (λh2=>?_) (λh1=>?_) λix h' n hp hg hk' hn=>?_
 ·refine kas_kind (T:=.type "int") h2 (λv hv=>?_) rfl rfl q
  obtain ⟨i,hi,rfl⟩:=List.mem_iff_getElem.mp hv
  obtain ⟨t,e1⟩:=item i hi
  have e3:its[i] = .int (ns.getD i 0) t:=by rw [<- e1];simp [hi]
  rw [e3]
  exact sr rfl
 ·obtain ⟨t,e1⟩:=item i hi
  obtain ⟨u,e2⟩:=item j hj
  rw [e1,e2]
  exact kat_lt_int q
 ·exact wZ ∅ λp' hP hS=>⟨hP,hS.pairwise hP.size⟩
 ·have hcase:its.length=0\/its.length=1:=∅
  rcases hcase with z | z
  ·rw [z];exact fV
  ·rw [z];exact fM _ _
 ·have hn0:s.heap.get? h1.objs.size=none:=by
   cases q:s.heap.get? h1.objs.size with
   | none=>rfl
   | some u=>exact absurd (av (hk1 _ _ q)) (cc _)
  have hv:jB ((ix.map λi=>ns.getD i 0).map V.int) (ix.map λi=>its.getD i b0):=by
   have hb:∀i∈ix,i<its.length:=λi hi=>by have:=hp.mem_iff.mp hi;simpa using this
   clear hp hg hn
   induction ix with
   | nil=>exact .nil
   | cons i ix ih =>
    obtain ⟨t,e⟩:=item i (hb i aG)
    exact .cons ⟨t,e⟩ (ih λj hj=>hb j (az _ hj))
  have hns:((aK its.length).map λi=>ns.getD i 0)=ns:=by
   apply lP
   ·simp [hal]
   ·intro i h1 h2
    simp [h2]
  have hsz:((ix.map λi=>ns.getD i 0).map V.int).length<=sizeLine:=by
   rw [aa,aa,hp.length_eq,bF]
   exact aI (by omega:its.length<=1000) ⋯
  obtain ⟨hf,J⟩:=Inv.laidN (o:=.lst ((ix.map λi=>ns.getD i 0).map V.int)) (t':=tk) I (λb o e=>hk' b o (hk1 b o e)) hn0 λ_=>⟨hsz,_,n,hv,hn⟩
  refine ⟨.ref _,upd H h1.objs.size (.lst ((ix.map λi=>ns.getD i 0).map V.int)),J,rfl,k _ _ _ hf j4 (jg.new hf) ?_ ?_⟩
  ·have:=hp.map λi=>ns.getD i 0
   rw [hns] at this
   exact this
  ·exact List.Pairwise.imp (R:=Ue.kle) (λ{a b} z=>YZ z) hg
end
end L2
end
section
namespace L2
open PySem.W
theorem Inv.freeze {X:Cx}{pins:List (Addr×Obj)}{σ:St}{H:Hp}{s:Shared}{a:Addr}{o:Obj}{kvs:List (Key×V)}(I:Inv X pins σ H s) (e:H a=some (.dK kvs)) (ho:s.heap.get? a=some o):Inv X pins σ (upd H a (.frz o (.dK kvs))) s:=by
 refine I.un (t':=s.toks) ⟨λb u q _ _ _=>q,λb u q _ _ _=>⟨u.slots,q⟩,λb u q n _=>?_,λb u q _=>⟨u,q⟩,λb xs q=>?_,λb u xs q=>?_,λb ps q=>⟨#[],?_⟩⟩ λb u q=>?_
 ·rw [j5 (λz=>by rw [z,e] at n;cases n)];exact n
 ·rw [j5 (jk q e (by intro z;cases z))];exact q
 ·rw [j5 (jk q e (by intro z;cases z))];exact q
 ·rw [j5 (jk q e (by intro z;cases z)),q];simp
 ·by_cases hb:b=a
  ·subst hb
   rw [j4] at q
   cases q
   exact ⟨ho,I.hok _ _ e⟩
  ·rw [j5 hb] at q
   exact (I.hok b u q).stay (λc v _ q=>q) (λc q=>by rw [j5 (jk q e (by intro z;cases z))];exact q) λc xs q=>by rw [j5 (jk q e (by intro z;cases z))];exact q
noncomputable def Itd (a:Addr) (o:Obj) (kvs:List (Key×V)):It :=
 ⟨λi H=>H a=some (.frz o (.dK kvs))/\i<kvs.length,λi H x H'=>H'=H/\∃q,kvs[i]? = some q/\x=kV q.1,λi H=>H a=some (.frz o (.dK kvs))/\kvs.length<=i⟩
theorem relK {P:Program}{w:b8}{k:Key}{v:ah}(h:(jD P w).is k v=true):jx (kV k) v:=by
 cases k with
 | inl i=>exact fO h
 | inr x=>exact nI h
theorem Ye {P:Program}{w:b8}{K:aj}{tg:Expr}{a it:Addr}{o:Obj}{kvs:List (Key×V)}{vs:List (Key×ah)}{ep:Nat}(kv:KV kvs vs) (HD:∀h:Heap,h.get? a=some o->h.DictAt (jD P w) a vs ep):Turn P w K tg (Itd a o kvs) [it] it (λi h=>h.IsKeyIter it a i vs.length ep) where
 mem:=by simp
 obj:=λi h st b hb=>by
  have e:b=it:=by simpa using hb
  subst e
  obtain ⟨o,e,c,d⟩:=st
  exact ⟨o,e,λv z=>by rw [d] at z;cases z⟩
 keep:=λi h h' st k=>st.at λo e=>k it (by simp) o e
 item:=by
  intro X hP hw hK hc i pins s σ H E I hf st hg
  subst hP hw hK
  obtain ⟨hq,hi⟩:=hg
  have hat:=HD s.heap (I.hok _ _ hq).1
  have hl:kvs.length=vs.length:=aY kv
  obtain ⟨f0,f1,f2,f3,f4,f5⟩:=hf it (by simp)
  obtain ⟨⟨k,x⟩,hx,ek,_⟩:=Paired.get kv (ae hi)
  refine wpAny_pyNext_dict_item st hat hx λkey h' hkey st' sb=>?_
  have I1:Inv X pins σ H { s with heap:=h' }:=I.turned (t':=s.toks) (λb o hb e=>(sb.2 b hb).trans e) f0 f1 f3 f4 f5
  obtain ⟨ob,e,c,d⟩:=id st'
  exact ⟨key,rfl,QT (s:={ s with heap:=h' }) e c d ⋯ ⟨kV k,H,I1,relK hkey,⟨rfl,_,ae hi,by rw [show (kvs[i]'hi).1=k from ek]⟩,st',λb hb=>(hf b hb).1⟩⟩
 done:=by
  intro X hP hw hK hc i pins s σ H E I hf st hg
  subst hP hw hK
  obtain ⟨hq,hi⟩:=hg
  have hat:=HD s.heap (I.hok _ _ hq).1
  have hl:kvs.length=vs.length:=aY kv
  obtain ⟨f0,f1,f2,f3,f4,f5⟩:=hf it (by simp)
  exact wpAny_pyNext_dict_end (I.ok.hd hc) st hat (by simp;omega) λh' eb=>⟨rfl,I.turned (t':=s.toks) (λb o hb e=>eb b o hb e) f0 f1 f3 f4 f5⟩
 self:=λ_ _ _ _ _ st h=>wpAny_pyIter_keyiter st h
noncomputable def iDic (td:TE):TI:=λσ H R=>td σ H λx H1=>∃a kvs,x = .ref a/\((H1 a=some (.dK kvs)/\∀o,R (Itd a o kvs) (upd H1 a (.frz o (.dK kvs))))\/∃o,H1 a=some (.frz o (.dK kvs))/\R (Itd a o kvs) H1)
theorem wx {X:Cx}{tg l:Expr}{td:TE}(hl:PE X l td):PI X tg l (iDic td):=by
 intro pins s σ H R I h
 refine thn (hl pins s σ H _ I h) λv s1 ⟨x,H1,I1,r1,a,kvs,e,q⟩=>?_
 subst e
 cases r1
 have main:∀{H2:Hp} {o:Obj},Inv X pins σ H2 s1->H2 a=some (.frz o (.dK kvs))->R (Itd a o kvs) H2->aC (aH X.prog X.w) X.A (mQ (.ref a)) (PIE X pins σ tg R) X.xe s1:=λ{H2 o} I2 e2 q2=>by
  have ho:=(I2.hok _ _ e2).1
  obtain ⟨hz,lo,vs,kv,dd⟩:=ur I2.hok (.inr ⟨o,e2⟩)
  obtain ⟨ep,ob,es,h1,hrest⟩:=dd.dictAt
  rw [ho] at h1
  cases h1
  have HD:∀h:Heap,h.get? a=some o->h.DictAt (jD X.prog X.w) a vs ep:=λh e=>⟨o,es,e,hrest⟩
  refine wpAny_pyIter_dict lo (HD _ ho) ?_
  refine ⟨s1.heap.objs.size,[s1.heap.objs.size],_,_,H2,rfl,I2.kept (t':=s1.toks) λb o e=>ai _ e,Ye kv HD,⟨_,aA _ rfl,rfl,rfl⟩,λb hb=>?_,q2⟩
  have e:b=s1.heap.objs.size:=by simpa using hb
  subst e
  exact I2.fpOk (ar _) (I2.hok.fresh (ar _))
 rcases q with ⟨e1,q1⟩ | ⟨o,e1,q1⟩
 ·obtain ⟨hz,lo,vs,kv,dd⟩:=ur I1.hok (.inl e1)
  obtain ⟨ep,ob,es,h1,hrest⟩:=dd.dictAt
  exact main (I1.freeze e1 h1) j4 (q1 ob)
 ·exact main I1 e1 q1
theorem Qh {a:Addr}{o:Obj}{kvs:List (Key×V)}{g:TG}{tb:TS}{D:Ends}{σ:St}{H:Hp}(Pv:Nat->St->Hp->Prop) (h0:Pv 0 σ H) (hl:∀i σ H,i<=kvs.length->Pv i σ H->H a=some (.frz o (.dK kvs)))
  (hs:∀i q σ H,kvs[i]? = some q->Pv i σ H->g (kV q.1) σ H λσ2 H2=>tb { D with nx:=Pv (i+1),ct:=Pv (i+1),bk:=D.nx } σ2 H2) (hd:∀σ H,Pv kvs.length σ H->D.nx σ H) :
  ∃W:Nat->Nat->St->Hp->Prop,(∃m,W 0 m σ H)/\∀i m σ H,W i m σ H ->
   ((Itd a o kvs).stop i H/\D.nx σ H)\/((Itd a o kvs).go i H/\∃N:St->Hp->Prop,(∀σ' H',N σ' H'->∃m',m'<m/\W (i+1) m' σ' H')/\∀x H',(Itd a o kvs).yld i H x H'->g x σ H' λσ2 H2=>tb { D with nx:=N,ct:=N,bk:=D.nx } σ2 H2):=by
 refine ⟨λi m σ H=>m=kvs.length-i/\i<=kvs.length/\Pv i σ H,⟨kvs.length,by simp,aQ _,h0⟩,?_⟩
 rintro i m σ H ⟨rfl,hi,p⟩
 have q:=hl i σ H hi p
 by_cases hlt:i<kvs.length
 ·refine .inr ⟨⟨q,hlt⟩,Pv (i+1),λσ' H' p'=>⟨kvs.length-(i+1),∅,rfl,hlt,p'⟩,λx H' y=>?_⟩
  obtain ⟨e,z,hz,ex⟩:=y
  subst e ex
  exact hs i z σ _ hz p
 ·obtain rfl:i=kvs.length:=∅
  exact .inl ⟨⟨q,ar _⟩,hd σ H p⟩
theorem gU {a acc:Addr}{o:Obj}{kvs:List (Key×V)}{g:TG}{ti:TT}{te:TE}{R:Hp->Prop}{σ:St}{H:Hp}(Pv:Nat->St->Hp->Prop) (h0:Pv 0 σ H) (hl:∀i σ H,i<=kvs.length->Pv i σ H->H a=some (.frz o (.dK kvs)))
  (hs:∀i q σ H,kvs[i]? = some q->Pv i σ H->g (kV q.1) σ H λσ3 H3=>ti σ3 H3 λok H4=>if ok=true then te σ3 H4 λv H5=>∃ys,H5 acc=some (.lst ys)/\ys.length<sizeLine/\Pv (i+1) σ3 (upd H5 acc (.lst (ys++[v]))) else Pv (i+1) σ3 H4)
  (hd:∀σ H,Pv kvs.length σ H->R H) :
  ∃W:Nat->Nat->St->Hp->Prop,(∃m,W 0 m σ H)/\∀i m σ' H',W i m σ' H' ->
   ((Itd a o kvs).stop i H'/\R H')\/((Itd a o kvs).go i H'/\∃NX:St->Hp->Prop,(∀σ2 H2,NX σ2 H2->∃m',m'<m/\W (i+1) m' σ2 H2) /\
    ∀x H2,(Itd a o kvs).yld i H' x H2->g x σ' H2 λσ3 H3=>ti σ3 H3 λok H4=>if ok=true then te σ3 H4 λv H5=>∃ys,H5 acc=some (.lst ys)/\ys.length<sizeLine/\NX σ3 (upd H5 acc (.lst (ys++[v]))) else NX σ3 H4):=by
 refine ⟨λi m σ H=>m=kvs.length-i/\i<=kvs.length/\Pv i σ H,⟨kvs.length,by simp,aQ _,h0⟩,?_⟩
 rintro i m σ H ⟨rfl,hi,p⟩
 have q:=hl i σ H hi p
 by_cases hlt:i<kvs.length
 ·refine .inr ⟨⟨q,hlt⟩,Pv (i+1),λσ' H' p'=>⟨kvs.length-(i+1),∅,rfl,hlt,p'⟩,λx H' y=>?_⟩
  obtain ⟨e,z,hz,ex⟩:=y
  subst e ex
  exact hs i z σ _ hz p
 ·obtain rfl:i=kvs.length:=∅
  exact .inl ⟨⟨q,ar _⟩,hd σ H p⟩
end L2
end
section
namespace L2
open PySem.W
theorem Zy {P:Program}{w:b8}{K:aj}{tg:Expr}(it:Addr) (lo:Int) (n:Nat):Turn P w K tg (Itr lo n) [it] it (λi h=>IsLongIter h it (lo+(i:Nat)*1) ((n:Int)-(i:Nat)) 1) where
 mem:=by simp
 obj:=λi h st b hb=>by
  have e:b=it:=by simpa using hb
  subst e
  exact ⟨_,st,λv z=>by
   have z':fK _=lM v:=z
   cases z'⟩
 keep:=λi h h' st k=>k it (by simp) _ st
 item:=by
  intro X hP hw hK hc i pins s σ H E I hf st hg
  subst hP hw hK
  obtain ⟨f0,f1,f2,f3,f4,f5⟩:=hf it (by simp)
  have W:=Walks.longrange (prog:=X.prog) (w:=X.w) (I.ok.hd hc) it lo 1 n
  refine W.item i s _ _ hg st λv h' tk hv st' kk=>?_
  obtain ⟨t,rfl⟩:=hv
  have I1:Inv X pins σ H { s with heap:=h',toks:=tk }:=I.turned (λb o hb e=>kk b o (by simpa using hb) e) f0 f1 f3 f4 f5
  refine ⟨_,rfl,QT (s:={ s with heap:=h',toks:=tk }) (n:="longrange_iterator") st' rfl rfl ⋯ ⟨.int (lo+i),H,I1,⟨t,?_⟩,⟨rfl,rfl⟩,st',λb hb=>(hf b hb).1⟩⟩
  rw [mR]
 done:=by
  intro X hP hw hK hc i pins s σ H E I hf st hg
  subst hP hw hK
  obtain ⟨f0,f1,f2,f3,f4,f5⟩:=hf it (by simp)
  exact wpAny_pyNext_long_end (I.ok.hd hc) st (by have:n<=i:=hg;omega) λh' eb=>⟨rfl,I.turned (t':=s.toks) (λb o hb e=>eb b o hb e) f0 f1 f3 f4 f5⟩
 self:=λ_ _ _ _ _ st h=>wpAny_pyIter_longiter st h
section
variable {X:Cx}{tg:Expr}
theorem ZZ {pins:List (Addr×Obj)}{σ:St}{H:Hp}{s:Shared}{R:It->Hp->Prop}{E:ah->Shared->Prop}{lo hi:Int}{t u v:Tok}{tk:Nat}(I:Inv X pins σ H s)
  (q:R (Itr lo (hi-lo).toNat) H):aC (aH X.prog X.w) X.A (mQ (.ref s.heap.objs.size)) (PIE X pins σ tg R) E { s with heap:=s.heap.push { cls:=.type "range",data:=.fields #[.int lo t,.int hi u,.int 1 v] },toks:=tk }:=by
 have I1:Inv X pins σ H { s with heap:=s.heap.push { cls:=.type "range",data:=.fields #[.int lo t,.int hi u,.int 1 v] },toks:=tk }:=I.kept λb o e=>ai _ e
 have e1:lo+((0:Nat):Int)*1=lo:=by simp
 have e2:(((hi-lo).toNat:Nat):Int)-((0:Nat):Int)=lN lo hi 1:=by rw [rZ];split <;> omega
 have fp:∀b∈[(s.heap.push { cls:=.type "range",data:=.fields #[.int lo t,.int hi u,.int 1 v] }).objs.size],_:=λb hb=>by
  have e:b=(s.heap.push { cls:=.type "range",data:=.fields #[.int lo t,.int hi u,.int 1 v] }).objs.size:=by simpa using hb
  subst e
  exact I1.fpOk (ar _) (I1.hok.fresh (ar _))
 by_cases sm:Builtin.Range.small lo hi 1=true
 ·refine o9 (pL ..) sm ?_
  refine ⟨(s.heap.push { cls:=.type "range",data:=.fields #[.int lo t,.int hi u,.int 1 v] }).objs.size,[(s.heap.push { cls:=.type "range",data:=.fields #[.int lo t,.int hi u,.int 1 v] }).objs.size],_,_,H,rfl,
   I1.kept (t':=tk) λb o e=>ai _ e,wX _ lo (hi-lo).toNat,?_,fp,q⟩
  show pK _ _ (lo+((0:Nat):Int)*1) ((((hi-lo).toNat:Nat):Int)-((0:Nat):Int)) 1
  rw [e1,e2]
  exact aA _ rfl
 ·refine wpAny_pyIter_longrange (pL ..) (by simpa using sm) ?_
  refine ⟨(s.heap.push { cls:=.type "range",data:=.fields #[.int lo t,.int hi u,.int 1 v] }).objs.size,[(s.heap.push { cls:=.type "range",data:=.fields #[.int lo t,.int hi u,.int 1 v] }).objs.size],_,_,H,rfl,
   I1.kept (t':=tk) λb o e=>ai _ e,Zy _ lo (hi-lo).toNat,?_,fp,q⟩
  show IsLongIter _ _ (lo+((0:Nat):Int)*1) ((((hi-lo).toNat:Nat):Int)-((0:Nat):Int)) 1
  rw [e1,e2]
  exact aA _ rfl
noncomputable def GG (ta:TA):TI:=λσ H R=>ta σ H λvs H1=>∃i j:Int,vs=[.int i,.int j]/\R (Itr i (j-i).toNat) H1
theorem Y4 {a b:Expr}{ta:TA}{p pos:Pos}(hg:Gl X "range") (hm:X.mg "range" = none) (ha:PA X [a,b] ta) (hs:aN [a,b] X.env=[(false,eval a X.env),(false,eval b X.env)]:=by rfl) (hs2:aN [b] X.env=[(false,eval b X.env)]:=by rfl) :
  PI X tg (.Call (.Name "range" p) [a,b] [] pos) (GG ta):=by
 intro pins s σ H R I h
 refine tf (zK I hg hm rE (cj (thn (ha pos pins s σ H _ I h) λus s1 ⟨vs,H1,I1,r1,q1⟩=>?_) (by rw [hs,hs2]) (by rw [hs2];rfl)))
 obtain ⟨i,j,e,q⟩:=q1
 subst e
 cases r1 with
 | cons r rr =>
  cases rr with
  | cons r' rr =>
   cases rr
   obtain ⟨t,rfl⟩:=r
   obtain ⟨t',rfl⟩:=r'
   exact call_range_2 (ZZ I1 q)
end
end L2
end
section
namespace L2
open PySem.W
noncomputable def Fz (a:Addr) (kvs:List (Key×V)) (o:Obj) (H H4:Hp):Prop:=H4 a=some (.frz o (.dK kvs))/\(H4=H\/(H a=some (.dK kvs)/\H4=upd H a (.frz o (.dK kvs))))
theorem Fz.at {a:Addr}{kvs:List (Key×V)}{o:Obj}{H H4:Hp}(f:Fz a kvs o H H4) {c:Addr}{u:HO}(h:H c=some u) (n:c≠a):H4 c=some u:=by
 rcases f.2 with rfl | ⟨_,rfl⟩
 ·exact h
 ·rw [j5 n];exact h
theorem Jf {a:Addr}{kvs:List (Key×V)}{g:TG}{tb:TS}{D:Ends}{σ:St}{H:Hp}(h:Rd H a (.dK kvs)) (Pv:Obj->Nat->St->Hp->Prop) (h0:∀o H4,Fz a kvs o H H4->Pv o 0 σ H4) (hl:∀o i σ H,i<=kvs.length->Pv o i σ H->H a=some (.frz o (.dK kvs)))
  (hs:∀o i q σ H,kvs[i]? = some q->Pv o i σ H->g (kV q.1) σ H λσ2 H2=>tb { D with nx:=Pv o (i+1),ct:=Pv o (i+1),bk:=D.nx } σ2 H2) (hd:∀o σ H,Pv o kvs.length σ H->D.nx σ H) :
  ∃a' kvs',V.ref a = .ref a'/\((H a'=some (.dK kvs')/\∀o,∃W:Nat->Nat->St->Hp->Prop,(∃m,W 0 m σ (upd H a' (.frz o (.dK kvs'))))/\∀i m σ H,W i m σ H ->
   ((Itd a' o kvs').stop i H/\D.nx σ H)\/((Itd a' o kvs').go i H/\∃N:St->Hp->Prop,(∀σ' H',N σ' H'->∃m',m'<m/\W (i+1) m' σ' H')/\∀x H',(Itd a' o kvs').yld i H x H'->g x σ H' λσ2 H2=>tb { D with nx:=N,ct:=N,bk:=D.nx } σ2 H2)) \/
   ∃o,H a'=some (.frz o (.dK kvs'))/\∃W:Nat->Nat->St->Hp->Prop,(∃m,W 0 m σ H)/\∀i m σ H,W i m σ H ->
   ((Itd a' o kvs').stop i H/\D.nx σ H)\/((Itd a' o kvs').go i H/\∃N:St->Hp->Prop,(∀σ' H',N σ' H'->∃m',m'<m/\W (i+1) m' σ' H')/\∀x H',(Itd a' o kvs').yld i H x H'->g x σ H' λσ2 H2=>tb { D with nx:=N,ct:=N,bk:=D.nx } σ2 H2)):=by
 rcases h with h | ⟨o,h⟩
 ·exact ⟨a,kvs,rfl,.inl ⟨h,λo=>Qh (a:=a) (o:=o) (kvs:=kvs) (Pv o) (h0 o _ ⟨j4,.inr ⟨h,rfl⟩⟩) (hl o) (hs o) (hd o)⟩⟩
 ·exact ⟨a,kvs,rfl,.inr ⟨o,h,Qh (a:=a) (o:=o) (kvs:=kvs) (Pv o) (h0 o _ ⟨h,.inl rfl⟩) (hl o) (hs o) (hd o)⟩⟩
end L2
end
section
namespace L2
open PySem.W
section
variable {prog:Program}{w:b8}{A:br}{E:ah->Shared->Prop}{s:Shared}
theorem VY:rK (.type "list") "keys" = pure none:=by rw [typeLookup_type,builtinLookup_eq_fast];kernel_rfl
theorem Y7 {a:Addr}{o:Obj}{xs:Array ah}{k:Nat}{Q:Option ah->Shared->Prop}(hx:s.heap.get? a=some o) (hc:o.cls = .type "list") (hdat:o.data = .seq xs k) (hd:o.dict=none) (hA:A.handled=none)
  (h:∀h' tk,(∀b o,s.heap.get? b=some o->h'.get? b=some o)->Q none { s with heap:=h',toks:=tk }):aC (aH prog w) A (getAttr? (.ref a) "keys") Q E s:=by
 obtain ⟨c,dct,dat,sl⟩:=o
 simp only at hc hdat hd
 subst hc hdat hd
 obtain ⟨hp,g,d,tk,os⟩:=s
 have hT:∀tk',(⟨hp,g,d,tk',os⟩:Shared).TypeIs (.ref a) "list":=λ_=>⟨_,hx,rfl⟩
 have f1:=sub_AttributeError
 have f3:=F.slot_list_getattribute.lookup
 have f4:=F.slot_list_getattribute.bind (.ref a)
 have f5:=am_list_getattr_none
 unfold getAttr? getAttrBy? getAttrBy
 repeat (any_goals (first | assumption | exact hT _ | ((with_reducible show aC _ _ (call (Value.builtin "list.__getattribute__") _ _) _ _ _);refine oa F.slot_list_getattribute (hT _) am_entry_list_getattribute (F.args_list_getattribute_2 _ _) (meets_getattribute_miss_list a xs k sl "keys" _ VY (by decide +kernel) ⋯) ⟨hx,hA,λh' tk' e hx'=>?_⟩) | wp_step))
 obtain ⟨t',u',he⟩:=hx'.there
 show aC _ _ (oz _ _ _ _ _ _ _) _ _ _
 unfold oz
 repeat (any_goals (first | assumption | wp_step))
 exact h h' tk' hx'.of.keeps
end
theorem wf:entryFor table "dict.update.loop" = some ff.«dict.update.loop»:=entryFor_of_tree (by kernel_rfl)
theorem zD:plainId "dict.update.loop" = true:=by decide +kernel
section
variable {prog:Program}{w:b8}{A:br}{R:lY->Shared->Prop}{d it l:Addr}{items:Array ah}{qs:List (Key×ah×ah)}
noncomputable def JC (d it:Addr) (items:Array ah) (qs:List (Key×ah×ah)) (h:Heap):Prop:=∀(i:Nat) (q:Key×ah×ah),qs[i]? = some q->∃b:Addr,items[i]? = some (.ref b)/\b≠d/\b≠it/\h.IsTuple b #[q.2.1,q.2.2]
theorem JC.keep {h h':Heap}(x:JC d it items qs h) (k:∀b o,b≠d->b≠it->h.get? b=some o->h'.get? b=some o):JC d it items qs h':=λi q hq=>by
 obtain ⟨b,h1,h2,h3,o,ho,r⟩:=x i q hq
 exact ⟨b,h1,h2,h3,o,k b o h2 h3 ho,r⟩
theorem Yq (hh:A.handled=none) (hld:l≠d) (hli:l≠it) (hdi:d≠it) (hsz:qs.length<=sizeLine) (hk:∀q∈qs,(jD prog w).is q.1 q.2.1=true) (nd:(qs.map (·.1)).Nodup) (hn:items.size=qs.length) :
  ∀(n i:Nat) (s:Shared),qs.length-i=n->i<=qs.length->s.heap.IsListIter it l i->s.heap.IsList l items->JC d it items qs s.heap->s.heap.DictOf (jD prog w) d ((qs.take i).map λq=>(q.1,q.2.2)) ->
   (∀h' tk,(∀b o,b≠d->b≠it->s.heap.get? b=some o->h'.get? b=some o)->h'.DictOf (jD prog w) d (qs.map λq=>(q.1,q.2.2))->R (.ok (.ret .none)) { s with heap:=h',toks:=tk }) ->
   cO (aH prog w) A (.builtin "dict.update.loop" ⟨[.ref d,.ref it,cg i,.none],[]⟩) R s:=by
 have hh1:A.in1.handled=none:=by simp [hh]
 intro n
 induction n with
 | zero =>
  intro i s e hi st hl ht hd hR
  obtain rfl:i=qs.length:=∅
  refine eS wf ?_
  rw [d7 zD _]
  show aC _ A.in1 (fQ (.ref it) >>= _) _ _ s
  refine af (mH hh1 st hl (by simp;omega) λh' eb=>?_)
  show aC _ A.in1 (Builtin.Dict.addKeywords d [] >>= _) _ _ _
  rw [aS] at hd
  exact af (wpAny_pure (wpAny_pure (hR h' s.toks (λb o _ h2 h=>eb b o h2 h) (hd.extBut eb hdi))))
 | succ n ih =>
  intro i s e hi st hl ht hd hR
  have hlt:i<qs.length:=∅
  obtain ⟨⟨k,kv,v⟩,hq⟩:∃q,qs[i]? = some q:=⟨_,ae hlt⟩
  obtain ⟨b,hb,bd,bi,hbt⟩:=ht i _ hq
  refine eS wf ?_
  rw [d7 zD _]
  show aC _ A.in1 (fQ (.ref it) >>= _) _ _ s
  refine af (lX st hl hb λh1 st1 sb=>?_)
  have hbt1:h1.IsTuple b #[kv,v]:=by
   obtain ⟨o,ho,r⟩:=hbt
   exact ⟨o,(sb.2 b bi).trans ho,r⟩
  show aC _ A.in1 (dY [aV b] _ >>= _) _ _ _
  obtain ⟨ob,hob,hcb,nb,hdb⟩:=hbt1
  refine af (bR (af (iY ?_)))
  unfold Builtin.Dict.pairItems
  refine af (oS (T:="tuple") ⟨ob,hob,hcb⟩ ?_)
  rw [if_pos ⋯]
  refine af (cH hob hdb (wpAny_pure ?_))
  show aC _ A.in1 (dY [kv,v] (dictSet d kv v)) _ _ _
  have hd1:h1.DictOf (jD prog w) d ((qs.take i).map λq=>(q.1,q.2.2)):=hd.sameBut sb hdi
  refine bR (wpAny_dictSet_pairs (s:={ s with heap:=h1 }) (hk _ (ay hq)) hd1 (λh2 hd2 sd=>?_) (by rw [aa,aF];omega))
  refine wpAny_pure ⟨dR zD _,?_⟩
  have keep:∀c o,c≠d->c≠it->s.heap.get? c=some o->h2.get? c=some o:=λc o n1 n2 h=>(sd.2 c n1).trans ((sb.2 c n2).trans h)
  refine ih (i+1) { s with heap:=h2,toks:=s.toks+1 } ∅ ∅ ?_ ?_ (ht.keep keep) ?_ λh3 tk k3 d3=>?_
  ·obtain ⟨o,ho,r⟩:=st1
   exact ⟨o,(sd.2 it hdi.symm).trans ho,r⟩
  ·obtain ⟨o,ho,r⟩:=hl
   exact ⟨o,keep l o hld hli ho,r⟩
  ·have e:sJ ((qs.take i).map λq=>(q.1,q.2.2)) k v=(qs.take (i+1)).map λq=>(q.1,q.2.2):=by
    rw [sJ,if_neg,aT,hq]
    ·simp
    ·intro z
     obtain ⟨x,hx,ex⟩:=List.any_eq_true.mp z
     obtain ⟨u,hu,rfl⟩:=List.mem_map.mp hx
     have ex:u.1=k:=of_decide_eq_true ex
     obtain ⟨j,hj,ej⟩:=List.mem_iff_getElem.mp hu
     rw [aF] at hj
     rw [oZ] at ej
     obtain ⟨_,eq⟩:=List.getElem?_eq_some_iff.mp hq
     have h1:(qs.map (·.1))[j]'(by rw [aa];omega)=(qs.map (·.1))[i]'(by rw [aa];exact hlt):=by rw [eG,eG,ej,eq,ex]
     exact absurd h1 (List.pairwise_iff_getElem.mp nd j i _ _ ∅)
   rw [<- e]
   exact hd2
  ·exact hR h3 tk (λc o n1 n2 h=>k3 c o n1 n2 (keep c o n1 n2 h)) d3
end
section
variable {prog:Program}{w:b8}{A:br}{E:ah->Shared->Prop}{s:Shared}{l:Addr}{ol:Obj}{nl:Nat}{items:Array ah}{qs:List (Key×ah×ah)}
theorem XN {Q:ah->Shared->Prop}(hh:A.handled=none) (ho:s.heap.get? l=some ol) (hc:ol.cls = .type "list") (hdt:ol.data = .seq items nl) (hdc:ol.dict=none) (hsz:qs.length<=sizeLine) (hk:∀q∈qs,(jD prog w).is q.1 q.2.1=true) (nd:(qs.map (·.1)).Nodup) (hn:items.size=qs.length)
  (ht:∀(i:Nat) (q:Key×ah×ah),qs[i]? = some q->∃b:Addr,items[i]? = some (.ref b)/\s.heap.IsTuple b #[q.2.1,q.2.2])
  (h:∀h' tk,(∀b o,s.heap.get? b=some o->h'.get? b=some o)->h'.DictOf (jD prog w) s.heap.objs.size (qs.map λq=>(q.1,q.2.2))->Q (.ref s.heap.objs.size) { s with heap:=h',toks:=tk }) :
  aC (aH prog w) A (call (.type "dict") [.ref l]) Q E s:=by
 refine callType_codes (Q₁:=λobj s₁=>obj = .ref s.heap.objs.size/\s₁={ s with heap:=s.heap.push { cls:=.type "dict",data:=.dict #[] } }) F.kt_called_dict (F.kt_typeCall_dict_1 _) F.entry_dict_init (kt_code_dict_new _ ⟨rfl,rfl⟩) ?_
 rintro obj s₁ ⟨rfl,rfl⟩
 have hnew:(s.heap.push { cls:=.type "dict",data:=.dict #[] }).DictOf (jD prog w) s.heap.objs.size []:=pW s.heap
 have kp:∀b o,s.heap.get? b=some o->(s.heap.push { cls:=.type "dict",data:=.dict #[] }).get? b=some o:=λb o q=>ai _ q
 refine ⟨hnew.typeIs,F.args_dict_init_2 _ _,?_⟩
 have lt:∀b o,s.heap.get? b=some o->b≠s.heap.objs.size:=λb o q=>aD (av q)
 unfold ff.«dict.__init__»
 refine af ?_
 unfold Builtin.Dict.selfAndRest
 refine af (wpAny_notOrdered_dict hnew.typeIs ?_)
 show aC _ _ (pure (s.heap.objs.size,[aV l])) _ _ _
 refine wpAny_pure ?_
 show aC _ _ (lR "dict.__init__" s.heap.objs.size (.ref l) [] .none) _ _ _
 unfold lR
 refine af (oS (T:="list") ⟨_,kp _ _ ho,hc⟩ ?_)
 rw [if_pos ⋯]
 generalize hz:s.heap.push { cls:=.type "dict",data:=.dict #[] }=h0 at *
 refine af (Y7 (s:={ s with heap:=h0 }) (kp _ _ ho) hc hdt hdc (by simp [hh]) λh1 tk k1=>?_)
 rw [if_pos (show (none:Option ah).isNone=true from rfl)]
 have hl1:h1.IsList l items:=⟨ol,k1 _ _ (kp _ _ ho),hc,nl,hdt⟩
 refine af (fI ?_)
 refine af (d8 (s:={ s with heap:=h1,toks:=tk }) hl1 (wpAny_pure ⟨dR zD _,?_⟩))
 obtain ⟨od,_,_,hod,_⟩:=id hnew
 have hi1:∀b o,h1.get? b=some o->b≠h1.objs.size:=λb o q=>aD (av q)
 have kp2:∀b o,s.heap.get? b=some o->(h1.push { cls:=.type "list_iterator",data:=.fields #[.ref l,.int 0 0] }).get? b=some o:=λb o q=>ai _ (k1 _ _ (kp _ _ q))
 refine Yq (d:=s.heap.objs.size) (it:=h1.objs.size) (l:=l) (items:=items) (qs:=qs) (by simp [hh]) (lt _ _ ho) (hi1 _ _ (k1 _ _ (kp _ _ ho))) (hi1 _ _ (k1 _ _ hod)) hsz hk nd hn qs.length 0 _ ∅ (aQ _) ⟨_,aA _ rfl,rfl,rfl⟩ (hl1.push _) (λi q hq=>?_) ?_ λh' tk' k' d'=>?_
 ·obtain ⟨b,hb,o,hbo,r⟩:=ht i q hq
  exact ⟨b,hb,lt _ _ hbo,hi1 _ _ (k1 _ _ (kp _ _ hbo)),o,kp2 _ _ hbo,r⟩
 ·obtain ⟨o,es,ep,ho',r⟩:=hnew
  exact ⟨o,es,ep,ai _ (k1 _ _ ho'),r⟩
 ·exact ⟨rfl,h h' tk' (λb o q=>k' b o (lt _ _ q) (hi1 _ _ (k1 _ _ (kp _ _ q))) (kp2 _ _ q)) d'⟩
end
theorem wa {α β:Type}(P:Nat->α->β->Prop):∀(l:List α) (n:Nat),(∀(i:Nat) a,l[i]? = some a->∃b,P (n+i) a b)->∃bs:List β,bs.length=l.length/\∀(i:Nat) a b,l[i]? = some a->bs[i]? = some b->P (n+i) a b
 | [],n,_=>⟨[],rfl,λi a b h=>by simp at h⟩
 | x::r,n,h=>by
  obtain ⟨b,hb⟩:=h 0 x rfl
  obtain ⟨bs,hl,hbs⟩:=wa P r (n+1) λi a hi=>by
   have:=h (i+1) a (by simpa using hi)
   rwa [show n+1+i=n+(i+1) by omega]
  refine ⟨b::bs,by simp [hl],λi a b' h1 h2=>?_⟩
  cases i with
  | zero =>
   simp at h1 h2
   subst h1 h2
   exact hb
  | succ i =>
   have:=hbs i a b' (by simpa using h1) (by simpa using h2)
   rwa [show n+(i+1)=n+1+i by omega]
theorem gP {α β:Type}{F:α->β->Prop}:∀{l₁:List α}{l₂:List β},l₁.length=l₂.length->(∀(i:Nat) a b,l₁[i]? = some a->l₂[i]? = some b->F a b)->ck F l₁ l₂
 | [],[],_,_=>.nil
 | [],_::_,h,_=>by simp at h
 | _::_,[],h,_=>by simp at h
 | x::r,y::t,h,k=>.cons (k 0 x y rfl rfl) (gP (by simpa using h) λi a b h1 h2=>k (i+1) a b (by simpa using h1) (by simpa using h2))
theorem XI {X:Cx}(K:aj) (hca:X.calm=true) (hK:X.K=K:=by rfl):qE X (.type "dict") (λxs H Q=>∃(p:Addr) (out:List V) (ms:List (Int×Int)),xs=[.ref p]/\SqL K H p out/\ck (λv (m:Int×Int)=>∃b,v=V.ref b/\H b=some (.tup [.int m.1,.int m.2])) out ms/\(ms.map (·.1)).Nodup/\ms.length<=1000 /\
  ∀(d:Addr) H',H d=none->H' d=some (.dK (ms.map λm=>(.inl m.1,.int m.2)))->jg H H'->Q (.ref d) H'):=by
 subst hK
 intro pins s σ H xs us Q I r h
 obtain ⟨p,out,ms,rfl,hq,hm,nd,h1000,k⟩:=h
 obtain ⟨u,rfl,ru⟩:=xT r
 cases ru
 obtain ⟨its,rv,⟨ol,nl,ho,hc,hdc,hdt⟩,hz⟩:=I.list hq
 have hlen:out.length=ms.length:=aY hm
 have hits:out.length=its.length:=rv.length
 obtain ⟨qs,hql,hqs⟩:=wa (λi (m:Int×Int) (q:Key×ah×ah)=>∃(b:Addr) (t1 t2:Tok),q=(.inl m.1,.int m.1 t1,.int m.2 t2)/\its[i]? = some (.ref b)/\s.heap.IsTuple b #[.int m.1 t1,.int m.2 t2]) ms 0 λi m hi=>by
  rw [mh]
  have hio:i<out.length:=by rw [hlen];exact (List.getElem?_eq_some_iff.mp hi).1
  obtain ⟨m',hm',b,eb,hb⟩:=Paired.get hm (ae hio)
  rw [hi] at hm'
  cases hm'
  obtain ⟨u,hu,ru⟩:=rv.get (ae hio)
  rw [eb] at ru
  cases (show u=aV b from ru)
  obtain ⟨_,its',r',o,h1,h2,n,h3⟩:=(show qg X.prog X.w H s.heap b (.tup [.int m.1,.int m.2]) from I.hok b _ hb)
  cases r' with
  | cons p1 q1 =>
   cases q1 with
   | cons p2 q2 =>
    cases q2
    obtain ⟨t1,rfl⟩:=p1
    obtain ⟨t2,rfl⟩:=p2
    exact ⟨_,b,t1,t2,rfl,hu,o,h1,h2,n,h3⟩
 have get:∀(i:Nat) (q:Key×ah×ah),qs[i]? = some q->∃(m:Int×Int) (b:Addr) (t1 t2:Tok),ms[i]? = some m/\q=(.inl m.1,.int m.1 t1,.int m.2 t2)/\its[i]? = some (.ref b)/\s.heap.IsTuple b #[.int m.1 t1,.int m.2 t2]:=λi q hi=>by
  have him:i<ms.length:=by rw [<- hql];exact (List.getElem?_eq_some_iff.mp hi).1
  obtain ⟨b,t1,t2,e,h1,h2⟩:=hqs i _ q (ae him) hi
  rw [mh] at h1
  exact ⟨_,b,t1,t2,ae him,e,h1,h2⟩
 have keys:qs.map (·.1)=ms.map λm=>(dX m.1:Key):=by
  refine i5 λi=>?_
  rw [aB,aB]
  cases e:qs[i]? with
  | none =>
   rw [List.getElem?_eq_none_iff] at e
   rw [List.getElem?_eq_none_iff.mpr ∅]
   rfl
  | some q =>
   obtain ⟨m,b,t1,t2,h1,h2,_⟩:=get i q e
   rw [h1,h2]
   rfl
 have ndk:(qs.map (·.1)).Nodup:=by
  rw [keys,show (ms.map λm=>(dX m.1:Key))=(ms.map (·.1)).map dX by rw [bz];rfl]
  exact List.Pairwise.map _ (λa b h e=>h (fh e)) nd
 have KVr:KV (ms.map λm=>((.inl m.1,.int m.2):Key×V)) (qs.map λq=>(q.1,q.2.2)):=by
  refine gP (by rw [aa,aa,hql]) λi a b h1 h2=>?_
  rw [aB] at h1 h2
  obtain ⟨q,hq',rfl⟩:=Option.map_eq_some_iff.mp h2
  obtain ⟨m,_,t1,t2,hm',e,_⟩:=get i q hq'
  rw [hm'] at h1
  cases h1
  subst e
  exact ⟨rfl,t2,rfl⟩
 refine XN (qs:=qs) (I.ok.hd hca) ho hc hdt hdc (by rw [hql];exact aI h1000 ⋯) (λq hq'=>?_) ndk (by simp;omega) (λi q hi=>?_) λh' tk keep dd=>?_
 ·obtain ⟨i,hi,e⟩:=List.mem_iff_getElem.mp hq'
  obtain ⟨m,b,t1,t2,h1,h2,_⟩:=get i q (by rw [ae hi,e])
  subst h2
  exact wE (k:=.inl m.1) ⟨t1,rfl⟩
 ·obtain ⟨m,b,t1,t2,h1,h2,h3,h4⟩:=get i q hi
  subst h2
  exact ⟨b,by simpa using h3,h4⟩
 ·have hf:=I.hok.fresh (ar s.heap.objs.size)
  exact ⟨.ref _,upd H s.heap.objs.size (.dK (ms.map λm=>((.inl m.1,.int m.2):Key×V))),I.laid (t':=tk) keep (ar _) (XC (by rw [aa];exact aI h1000 ⋯) (beq_eq_false_iff_ne.mpr (cA (aD I.big))) KVr dd),rfl,k _ _ hf j4 (jg.new hf)⟩
end L2
end
section
namespace L2
open PySem.W
theorem wM:∀(ns:List Int) (its:List ah),its.length=ns.length->(∀i,i<its.length->∃t,its[i]? = some (.int (ns.getD i 0) t))->jB (ns.map V.int) its
 | [],[],_,_=>.nil
 | n::ns,v::its,hl,h=>by
  obtain ⟨t,e⟩:=h 0 (by simp)
  have e:v = .int n t:=by simpa using e
  refine .cons ⟨t,e⟩ (wM ns its (by simpa using hl) λi hi=>?_)
  obtain ⟨t,e⟩:=h (i+1) (by simpa using hi)
  exact ⟨t,by simpa using e⟩
section
variable {X:Cx}
theorem wK (K:aj) (hca:X.calm=true) (hK:X.K=K:=by rfl):qE X (.type "list") (λxs H Q=>∃(p:Addr) (kvs:List (Key×V)) (ns:List Int),xs=[.ref p]/\Rd H p (.dK kvs)/\kvs.map (·.1)=ns.map dX/\ns.length<=1000/\New H (.lst (ns.map V.int)) Q):=by
 subst hK
 intro pins s σ H xs us Q I r h
 obtain ⟨p,kvs,ns,rfl,hp0,hks,hl,k⟩:=h
 obtain ⟨u,rfl,ru⟩:=xT r
 cases ru
 obtain ⟨hz,lo,vs,kv,dd⟩:=ur I.hok hp0
 obtain ⟨ep,hat⟩:=dd.dictAt
 have hvl:vs.length=ns.length:=by
  have e1:kvs.length=vs.length:=aY kv
  have e2:=congrArg mS hks
  rw [aa,aa] at e2
  omega
 refine kdl_call (kdl_dict (knd:=jD X.prog X.w) (kvs:=vs) (ep:=ep) lo) (I.ok.hd hca) hat (cJ (ja ∅)) λh' tk acc c' hk hD hacc=>?_
 have hal:acc.toList.length=ns.length:=by rw [bJ,hacc.1,hvl]
 have item:∀i,i<acc.toList.length->∃t,acc.toList[i]? = some (.int (ns.getD i 0) t):=λi hi=>by
  have hi2:i<acc.size:=by rw [bJ] at hi;exact hi
  obtain ⟨key,x,hx,his⟩:=hacc.2 i acc[i] (dC hi2)
  have hi3:i<kvs.length:=by
   have e1:kvs.length=vs.length:=aY kv
   omega
  obtain ⟨q,hq,e1,_⟩:=Paired.get kv (ae hi3)
  rw [hx] at hq
  cases hq
  have e2:(kvs.map (·.1))[i]? = some key:=by rw [aB,ae hi3];exact congrArg some e1
  have hin:i<ns.length:=∅
  rw [hks,aB,ae hin] at e2
  cases e2
  obtain ⟨t,et⟩:=fO his
  refine ⟨t,?_⟩
  rw [mJ,dC hi2,et,ak,ae hin]
  rfl
 have hn0:s.heap.get? s.heap.objs.size=none:=by
  cases q:s.heap.get? s.heap.objs.size with
  | none=>rfl
  | some u=>exact absurd (av q) (cc _)
 obtain ⟨hH,I'⟩:=I.laidN (o:=.lst (ns.map V.int)) (t':=tk) hk hn0 λ_=>⟨by rw [aa];exact cJ (ja hl),acc.toList,c',wM ns _ hal item,by simpa using hD⟩
 exact ⟨.ref s.heap.objs.size,_,I',rfl,k _ _ hH j4 (jg.new hH)⟩
theorem ZH (K:aj) (hc:X.calm=true) (hK:X.K=K:=by rfl):qE X (.builtin "max") (λxs H Q=>∃(p:Addr) (ns:List Int),xs=[.ref p]/\SqL K H p (ns.map V.int)/\0<ns.length/\∀M,M∈ns->(∀a∈ns,a<=M)->Q (.int M) H):=by
 subst hK
 intro pins s σ H xs us Q I r h
 obtain ⟨p,ns,rfl,hq,hne,q⟩:=h
 obtain ⟨u,rfl,ru⟩:=xT r
 cases ru
 obtain ⟨its,rv,pl,hz⟩:=I.list hq
 have hi:=qG rv
 have hl:=pl.isList
 obtain ⟨xs,e⟩:=hi.allInts.items
 have hns:ns=xs.toList.map (·.1):=by
  rw [<- hi.numsOf,<- nums_intItems,<- e]
 have hsz:0<xs.size:=by
  have h3:=hne;rw [hns,aa,bJ] at h3;exact h3
 rw [e] at hl
 refine max_intList (I.ok.hd hc) hl hsz λv h' tk hv hk=>?_
 obtain ⟨t,rfl⟩:=intItems_at hv
 obtain ⟨h1,h2⟩:=argBest_gt (numAt xs) (xs.size-1)
 refine ⟨.int _,H,I.kept hk,⟨t,rfl⟩,q _ ?_ λa ha=>?_⟩
 ·rw [hns,numAt_eq];exact getD_mem (by rw [aa,bJ];omega)
 ·rw [hns] at ha
  obtain ⟨j,hj,rfl⟩:=mem_getD ha
  rw [aa,bJ] at hj
  rw [<- numAt_eq];exact h2 j ∅
end
end L2
end
section
namespace L2
open PySem.W
section
variable {prog:Program}{w:b8}{A:br}{R:lY->Shared->Prop}{I:Addr}{fp wr:List Addr}{n:Nat}{P:Nat->ah->Prop}{St:Nat->Heap->Prop}{kw:List (Str×ah)}
theorem wt:(toString "max" ++ toString ".loop" : String) = "max.loop":=⋯
theorem JQ (W:Walks prog w A.in1 I fp wr n P St) {bt:Nat->Nat->Bool}(hc:CmpOf prog w A.in1 .Gt P bt) {S:Addr}(ns:S∉fp) {d:ah}:∀(k j:Nat) (s:Shared) (vb:ah) (c:Nat),n-(j+1)=k->j+1<=n->St (j+1) s.heap->P (nE bt j) vb->s.heap.get? S=some { cls:=.type "list",dict:=none,data:=.seq #[vb,vb] c,slots:=#[] } ->
  (∀v h' tk,P (nE bt (n-1)) v->(∀b o,b∉wr->b≠S->s.heap.get? b=some o->h'.get? b=some o)->R (.ok (.ret v)) { s with heap:=h',toks:=tk })->cO (aH prog w) A (.builtin "max.loop" ⟨[.ref I,.none,.ref S],[("default",d)]⟩) R s
 | k,j,s,vb,c,hk,hj,hst,hP,hS,hR=>by
  have nw:S∉wr:=λh=>ns (W.sub _ h)
  refine eS pG (d7 eI _ ▸ ?_)
  show aC _ A.in1 (pz (.ref S) >>= _) _ _ s
  refine af (cH hS rfl (show aC _ A.in1 (t8 (fQ (.ref I)) _ >>= _) _ _ s from af (iY ?_)))
  by_cases e:j+1=n
  ·refine W.done s _ _ (e ▸ hst) λh' tk hk'=>?_
   show aC _ A.in1 (updateSeq S (λ_=>#[]) >>= _) _ _ _
   refine af (mD (hk' S _ nw hS) rfl (af (fj (wpAny_pure (hR vb _ tk (by rw [<- e];exact hP) λb o h1 h2 z=>?_)))))
   exact (bB _ _ (cA h2)).trans (hk' b o h1 z)
  ·have lt:j+1<n:=∅
   refine W.item (j+1) s _ _ lt hst λv h' tk hv hst' hk'=>?_
   have hS':=hk' S _ nw hS
   show aC _ A.in1 (t8 (dY [v,v] (richCompare .Gt v vb >>= _)) _ >>= _) _ _ _
   refine af (iY (bR (af (hc (j+1) (nE bt j) v vb _ _ _ hv hP (af (bR (c0 (af (fj (wpAny_pure ?_))))))))))
   cases hb:bt (j+1) (nE bt j) with
   | true =>
    simp only [if_true]
    refine af (mD hS' rfl (af (fj (wt ▸ wpAny_pure ⟨dR eI _,?_⟩))))
    refine JQ W hc ns (n-(j+1+1)) (j+1) _ v _ rfl lt (W.frame _ _ _ hst' λb hf o z=>?_) (by simp only [nE,hb,if_true];exact hv) (cW _ hS' rfl) λv' h2 tk2 hv' hk2=>?_
    ·exact (bB _ _ (λh:S=b=>ns (by rw [h];exact hf))).trans z
    ·exact hR v' h2 tk2 hv' λb o h1 h3 z=>hk2 b o h1 h3 ((bB _ _ (cA h3)).trans (hk' b o h1 z))
   | false =>
    simp only [cp,if_false]
    refine af (fj (wt ▸ wpAny_pure ⟨dR eI _,?_⟩))
    exact JQ W hc ns (n-(j+1+1)) (j+1) _ vb c rfl lt hst' (by simp only [nE,hb,cp,if_false];exact hP) hS' λv' h2 tk2 hv' hk2=>hR v' h2 tk2 hv' λb o h1 h3 z=>hk2 b o h1 h3 (hk' b o h1 z)
termination_by k=>k
decreasing_by all_goals omega
theorem VR (W:Walks prog w A.in1 I fp wr n P St) {bt:Nat->Nat->Bool}(hc:CmpOf prog w A.in1 .Gt P bt) {S:Addr}(ns:S∉fp) {d:ah}{s:Shared}{c:Nat}(hst:St 0 s.heap) (hS:s.heap.get? S=some { cls:=.type "list",dict:=none,data:=.seq #[] c,slots:=#[] })
  (h0:n=0->∀h' tk,(∀b o,b∉wr->b≠S->s.heap.get? b=some o->h'.get? b=some o)->R (.ok (.ret d)) { s with heap:=h',toks:=tk })
  (hR:0<n->∀v h' tk,P (nE bt (n-1)) v->(∀b o,b∉wr->b≠S->s.heap.get? b=some o->h'.get? b=some o)->R (.ok (.ret v)) { s with heap:=h',toks:=tk }):cO (aH prog w) A (.builtin "max.loop" ⟨[.ref I,.none,.ref S],[("default",d)]⟩) R s:=by
 have nw:S∉wr:=λh=>ns (W.sub _ h)
 refine eS pG (d7 eI _ ▸ ?_)
 show aC _ A.in1 (pz (.ref S) >>= _) _ _ s
 refine af (cH hS rfl (show aC _ A.in1 (t8 (fQ (.ref I)) _ >>= _) _ _ s from af (iY ?_)))
 rcases Nat.eq_zero_or_pos n with e | e
 ·refine W.done s _ _ (e ▸ hst) λh' tk hk'=>?_
  exact af (fI (wpAny_pure (h0 e h' tk λb o h1 _ z=>hk' b o h1 z)))
 ·refine W.item 0 s _ _ e hst λv h' tk hv hst' hk'=>?_
  have hS':=hk' S _ nw hS
  show aC _ A.in1 (updateSeq S (λ_=>#[v,v]) >>= _) _ _ _
  refine af (mD hS' rfl (wt ▸ wpAny_pure ⟨dR eI _,?_⟩))
  refine JQ W hc ns _ 0 _ v _ rfl e (W.frame _ _ _ hst' λb hf o z=>?_) hv (cW _ hS' rfl) λv' h2 tk2 hv' hk2=>?_
  ·exact (bB _ _ (λh:S=b=>ns (by rw [h];exact hf))).trans z
  ·exact hR e v' h2 tk2 hv' λb o h1 h3 z=>hk2 b o h1 h3 ((bB _ _ (cA h3)).trans (hk' b o h1 z))
end
theorem UF (v:ah):Builtin.Builtins.bindParams "max" ["key","default"] 0 ⟨[],[(ao "default",v)]⟩=pure [none,some v]:=by rfl
theorem UH (a v:ah):argsOk "max" ⟨[a],[(ao "default",v)]⟩:=by unfold argsOk;kernel_rfl
section
variable {X:Cx}
noncomputable def Gr (K:aj) (ta:TA) (tx:TE):TE:=λσ H Q=>ta σ H λxs H0=>tx σ H0 λy H1=>∃(p:Addr) (ns:List Int) (d:Int),xs=[.ref p]/\y = .int d/\SqL K H1 p (ns.map V.int)/\(ns=[]->Q (.int d) H1)/\∀M,M∈ns->(∀a∈ns,a<=M)->Q (.int M) H1
theorem VX {e x:Expr}{ta:TA}{tx:TE}{p pos kpos:Pos}(K:aj) (hc:X.calm=true) (hg:Gl X "max") (hm:X.mg "max" = none) (ha:PA X [e] ta) (hx:PE X x tx) (hK:X.K=K:=by rfl)
  (he:cz pos (aN [e] X.env)=(false,eval e X.env)::cz pos (aN [] X.env):=by rfl) (hplain:(cz pos (aN [e] X.env)).any (·.1)=false:=by rfl) :
  PE X (.Call (.Name "max" p) [e] [⟨some (ao "default"),x,kpos⟩] pos) (Gr K ta tx):=by
 subst hK
 intro pins s σ H Q I h
 refine cY (zK I hg hm lS ?_ ⋯ ⋯)
 refine callWith_kw (thn (ha pos pins s σ H _ I h) λus s1 ⟨vs,H1,I1,r,q⟩=>?_) he hplain
 show aC _ _ (evalAll ((do let v <- eval x X.env;fg pos;pure v)::[])) _ _ s1
 refine oq (af (thn (hx pins s1 σ H1 _ I1 q) λv s2 ⟨y,H2,I2,ry,a,ns,d,e1,ey,hq,q0,q1⟩=>af (cF (wpAny_pure (oU ?_)))))
 subst e1 ey
 obtain ⟨u0,rfl,ru⟩:=xT r
 cases ru
 obtain ⟨t,rfl⟩:=ry
 show aC _ _ (call (.builtin "max") [.ref a] [(ao "default",.int d t)]) _ _ s2
 obtain ⟨its,rv,pl,hz⟩:=I2.list hq
 have hI:=qG rv
 have hlen:=hI.length
 have hlt:a<s2.heap.objs.size:=by
  obtain ⟨o,n,e,_⟩:=id pl
  exact av e
 have item:∀(i:Nat) (v:ah),its.toArray[i]? = some v->∃t,v=eY (ns.getD i 0) t:=λi v hP=>by
  have hP':its[i]? = some v:=by simpa using hP
  have hi:i<its.length:=(List.getElem?_eq_some_iff.mp hP').1
  obtain ⟨t',e⟩:=ux hI hi
  rw [e] at hP'
  refine ⟨t',?_⟩
  rw [ak,ae ∅]
  exact (aM hP').symm
 have old:∀(h':Heap),(∀b o,b∉[s2.heap.objs.size]->b≠(s2.heap.push { cls:=dP "list_iterator",data:=fK #[aV a,eY 0 0] }).objs.size->((s2.heap.push { cls:=dP "list_iterator",data:=fK #[aV a,eY 0 0] }).push { cls:=dP "list",data:=t7 #[] }).get? b=some o->h'.get? b=some o)->∀b o,s2.heap.get? b=some o->h'.get? b=some o:=λh' hk b o eo=>by
  have lb:=av eo
  refine hk b o (λz=>absurd (List.mem_singleton.mp z) (aD lb)) ?_ (ai _ (ai _ eo))
  rw [bK]
  exact aD (bE lb)
 have Wk:=oi (prog:=X.prog) (w:=X.w) (show (X.A.in1).handled=none from I2.ok.hd hc) s2.heap.objs.size a (aD hlt) its.toArray
 refine kmb_tree F.kind_max F.plain_max F.entry_max (UH (.ref a) (.int d t)) ?_
 refine af (pQ (UF (.int d t)) (af (wpAny_pure (af (d8 pl.isList (af (c3 ?_)))))))
 rw [wt]
 refine wpAny_pure ⟨dR eI _,VR Wk (bt:=λi j=>decide (ns.getD i 0 > ns.getD j 0)) (CmpOf.ints_gt (λi=>ns.getD i 0) ?_) ?_ (Wk.frame _ _ _ ⟨⟨_,aA _ rfl,rfl,rfl⟩,pl.isList.at λo e=>ai _ e⟩ λb _ o e=>ai _ e) (aA _ rfl) (λe0 h' tk hk=>?_) λe0 v h' tk hv hk=>?_⟩
 all_goals try clear Wk
 ·exact item
 ·intro z
  rw [show (s2.heap.push { cls:=dP "list_iterator",data:=fK #[aV a,eY 0 0] }).objs.size=s2.heap.objs.size+1 from bK _ _] at z
  rcases List.mem_cons.mp z with z | z
  ·exact absurd z (c5 (cX _))
  ·exact absurd (List.mem_singleton.mp z) (c5 (bE hlt))
 ·exact ⟨.int d,_,I2.kept (t':=tk) (λb o eo=>old h' hk b o eo),⟨t,rfl⟩,q0 (List.eq_nil_of_length_eq_zero (by rw [<- hlen];simpa using e0))⟩
 ·obtain ⟨t',rfl⟩:=item _ _ hv
  obtain ⟨b1,b2⟩:=argBest_gt (λi=>ns.getD i 0) (its.toArray.size-1)
  have hsz:its.toArray.size=ns.length:=by rw [<- hlen];simp
  refine ⟨.int _,_,I2.kept (t':=tk) (λb o eo=>old h' hk b o eo),⟨t',rfl⟩,q1 _ ?_ λx hx=>?_⟩
  ·rw [ak,ae ∅]
   exact bP _
  ·obtain ⟨k,hk',rfl⟩:=List.mem_iff_getElem.mp hx
   have:=b2 k ∅
   rw [ak,ae hk'] at this
   exact this
end
end L2
end
section
namespace L2
open PySem.W
theorem wL:∀(ns:List Int),(∀n∈ns,-(2 ^ 20)<=n/\n<=2 ^ 20) -> -(2 ^ 20)*(ns.length:Int)<=ns.sum/\ns.sum<=2 ^ 20*(ns.length:Int)
 | [],_=>by simp
 | n::ns,h=>by
  have a:=h n (aG ..)
  have b:=wL ns λz hz=>h z (az _ hz)
  rw [cG,b7]
  omega
section
variable {X:Cx}
theorem xk (K:aj) (hc:X.calm=true) (hK:X.K=K:=by rfl):qE X (.builtin "sum") (λxs H Q=>∃(p:Addr) (ns:List Int),xs=[.ref p]/\SqL K H p (ns.map V.int)/\ns.length<=1000/\(∀n∈ns,-(2 ^ 20)<=n/\n<=2 ^ 20)/\Q (.int ns.sum) H):=by
 subst hK
 intro pins s σ H xs us Q I r h
 obtain ⟨p,ns,rfl,hq,hl,hb,q⟩:=h
 obtain ⟨u,rfl,ru⟩:=xT r
 cases ru
 obtain ⟨its,rv,pl,hz⟩:=I.list hq
 have hI:=qG rv
 have hlen:=hI.length
 have hne:p≠s.heap.objs.size:=by
  obtain ⟨o,n,e,_⟩:=id pl
  exact aD (av e)
 refine su (d8 pl.isList ?_)
 refine ⟨s.heap.objs.size,_,_,_,_,_,λi=>ns.getD i 0,rfl,oi (show (X.A.in1).handled=none from I.ok.hd hc) s.heap.objs.size p hne its.toArray,⟨⟨_,aA _ rfl,rfl,rfl⟩,pl.isList.at λo e=>ai _ e⟩,?_,?_,?_,?_⟩
 ·intro b hb'
  have hps:p<s.heap.objs.size:=by
   obtain ⟨o,n,e,_⟩:=id pl
   exact av e
  show b<(s.heap.push _).objs.size
  rw [bK]
  rcases List.mem_cons.mp hb' with rfl | hb'
  ·exact cX _
  ·have e:b=p:=by simpa using hb'
   subst e
   exact bE hps
 ·intro i v hP
  have hP':its[i]? = some v:=by simpa using hP
  have hi:i<its.length:=(List.getElem?_eq_some_iff.mp hP').1
  obtain ⟨t,e⟩:=ux hI hi
  rw [e] at hP'
  refine ⟨t,?_⟩
  show v=eY (ns.getD i 0) t
  rw [ak,ae ∅]
  exact (aM hP').symm
 ·intro j hj
  have hj':j<ns.length:=by
   have:its.toArray.size=its.length:=by simp
   omega
  constructor
  ·show InLong (ns.getD j 0)
   rw [ak,ae hj']
   have:=hb _ (bP hj')
   show -(2 ^ 63)<=ns[j]/\ns[j]<2 ^ 63
   omega
  ·rw [n6]
   have:=wL (ns.take (j+1)) λn hn=>hb n (dN hn)
   have hl2:(ns.take (j+1)).length<=1000:=by rw [aF];omega
   show -(2 ^ 63)<=_/\_<2 ^ 63
   omega
 ·intro h' tk t' hk
  rw [n6,bp (by simp;omega)]
  refine ⟨.int ns.sum,H,I.kept (t':=tk) λb o eo=>hk b o (by
   intro z
   have:=List.mem_singleton.mp z
   subst this
   exact absurd (av eo) (cc _)) (ai _ eo),⟨t',rfl⟩,q⟩
end
end L2
end
section
namespace L2
open PySem.W
section
variable {X:Cx}
theorem Vk (K:aj) (hK:X.K=K:=by rfl):GV X (U8 K):=by
 subst hK
 intro pins s σ H x y v u Q I rx ry h
 obtain ⟨p,xs,i,z,rfl,rfl,hq,he,q⟩:=h
 cases rx
 obtain ⟨t,rfl⟩:=ry
 obtain ⟨its,r,pl,hz⟩:=I.list hq
 obtain ⟨j,h1,h2,h3,h4,h5⟩:=JP he
 obtain ⟨w,ew,rw'⟩:=r.get h2
 have hl:=r.length
 have hn:=wU
 have fin:EP X pins σ Q w s:=⟨z,H,I,rw',q⟩
 by_cases h0:0<=i
 ·have hj:i.toNat=j:=by
   rw [mT h0 h5] at h1
   exact aM h1
  exact wpAny_getItem_list pl.isList h0 ∅ (by rw [hj];simpa using ew) fin
 ·have hj:(i+(its.toArray.size:Int)).toNat=j:=by
   rw [m8 ∅ h4] at h1
   rw [ax,<- hl]
   exact aM h1
  exact ma pl.isList ∅ (by rw [ax] <;> omega) ∅ (by rw [hj];simpa using ew) fin
end
end L2
end
section
namespace L2
open PySem.W
noncomputable abbrev Cx.noX (X:Cx):Cx:={ X with xe:=λ_ _=>False }
section
variable {X:Cx}{pins:List (Addr×Obj)}{σ:St}{H:Hp}{s:Shared}
theorem Inv.toNoX (I:Inv X pins σ H s):Inv X.noX pins σ H s:=⟨okP I.ok _ rfl,I.os,I.bare,I.base,I.loc,I.cell,I.free,I.freeC,I.pin,I.hok,I.len⟩
theorem Inv.ofNoX (I:Inv X.noX pins σ H s):Inv X pins σ H s:=⟨okP I.ok _ rfl,I.os,I.bare,I.base,I.loc,I.cell,I.free,I.freeC,I.pin,I.hok,I.len⟩
theorem Ws {st:Stmt}{t:TS}(h:PS X.noX st t):PS X st t:=λpins s σ H D I q=>thn (wpAny_noRaise (h pins s σ H D I.toNoX q)) λ_ _ z=>spOf (λI=>I.ofNoX) z
end
end L2
end
section
namespace L2
open PySem.W
section
variable {X:Cx}
noncomputable def gLst (K:aj) (n:Nat) (t:TGs):TG:=λv σ H Q=>∃a xs,v = .ref a/\SqL K H a xs/\xs.length=n/\t xs σ H Q
theorem U7 {es:List Expr}{k:Nat}{t:TGs}{n:Nat}{pos:Pos}(K:aj) (hc:X.calm=true) (h:PGs X es t)
  (hn:(eN es X.env).length=n:=by rfl) (hst:(eN es X.env).findIdx? (·.1)=none:=by rfl) (hK:X.K=K:=by rfl):PG X (.Tuple es k pos) (gLst K n t):=by
 subst hK
 intro pins s σ H v u Q I r hw
 obtain ⟨a,xs,e1,hq,hl,hw⟩:=hw
 subst e1
 cases r
 obtain ⟨its,rv,pl,hz⟩:=I.list hq
 rw [assign_Tuple]
 refine af (cF ?_)
 unfold unpack
 have e:n=its.toArray.size:=by simp [<- hl,rv.length]
 rw [hn,hst,e]
 refine af (bR (kun_itemsOf (I.ok.hd hc) pl.isList λh' hx=>?_))
 have I1:Inv X pins σ H { s with heap:=h' }:=I.kept (t':=s.toks) λb o e=>hx b o (aD (av e)) e
 exact h pins _ σ H xs _ Q I1 (by simpa using rv) hw
end
end L2
end
section
namespace L2
open PySem.W
theorem kG:∀{names:List (Str×ez)},(∀y∈names,y.2≠.cell)->∀(n:Nat) (acc:List (Str×Addr)) (h:Heap),ik n names acc=acc/\nH h names=h
 | [],_,n,acc,h=>⟨rfl,rfl⟩
 | (x,k)::r,hn,n,acc,h=>by
  have hk:(k == bC)=false:=beq_eq_false_iff_ne.mpr (hn (x,k) (aG ..))
  have ih:=kG (names:=r) (λy hy=>hn y (az _ hy)) n acc h
  unfold ik nH
  rw [hk]
  exact ih
theorem gm {x0:Str}:∀{names:List (Str×ez)},names.filter (λy=>y.2 == bC)=[(x0,bC)]->∀(n:Nat) (acc:List (Str×Addr)) (h:Heap),ik n names acc=(x0,n)::acc/\nH h names=h.push { cls:=.type "cell",data:=.cell none }
 | [],hf,n,acc,h=>by cases hf
 | (x,k)::r,hf,n,acc,h=>by
  unfold ik nH
  cases hk:(k == bC) with
  | true =>
   rw [lT,if_pos (show ((x,k).2 == bC)=true from hk)] at hf
   have h1:=(sv hf).1
   have h2:=(sv hf).2
   have hx:x=x0:=congrArg sV h1
   subst hx
   have hn:∀y∈r,y.2≠.cell:=λy hy z=>by
    have:=(mC (p:=λy:Str×ez=>y.2 == bC)).mpr ⟨hy,beq_iff_eq.mpr z⟩
    rw [h2] at this
    cases this
   have:=kG hn (n+1) ((x,n)::acc) (h.push { cls:=.type "cell",data:=.cell none })
   exact this
  | false =>
   rw [lT,if_neg (show ¬((x,k).2 == bC)=true from λz=>by rw [show ((x,k).2 == bC)=false from hk] at z;exact au z)] at hf
   exact gm hf n acc h
structure CompSc1 (osc:Scope) (ON:List Str) (scope:Scope) (own:Nat) (N:List Str) (caps:List Nat) (x0:Str):Prop where
 kind:scope.kind = .function
 one:scope.names.filter (λy=>y.2 == bC)=[(x0,bC)]
 look:scope.names.lookup x0=some .cell
 loc:∀y∈scope.names,y.2 = .local->scope.names.lookup y.1=some .local
 fre:∀y∈scope.names,y.2 = .free->scope.names.lookup y.1=some .free/\(osc.names.lookup y.1=some .cell\/osc.names.lookup y.1=some .free)
 len:N.length=own+caps.length
 cap:∀p∈(N.drop own).zip caps,ON[p.2]? = some p.1/\(p.1,aP)∈scope.names
noncomputable def Cx.block1 (x0:Str) (X:Cx) (scope:Scope) (cl:List (Str×Addr)) (C:Addr) (N:List Str) (s:Shared) (H:Hp) (ex:List Addr):Cx :=
 { X with N:=N,s₀:=s,H₀:=H,env:=mV scope ((x0,C+1)::cl) C X.env,outer:=X.stack,ex:=ex,fn:=λx=>decide (scope.names.lookup x=some .local\/x=x0),pn:=[],xe:=λ_ _=>False }
section
variable {X:Cx}{pos:Pos}
theorem Y5 {x0:Str}{osc:Scope}{ON N:List Str}{scope:Scope}{own:Nat}{caps:List Nat}{cl:List (Str×Addr)}{C:Addr}{pins:List (Addr×Obj)}{σ:St}{H:Hp}{s:Shared}{fp:List Addr}
  (S:CompSc1 osc ON scope own N caps x0) (hsc:X.env.scope=osc) (hcl:∀x,cl.lookup x=if (x,aP)∈scope.names then X.env.cells.lookup x else none)
  (I:Inv X pins σ H s) (hC:s.heap.objs.size<=C) (hf:∀b∈fp,yT X pins H b) (hfs:∀b∈fp,b<s.heap.objs.size):(Cx.block1 x0 X scope cl C N s H fp).Ok:=by
 have fromX:∀x c,cl.lookup x=some c->X.env.cells.lookup x=some c/\(x,aP)∈scope.names:=λx c e=>by
  rw [hcl x] at e
  by_cases hm:(x,aP)∈scope.names
  ·rw [if_pos hm] at e;exact ⟨e,hm⟩
  ·rw [if_neg hm] at e;cases e
 have from1:∀x c,((x0,C+1)::cl).lookup x=some c->(x=x0/\c=C+1)\/(x≠x0/\X.env.cells.lookup x=some c/\(x,aP)∈scope.names):=λx c e=>by
  rw [bO] at e
  cases hx:x == x0 with
  | true =>
   rw [hx] at e
   exact .inl ⟨sy hx,(aM e).symm⟩
  | false =>
   rw [hx] at e
   exact .inr ⟨(λz=>by rw [z,beq_self_eq_true] at hx;cases hx),fromX x c e⟩
 have old:∀x c,X.env.cells.lookup x=some c->c<s.heap.objs.size:=λx c e=>by
  obtain ⟨v,z⟩:=I.cell x c e
  exact z.lt
 refine ⟨I.ok.mod,S.kind,I.ok.glob,I.ok.blt,hC,λx y c h1 h2=>?_,λx hx=>?_,λx c h1 h2=>?_,I.ok.hd,I.ok.frames,.inl rfl,λb hb=>?_,I.bs,aI I.ok.bsz I.sz,λb o e hb=>?_,λb hb hb2=>?_,I.stack,I.stkFree⟩
 ·rcases from1 x c h1 with ⟨e1,e2⟩ | ⟨_,e2,_⟩ <;> rcases from1 y c h2 with ⟨f1,f2⟩ | ⟨_,f2,_⟩
  ·rw [e1,f1]
  ·have:=old y c f2
   exact absurd (aJ this hC) (by rw [e2];exact Nat.not_lt.mpr (dM _))
  ·have:=old x c e2
   exact absurd (aJ this hC) (by rw [f2];exact Nat.not_lt.mpr (dM _))
  ·exact I.ok.inj x y c e2 f2
 ·-- has
  have key:∀k,(k=bC\/k=aP)->(pZ scope X.env).names.lookup x=some k->∃c,((x0,C+1)::cl).lookup x=some c:=λk hk e=>by
   obtain ⟨k',e',d⟩:=xp (env:=X.env) e
   have hmem:=cT e'
   by_cases hx:x=x0
   ·exact ⟨C+1,by rw [hx,bO,beq_self_eq_true]⟩
   ·have hfree:k' = .free:=by
     rcases d with d | d
     ·subst d
      rcases hk with z | z
      ·have:=(mC (p:=λy:Str×ez=>y.2 == bC)).mpr ⟨hmem,beq_iff_eq.mpr z⟩
       rw [S.one] at this
       exact absurd (congrArg sV (List.mem_singleton.mp this)) hx
      ·exact z
     ·exact d.1
    subst hfree
    obtain ⟨_,hk2⟩:=S.fre _ hmem rfl
    obtain ⟨c,hc⟩:=I.ok.has x (by unfold iU;rw [hsc];exact hk2)
    exact ⟨c,by rw [bO,beq_eq_false_iff_ne.mpr hx];show cl.lookup x=some c;rw [hcl x,if_pos hmem];exact hc⟩
  rcases hx with z | z
  ·exact key _ (.inl rfl) z
  ·exact key _ (.inr rfl) z
 ·-- cab
  rcases from1 x c h2 with ⟨_,e2⟩ | ⟨n,_,hm⟩
  ·rw [e2]
   exact ly hC
  ·rcases of_decide_eq_true h1 with h1' | h1'
   ·have:=(S.fre _ hm rfl).1
    rw [h1'] at this
    cases this
   ·exact absurd h1' n
 ·refine ⟨aD (aJ (hfs b hb) hC),λx c e=>?_⟩
  rcases from1 x c e with ⟨_,e2⟩ | ⟨_,e2,_⟩
  ·rw [e2]
   exact c5 (bE (aJ (hfs b hb) hC))
  ·exact (hf b hb).2.2.2.2.1 x c e2
 ·rcases (hf b hb).2.2.2.1 with z | z
  ·exact I.ok.noex b o e z
  ·exact absurd (aJ (av e) (aI I.ok.bsz z)) (cc _)
 ·rcases List.mem_cons.mp (I.stkSub b hb2) with z | z
  ·exact (hf b hb).2.1 z
  ·exact (hf b hb).2.2.1 z
theorem Jn {x0:Str}{osc:Scope}{ON N:List Str}{scope:Scope}{own:Nat}{caps:List Nat}{cl:List (Str×Addr)}{C D:Addr}{pins:List (Addr×Obj)}{σ:St}{H:Hp}{s:Shared}{h1:Heap}{fp:List Addr}
  (S:CompSc1 osc ON scope own N caps x0) (hsc:X.env.scope=osc) (hN:X.N=ON) (hcl:∀x,cl.lookup x=if (x,aP)∈scope.names then X.env.cells.lookup x else none)
  (I:Inv X pins σ H s) (hf:∀b∈fp,yT X pins H b) (hfs:∀b∈fp,b<s.heap.objs.size) (hD:D=s.heap.objs.size) (hC:C=s.heap.objs.size+1)
  (k:∀b o,s.heap.get? b=some o->h1.get? b=some o) (eD:h1.get? D=some { cls:=.type "list",data:=.seq #[] }) (hn:h1.Ns C λ_=>none) (hce:h1.IsCell (C+1) none) (t':Nat) :
  Inv (Cx.block1 x0 X scope cl C N s H fp) [] (zc own caps σ) (upd H D (.lst [])) { s with heap:=h1,toks:=t' }:=by
 subst hD
 subst hC
 have hCs:s.heap.objs.size<=s.heap.objs.size+1:=dM _
 have ok:=Y5 (C:=s.heap.objs.size+1) S hsc hcl I hCs hf hfs
 have fromX:∀x c,cl.lookup x=some c->X.env.cells.lookup x=some c/\(x,aP)∈scope.names:=λx c e=>by
  rw [hcl x] at e
  by_cases hm:(x,aP)∈scope.names
  ·rw [if_pos hm] at e;exact ⟨e,hm⟩
  ·rw [if_neg hm] at e;cases e
 have from1:∀x c,((x0,s.heap.objs.size+1+1)::cl).lookup x=some c->(x=x0/\c=s.heap.objs.size+1+1)\/(x≠x0/\X.env.cells.lookup x=some c/\(x,aP)∈scope.names):=λx c e=>by
  rw [bO] at e
  cases hx:x == x0 with
  | true =>
   rw [hx] at e
   exact .inl ⟨sy hx,(aM e).symm⟩
  | false =>
   rw [hx] at e
   exact .inr ⟨(λz=>by rw [z,beq_self_eq_true] at hx;cases hx),fromX x c e⟩
 have fr:∀a,s.heap.objs.size<=a->H a=none:=λa ha=>I.hok.fresh ha
 have newD:qg X.prog X.w (upd H s.heap.objs.size (.lst [])) h1 s.heap.objs.size (.lst []):=⟨aQ _,[],0,.nil,eD⟩
 have cellK:∀x c,X.env.cells.lookup x=some c->∀v,s.heap.IsCell c v->h1.IsCell c v:=λx c _ v ⟨o,ho,hd⟩=>⟨o,k c o ho,hd⟩
 refine ⟨ok,rfl,I.bare,Un.laid k (ar _) (fr _ (ar _)),⟨_,hn,λi x v e1 e2 e3=>?_⟩,λx c e=>?_,?_,λx c e=>?_,λp hp=>absurd (show p∈([]:List (Addr×Obj)) from hp) (by simp),I.hok.laid k (ar _) newD,?_⟩
 ·-- the captured names
  have e1':N[i]? = some x:=e1
  have hi:own<=i:=by
   by_cases hi:own<=i
   ·exact hi
   ·unfold zc at e2
    rw [cx (by simp;omega),eA] at e2
    split at e2 <;> cases e2
  obtain ⟨j',rfl⟩:∃j',i=own+j':=⟨i-own,∅⟩
  have e2':(caps.map λj=>(σ[j]?).getD none)[j']? = some (some v):=by
   unfold zc at e2
   rw [cn (by simp)] at e2
   simpa using e2
  rw [aB] at e2'
  cases hj:caps[j']? with
  | none=>rw [hj] at e2';cases e2'
  | some j =>
   rw [hj] at e2'
   have e3':(σ[j]?).getD none=some v:=aM e2'
   have e4:σ[j]? = some (some v):=by
    cases q:σ[j]? with
    | none=>rw [q] at e3';cases e3'
    | some z=>rw [q] at e3';exact congrArg some e3'
   have hz:(x,j)∈(N.drop own).zip caps:=by
    refine ay (i:=j') ?_
    rw [lg]
    exact ⟨by rw [oh];exact e1',hj⟩
   obtain ⟨c1,c2⟩:=S.cap _ hz
   obtain ⟨_,hk⟩:=S.fre _ c2 rfl
   have hkX:X.env.kindOf x=some .cell\/X.env.kindOf x=some .free:=by unfold iU;rw [hsc];exact hk
   obtain ⟨m,hm,hl⟩:=I.loc
   obtain ⟨u,ru,l⟩:=hl j x v (by rw [hN];exact c1) e4 (by
    rcases hkX with z | z
    ·exact .inr (.inl z)
    ·exact .inr (.inr z))
   refine ⟨u,ru,?_⟩
   rcases l with ⟨l1,_⟩ | ⟨_,c,lc,lv⟩
   ·rcases hkX with z | z
    ·rw [z] at l1;cases l1
    ·rw [z] at l1;cases l1
   ·have nx:x≠x0:=λz=>by
     have h1:=(S.fre _ c2 rfl).1
     rw [show (x,aP).1=x0 from z,S.look] at h1
     cases h1
    refine .inr ⟨?_,c,by show ((x0,s.heap.objs.size+1+1)::cl).lookup x=some c;rw [bO,beq_eq_false_iff_ne.mpr nx];show cl.lookup x=some c;rw [hcl x,if_pos c2];exact lc,cellK x c lc _ lv⟩
    rcases e3 with z | z
    ·obtain ⟨k',e',d⟩:=xp (env:=X.env) z
     have:=(S.fre _ c2 rfl).1
     rw [e'] at this
     cases this
     rcases d with d | d
     ·cases d
     ·cases d.2
    ·exact z
 ·rcases from1 x c e with ⟨_,e2⟩ | ⟨_,e2,_⟩
  ·rw [e2]
   exact ⟨none,hce⟩
  ·obtain ⟨v,z⟩:=I.cell x c e2
   exact ⟨v,cellK x c e2 v z⟩
 ·show upd H s.heap.objs.size (.lst []) (s.heap.objs.size+1)=none
  rw [j5 (c5 (cX _))]
  exact fr _ hCs
 ·rcases from1 x c e with ⟨_,e2⟩ | ⟨_,e',_⟩
  ·rw [e2,j5 (c5 (bE (cX _)))]
   exact fr _ (ly hCs)
  ·obtain ⟨v,z⟩:=I.cell x c e'
   rw [j5 (aD z.lt)]
   exact I.freeC x c e'
 ·unfold zc
  show _=N.length
  rw [aw,bg,aa,S.len]
theorem UG {M:sQ}{A:br}{E:ah->Shared->Prop}{s:Shared}{x0:Str}{scope:Scope}{globals:Addr}{cl:List (Str×Addr)}{qual:Str}{env:Env}{Q:Env->Shared->Prop}(one:scope.names.filter (λy=>y.2 == bC)=[(x0,bC)])
  (hQ:Q { scope:=scope,locals:=s.heap.objs.size,globals:=globals,cells:=(x0,s.heap.objs.size+1)::cl,qual:=qual,func:=none,code:=env.code,frame:=env.frame,builtins:=env.builtins } { s with heap:=(s.heap.push { cls:=.type "dict",data:=.dict #[] }).push { cls:=.type "cell",data:=.cell none } }) :
  aC M A (fW scope globals cl [] qual none .none (some env)) Q E s:=by
 simp only [fW,ow,if_true]
 refine af (wpAny_alloc ?_)
 refine af (wpAny_layCells _ (λname kind cells=>by cases hkc:kind == bC <;> simp [hkc]) _ _ _ _ ?_)
 obtain ⟨e1,e2⟩:=gm one (s.heap.push { cls:=.type "dict",data:=.dict #[] }).objs.size cl (s.heap.push { cls:=.type "dict",data:=.dict #[] })
 rw [bK] at e1
 show aC M A _ _ E { s with heap:=nH (s.heap.push { cls:=.type "dict",data:=.dict #[] }) scope.names }
 rw [e2,show ({ s with heap:=s.heap.push { cls:=.type "dict",data:=.dict #[] } }:Shared).heap.objs.size=s.heap.objs.size+1 from bK ..,e1]
 exact af (wpAny_pure (wpAny_pure hQ))
theorem ZV {x0:Str}{osc:Scope}{ON N:List Str}{scope:Scope}{own:Nat}{caps:List Nat}{cl:List (Str×Addr)}{tg elt iter:Expr}{ifs:List Expr}{g:TG}{ti:TT}{te:TE}{pins:List (Addr×Obj)}{σ:St}{H:Hp}{s:Shared}{fp:List Addr}{it:Addr}
  {tn:Nat->Heap->Prop} {J:It} {Q:VK} {RR:ah->Addr->lY->Shared->Prop} {E:ah->Shared->Prop}
  (hc:X.calm=true) (S:CompSc1 osc ON scope own N caps x0) (hsc:X.env.scope=osc) (hN:X.N=ON) (hcl:∀x,cl.lookup x=if (x,aP)∈scope.names then X.env.cells.lookup x else none)
  (hg:∀cl C s H ex,PG (Cx.block1 x0 X scope cl C N s H ex) tg g) (hif:∀cl C s H ex,wN (Cx.block1 x0 X scope cl C N s H ex) ifs ti) (he:∀cl C s H ex,PE (Cx.block1 x0 X scope cl C N s H ex) elt te)
  (I:Inv X pins σ H s) (T:Turn X.prog X.w X.K tg J fp it tn) (st:tn 0 s.heap) (hf:∀b∈fp,yT X pins H b)
  (hw:∀acc,H acc=none->∃W:Nat->Nat->St->Hp->Prop,(∃m,W 0 m (zc own caps σ) (upd H acc (.lst [])))/\∀i m σ' H',W i m σ' H' ->
   (J.stop i H'/\Q (.ref acc) H')\/(J.go i H'/\∃NX:St->Hp->Prop,(∀σ2 H2,NX σ2 H2->∃m',m'<m/\W (i+1) m' σ2 H2) /\
    ∀x H2,J.yld i H' x H2->g x σ' H2 λσ3 H3=>ti σ3 H3 λok H4=>if ok=true then te σ3 H4 λv H5=>∃ys,H5 acc=some (.lst ys)/\ys.length<sizeLine/\NX σ3 (upd H5 acc (.lst (ys++[v]))) else NX σ3 H4))
  (fin:∀(D C:Addr) (H':Hp) (s':Shared),Inv X pins σ H' s'->BlockAt X pins H' C->(∃m,s'.heap.Ns C m)->Q (.ref D) H'->RR (.ref D) C (.ok .next) s') :
  aC (aH X.prog X.w) X.A (nA []) (λacc s₃=>aC (aH X.prog X.w) X.A (fW scope X.env.globals cl [] X.env.qual none .none (some X.env)) (λcenv s₄ =>
   cO (aH X.prog X.w) X.A (.compStart (.ListComp elt [⟨tg,iter,ifs,0⟩] scope pos) 0 (.ref it) acc { cenv with scope:=pZ scope X.env }) (RR acc cenv.locals) s₄) E s₃) E s:=by
 have hfs:∀b∈fp,b<s.heap.objs.size:=λb hb=>by
  obtain ⟨o,e,_⟩:=T.obj _ _ st b hb
  exact av e
 refine c3 (UG S.one ?_)
 dsimp only
 generalize hH2:s.heap.push { cls:=.type "list",dict:=none,data:=.seq ([]:List ah).toArray }=H2
 have hCsz:H2.objs.size=s.heap.objs.size+1:=by rw [<- hH2,bK]
 obtain ⟨h₁,eh⟩:∃h₁,h₁=(H2.push { cls:=.type "dict",data:=.dict #[] }).push { cls:=.type "cell",data:=.cell none }:=⟨_,rfl⟩
 rw [<- eh]
 have kp:∀b o,H2.get? b=some o->h₁.get? b=some o:=λb o e=>by rw [eh];exact ai _ (ai _ e)
 have old:∀b o,s.heap.get? b=some o->h₁.get? b=some o:=λb o e=>kp b o (hH2 ▸ ai _ e)
 have eD:h₁.get? s.heap.objs.size=some { cls:=.type "list",data:=.seq #[] }:=kp _ _ (hH2 ▸ aA _ rfl)
 have hns₁:h₁.Ns H2.objs.size λ_=>none:=by rw [eh];exact (Heap.Ns.new H2 (.type "dict")).keeps λb o e=>ai _ e
 have hce:h₁.IsCell (H2.objs.size+1) none:=by
  rw [eh,<- bK H2 { cls:=.type "dict",data:=.dict #[] }]
  exact ⟨_,aA _ rfl,rfl⟩
 have hDn:H s.heap.objs.size=none:=I.hok.fresh (ar _)
 obtain ⟨W,⟨m0,w0⟩,turn⟩:=hw s.heap.objs.size hDn
 have hns:h₁.Ns H2.objs.size λ_=>none:=hns₁
 have I1:Inv (Cx.block1 x0 X scope cl H2.objs.size N s H fp) [] (zc own caps σ) (upd H s.heap.objs.size (.lst [])) { s with heap:=h₁,toks:=s.toks } :=
  Jn S hsc hN hcl I hf hfs rfl hCsz old eD hns hce _
 have st1:tn 0 h₁:=T.keep 0 _ _ st λb _ o e=>old b o e
 have fpB:∀{H':Hp},(∀b∈fp,H' b=none)->∀b∈fp,yT (Cx.block1 x0 X scope cl H2.objs.size N s H fp) [] H' b:=λ{H'} hn b hb=>by
  have ok:=I1.ok
  exact ⟨hn b hb,(ok.exf b hb).1,ok.exfs b hb,.inl hb,(ok.exf b hb).2,λp hp=>absurd (show p∈([]:List (Addr×Obj)) from hp) (by simp)⟩
 have back:∀{σ':St} {H':Hp} {s':Shared},Inv (Cx.block1 x0 X scope cl H2.objs.size N s H fp) [] σ' H' s'->Q (.ref s.heap.objs.size) H'->RR (.ref s.heap.objs.size) H2.objs.size (.ok .next) s':=λ{σ' H' s'} J1 q=>by
  have J2:Inv X pins σ H' s':=I.call' (ch:=fp) J1.os J1.base J1.hok J1.bare λb hb=>⟨(hf b hb).2.2.2.1,(hf b hb).2.1,(hf b hb).2.2.2.2.1,(hf b hb).2.2.2.2.2⟩
  obtain ⟨m,hm,_⟩:=J1.loc
  refine fin _ _ H' s' J2 ⟨J1.free,c5 (aJ I.lt ∅),aI I.sz ∅,λx c e z=>?_,λp hp z=>?_⟩ ⟨m,hm⟩ q
  ·obtain ⟨v,y⟩:=I.cell x c e
   have h1:H2.objs.size<s.heap.objs.size:=z ▸ y.lt
   exact absurd h1 ∅
  ·have h1:H2.objs.size<s.heap.objs.size:=z ▸ av (I.pin p hp).1
   exact absurd h1 ∅
 have loop:∀s₃:Shared,s₃={ s with heap:=h₁,toks:=s.toks } ->
   cO (aH X.prog X.w) X.A (.compLoop (.ListComp elt [⟨tg,iter,ifs,0⟩] scope pos) 0 (.ref it) (.ref s.heap.objs.size) (mV scope ((x0,H2.objs.size+1)::cl) H2.objs.size X.env)) (RR (.ref s.heap.objs.size) H2.objs.size) s₃:=by
  rintro s₃ rfl
  refine wb (λn s'=>∃i σ' H',Inv (Cx.block1 x0 X scope cl H2.objs.size N s H fp) [] σ' H' s'/\tn i s'.heap/\(∀b∈fp,H' b=none)/\W i n σ' H') ?_ m0
   ⟨0,_,_,I1,st1,λb hb=>by rw [j5 (aD (hfs b hb))];exact (hf b hb).1,w0⟩
  rintro n s3 ⟨i,σ3,H3,I3,st3,fr3,w3⟩
  rcases turn i n σ3 H3 w3 with ⟨stop,qn⟩ | ⟨go,NX,hNX,step⟩
  ·refine thn (T.done (Cx.block1 x0 X scope cl H2.objs.size N s H fp) rfl rfl rfl hc i [] s3 σ3 H3 _ I3 (fpB fr3) st3 stop) λr s4 ⟨hr,I4⟩=>?_
   subst hr
   exact back I4 qn
  ·refine thn (T.item (Cx.block1 x0 X scope cl H2.objs.size N s H fp) rfl rfl rfl hc i [] s3 σ3 H3 _ I3 (fpB fr3) st3 go) λr s4 ⟨u,hr,h4⟩=>?_
   subst hr
   refine thn h4 λ_ s5 ⟨x,H5,I5,r5,y5,st5,fr5⟩=>?_
   have I5':=I5.pinned (fpB fr5) (T.obj _ _ st5)
   refine thn (hg cl H2.objs.size s H fp _ s5 σ3 H5 x u _ I5' r5 (step x H5 y5)) λ_ s6 ⟨σ6,H6,I6,q6⟩=>?_
   refine thn (hif cl H2.objs.size s H fp _ s6 σ6 H6 _ I6 q6) λok s7 ⟨H7,I7,q7⟩=>?_
   have again:∀{s8:Shared} {σ8:St} {H8:Hp},Inv (Cx.block1 x0 X scope cl H2.objs.size N s H fp) ([]++xZ fp s5.heap) σ8 H8 s8->NX σ8 H8->∃m,m<n/\∃i σ' H',Inv (Cx.block1 x0 X scope cl H2.objs.size N s H fp) [] σ' H' s8/\tn i s8.heap/\(∀b∈fp,H' b=none)/\W i m σ' H':=λ{s8 σ8 H8} I8 n8=>by
    obtain ⟨m',hm,w8⟩:=hNX σ8 H8 n8
    refine ⟨m',hm,i+1,σ8,H8,I8.unpinned,T.keep _ _ _ st5 λb hb o e=>(I8.pin (b,o) (aE _ (aE _ (qv hb e)))).1,λb hb=>?_,w8⟩
    obtain ⟨o,e,d⟩:=T.obj _ _ st5 b hb
    exact (I8.pin (b,o) (aE _ (aE _ (qv hb e)))).2.1
   cases ok with
   | false =>
    rw [if_neg au] at q7 ⊢
    exact again I7 q7
   | true =>
    rw [if_pos rfl] at q7 ⊢
    refine thn (he cl H2.objs.size s H fp _ s7 σ6 H7 _ I7 q7) λv s8 ⟨y,H8,I8,r8,ys,e8,z8,q8⟩=>?_
    refine thn (qx _ s8 σ6 H8 (.ref s.heap.objs.size) [y] _ [v] (λ_ H9=>NX σ6 H9) I8 rfl (.cons r8 .nil) ⟨_,ys,y,rfl,rfl,e8,z8,q8⟩) λ_ s9 ⟨_,H9,I9,_,q9⟩=>?_
    exact again I9 q9
 exact fX (loop _ rfl) (T.self _ 0 _ _ _ st1 (loop _ rfl))
theorem UL {x0:Str}{osc:Scope}{ON N:List Str}{scope:Scope}{own:Nat}{caps:List Nat}{pins:List (Addr×Obj)}{σ:St}{H:Hp}{s:Shared}(S:CompSc1 osc ON scope own N caps x0) (hsc:X.env.scope=osc) (I:Inv X pins σ H s) :
  ∀x∈scope.names,x.2 = .free->∃c,X.env.cells.lookup x.1=some c:=λx hx hk=>I.ok.has x.1 (by unfold iU;rw [hsc];exact (S.fre x hx hk).2)
theorem VG {x0:Str}{osc:Scope}{ON N:List Str}{scope:Scope}{own:Nat}{caps:List Nat}{tg elt iter:Expr}{ifs:List Expr}{wi:TI}{g:TG}{ti:TT}{te:TE}{j:Nat}{y:Str}{py spos:Pos}(S:CompSc1 osc ON scope own N caps x0)
  (hnd:X.N.Nodup) (hj:X.N[j]? = some y) (hy:Loc X.env.scope y)
  (hc:X.calm=true) (hsc:X.env.scope=osc) (hN:X.N=ON) (hi:PI X tg iter wi)
  (hg:∀cl C s H ex,PG (Cx.block1 x0 X scope cl C N s H ex) tg g) (hif:∀cl C s H ex,wN (Cx.block1 x0 X scope cl C N s H ex) ifs ti) (he:∀cl C s H ex,PE (Cx.block1 x0 X scope cl C N s H ex) elt te)
  (hsw:ig (.ListComp elt [⟨tg,iter,ifs,0⟩] scope pos) (some (.Name y py)) spos.line X.env=pure true:=by rfl)
  (hf:X.fn y=true\/X.env.scope.names.lookup y=some .local:=by first | exact .inl rfl | exact .inr rfl | assumption)
  (hs:∀x,cB iter X.env x=pure x:=by intro _;rfl):PS X (.Assign [.Name y py] (.ListComp elt [⟨tg,iter,ifs,0⟩] scope pos) spos) (YN (VC own caps wi g ti te) (vo j)):=by
 intro pins s σ H D0 I h
 obtain ⟨cl,hclos,hcl⟩:=yi (UL S hsc I)
 rw [mI _ _ _ _ hsw]
 refine af (cF (af ?_))
 show aC _ X.A (do let _ <- sj (.ListComp elt [⟨tg,iter,ifs,0⟩] scope pos) scope X.env _ (nA []) false (eval iter X.env) (some (fB (.Name y py) X.env))) _ _ s
 refine af (b9 (dQ (use:=some (fB (.Name y py) X.env)) (Q:=λ_ s'=>SP X pins D0 .next s') rfl hs hclos S.kind S.loc
  (thn (hi pins s σ H _ I h) λv s1 h1=>thn h1 λitv s2 h2=>?_)) (λ_ s' hq=>wpAny_pure (wpAny_pure hq)) λ_ _ e=>e)
 obtain ⟨it,fp,tn,J,H2,e,I2,T,st2,f2,hw⟩:=h2
 subst e
 refine ZV (Q:=λv H'=>D0.nx (σ.set j (some v)) H') (RR:=λacc C=>rM (aH X.prog X.w) X.A X.xe (some (fB (.Name y py) X.env)) (λ_ s'=>SP X pins D0 .next s') acc C) hc S hsc hN hcl hg hif he I2 T st2 f2 hw λD C H' s' J1 B ⟨m,hm⟩ q=>?_
 show aC _ X.A (fB (.Name y py) X.env (.ref D)) _ _ s'
 refine lp (uI (v:=V.ref D) J1 hnd hj hy rfl (λs2 J2 ⟨a,hsame,ha⟩=>?_) hf)
 have hCa:C≠a:=by
  rcases ha with z | z
  ·rw [z];exact B.loc
  ·exact λz2=>B.cell y a z z2.symm
 exact ⟨m,hm.sameBut hsame hCa,λh' hs'=>⟨_,H',B.gone J2 hs',q⟩⟩
end
end L2
end
section
namespace K33
open L2
local macro_rules | `(tactic| walk_at "hp")=>`(tactic| first | assumption | exact j4 | (rw [j5 (by first | assumption | (apply cA;assumption))];first | assumption | exact j4))
local macro_rules | `(tactic| walk_at "num")=>`(tactic| first | decide | omega)
local macro_rules | `(tactic| walk_at "rd1")=>`(tactic| first | refine ⟨_,rfl,?_⟩ | refine ⟨_,_,rfl,rfl,?_⟩ | refine fN (show Vr _ _ from dz ⟨by walk_at "num",by walk_at "num"⟩) ?_ | refine fN (show Vr _ _ from aW ⟨by walk_at "num",by walk_at "num"⟩) ?_ | refine fN (show US _ _ from ⟨by walk_at "num",by walk_at "num"⟩) ?_ | refine fN (show GN _ _ from ⟨by walk_at "num",by walk_at "num",by walk_at "num"⟩) ?_ | refine fN (show (0:Int)<_ by walk_at "num") ?_ | refine ⟨_,_,_,_,rfl,rfl,SqL.of (by walk_at "hp"),(by rfl),?_⟩ | refine ⟨_,_,_,_,rfl,rfl,SqT.of (by walk_at "hp"),(by rfl),?_⟩ | refine ⟨_,_,_,_,rfl,rfl,(by assumption),(by rfl),?_⟩ | refine ⟨_,_,_,_,rfl,rfl,(by walk_at "hp"),(by rfl),?_⟩ | refine ⟨rfl,?_⟩)
local macro_rules | `(tactic| walk_at "r")=>`(tactic| repeat walk_at "rd1")
local macro_rules | `(tactic| walk_at "s")=>`(tactic| exact ⟨rfl,rfl,rfl,by decide +kernel,rfl,by decide +kernel,by decide +kernel⟩)
local macro_rules | `(tactic| walk_at "k")=>`(tactic| decide +kernel)
local macro_rules | `(())=>`(by omega)
local macro_rules | `(∅)=>`(by decide +kernel)
local macro_rules | `(tactic| walk_at "w")=>`(tactic| (intro _ z;cases z))
local macro_rules | `(tactic| walk_at "z")=>`(tactic| (intro z;cases z))
local macro_rules | `(tactic| left)=>`(tactic| walk_at "r")
noncomputable def top (i:Nat):Stmt:=PySem.Challenge.pw_firnfall_k33_sums_so_far.main.body.getD i (.Pass ⟨0,0,0,0⟩)
noncomputable abbrev zF:Stmt:=top 16
noncomputable abbrev yg:Stmt:=top 17
noncomputable abbrev vE:Stmt:=top 18
noncomputable abbrev JV:Stmt:=top 19
noncomputable abbrev qR:Stmt:=top 20
noncomputable abbrev vy:Stmt:=top 21
noncomputable abbrev kA:Stmt:=top 22
noncomputable abbrev xm:Stmt:=top 23
noncomputable abbrev v0:Stmt:=top 24
noncomputable abbrev yf:Stmt:=top 29
noncomputable abbrev yj:Stmt:=top 30
noncomputable abbrev kM:Stmt:=top 31
noncomputable abbrev yh:Stmt:=top 36
noncomputable abbrev zP:Stmt:=top 37
noncomputable abbrev zS:Stmt:=top 38
noncomputable abbrev qI:Stmt:=(xb (top 39) 0)
noncomputable abbrev kQ:Stmt:=(xb (top 39) 1)
noncomputable abbrev yV:Stmt:=(xb (top 39) 2)
noncomputable abbrev xA:Stmt:=(xb (top 39) 4)
noncomputable abbrev xh:Stmt:=(xb (top 39) 5)
noncomputable abbrev zN:Stmt:=(xb (top 39) 6)
noncomputable abbrev zQ:Stmt:=(xb (top 39) 7)
noncomputable abbrev yZ:Stmt:=(xb (top 39) 8)
noncomputable abbrev yr:Stmt:=(xb (top 39) 10)
noncomputable abbrev zG:Stmt:=(xb (top 39) 13)
noncomputable abbrev xO:Stmt:=(xb (top 39) 14)
noncomputable abbrev vF:Stmt:=(xb (top 39) 16)
noncomputable abbrev ya:Stmt:=top 41
noncomputable abbrev xr:Stmt:=top 42
noncomputable abbrev uy:Stmt:=top 44
noncomputable abbrev wB:Stmt:=top 45
noncomputable abbrev uM:Stmt:=top 47
noncomputable abbrev yF:Stmt:=top 48
noncomputable abbrev vJ:Stmt:=top 49
noncomputable abbrev yX:Stmt:=top 50
noncomputable abbrev xR:Stmt:=top 51
noncomputable abbrev zL:Stmt:=top 52
noncomputable abbrev zC:Stmt:=top 53
noncomputable abbrev ql:Stmt:=top 54
noncomputable abbrev qZ:Stmt:=top 55
noncomputable abbrev xX:Stmt:=top 56
noncomputable abbrev yc:Stmt:=top 57
noncomputable abbrev vw:Stmt:=top 58
noncomputable abbrev xV:Stmt:=top 59
noncomputable abbrev vK:Stmt:=top 60
noncomputable abbrev uO:Stmt:=top 61
noncomputable abbrev vN:Stmt:=top 62
noncomputable abbrev yb:Stmt:=top 63
noncomputable abbrev zA:Stmt:=top 64
noncomputable abbrev vI:Stmt:=top 65
noncomputable abbrev xx:Stmt:=top 66
noncomputable abbrev vn:Stmt:=top 67
section
variable {P:Program}{w:b8}{K:aj}{mg:Str->Option ah}{base:Heap}
noncomputable abbrev WI:Pos:=⟨47,28,47,49⟩
noncomputable abbrev qB (H:Hp) (Pt:Addr):Prop:=Tab H Pt WI (("lanes" : Str) ++ ".<locals>." ++ "<lambda>")
noncomputable def Zl:Sp:=λvs H Q _=>∃(i:Nat) (t:Int),vs=[.int i,.int t]/\Q (.bl (xI i t)) H
theorem JX:FnScope ["number","to"] ["number","to"] (j7 vE):=by walk_at "s"
theorem QE {f:Addr}{fd:FuncData}(F:Fun K "leads_on" "leads_on" vE f fd):FnOk P w K mg base CX0 1 f fd ["number","to"] Zl:=by
 refine F.ok JX (λvs H Q E h=>?_) (λcdv A outer s H vs Q E hr h=>?_)
 ·obtain ⟨i,t,rfl,_⟩:=h
  rfl
 ·obtain ⟨i,t,rfl,k⟩:=h
  refine ⟨_,(j6 (qq (jX wg (pv 0) j8 (qd _)) (j9 (jj (ze wg (pv 1) (vq zM j8) (qd _)))) jF)
   (j9 (jj (zW qy we j8 (pv 1) (pv 0))))),?_⟩
  have fin:∀b:Bool,b=xI i t->Q (.bl b) H:=λb e=>by rw [e];exact k
  left
  refine xo (λh1=>?_) (λh1=>?_)
  ·left
   have h1':i=0:=by have:=V.int.inj h1;omega
   refine fin _ ?_
   unfold xI
   rw [if_pos h1']
   exact decide_eq_decide.mpr ⟨λz=>V.int.inj z,λz=>by rw [z]⟩
  ·have h1':i≠0:=λz=>h1 (by rw [z];rfl)
   left
   refine xo (λh2=>?_) (λh2=>?_)
   ·left
    refine fin _ ?_
    unfold xI
    rw [if_neg h1']
    exact decide_eq_decide.mpr ⟨λz=>⟨h2,z⟩,λz=>z.2⟩
   ·refine fin _ ?_
    unfold xI
    rw [if_neg h1',decide_eq_false (λz=>h2 z.1)]
noncomputable def Ze:Sp:=λvs H Q _=>∃(i:Nat) (v:V) (r:Rch),vs=[.int i,v]/\Ju H v r/\r.2.length<=100/\∀H',jg H H'->Q (.bl (okR i r)) H'
theorem yC:FnScope ["number","reach","to","slope"] ["number","reach"] (j7 yg):=by walk_at "s"
theorem QI {f:Addr}{fd:FuncData}{u0 u1:Tok}(nb:Nb2 mg) (g_MOST_HEIGHTS:mg "MOST_HEIGHTS" = some (.int 12 u0)) (g_GREATEST_HEIGHT:mg "GREATEST_HEIGHT" = some (.int 99 u1)) (c_leads_on:Cal P w K mg base 1 "leads_on" ["number","to"] Zl) (F:Fun K "is_reach" "is_reach" yg f fd):FnOk P w K mg base CX0 2 f fd ["number","reach"] Ze:=by
 refine F.ok yC (λvs H Q E h=>?_) (λcdv A outer s H vs Q E hr h=>?_)
 ·obtain ⟨i,v,r,rfl,_⟩:=h
  rfl
 ·obtain ⟨i,v,⟨t,hs⟩,rfl,⟨p,g,rfl,hp,hg⟩,h100,k⟩:=h
  have h100':hs.length<=100:=h100
  have fin:∀(b:Bool) (H':Hp),jg H H'->b=okR i (t,hs)->Q (.bl b) H':=λb H' sm e=>by rw [e];exact k H' sm
  refine ⟨_,(j6 (yD (pv 1) (qT (n:=2) K rfl (js (jd (i:=2) yC.nd rfl (aW rfl)) (js (jd (i:=3) yC.nd rfl (aW rfl)) qL))))
   (j6 (qq (PW.pt (UU (xw (yw (jf c_leads_on (hr.mono ⋯) rfl (j0 (pv 0) (j0 (pv 2) j2))))) (V9 (xw (xW qy qy j8 (jc (jh K) rfl nb.b_len ba (j0 (pv 3) j2)) (xc (v:=V.int 12) rfl g_MOST_HEIGHTS ⟨_,rfl⟩)))))) (j9 (jj gK)) jF)
   (j9 (jj (jc (y9 K rfl) rfl nb.b_all p0 (j0 (jA (osc:=(j7 yg)) (ON:=["number","reach","to","slope"]) (N:=["height"]) (own:=1) (caps:=[]) ⟨rfl,∅,∅,∅,rfl,∅⟩ rfl rfl rfl (vd K (pv 3)) (λ_ _ _ _ _=>(jd (i:=0) (show aR (["height"]:List Str) by decide +kernel) rfl (aW rfl))) (λ_ _ _ _ _=>jq) (λ_ _ _ _ _=>(zW qy qy j8 (pv 0) (xc (v:=V.int 99) rfl g_GREATEST_HEIGHT ⟨_,rfl⟩)))) j2)))))),?_⟩
  left
  refine ⟨p,_,rfl,SqT.of hp,rfl,?_⟩
  refine ⟨_,_,rfl,_,_,rfl,rfl,?_⟩
  left
  refine ⟨i,t,rfl,?_⟩
  left
  cases hl:xI i t with
  | false =>
   refine vj ?_
   left
   exact fin _ H (jg.refl H) (by unfold okR;rw [hl];rfl)
  | true =>
   refine kI ?_
   left
   refine ⟨_,_,rfl,.inr (SqT.of hg),?_⟩
   left
   rw [aa]
   refine xo (λh1=>?_) (λh1=>?_)
   ·left
    refine y4 (λh2=>?_) (λh2=>?_)
    ·left
     exact fin _ H (jg.refl H) (by unfold okR;rw [hl,decide_eq_false (λz=>h2 z.2)];rfl)
    ·left
     refine ⟨⟨_,SqT.of hg⟩,λacc hacc=>?_⟩
     refine kE (K:=K) (a:=g) (xs:=hs.map V.int) (acc:=acc) (λj σ H2=>∃x:Option V,σ=[x]/\H2 acc=some (.lst (((hs.take j).map λx=>decide (0<=x/\x<=99)).map V.bl))/\Ext acc H H2) ?_ ?_ ?_ ?_
     ·exact ⟨none,rfl,j4,Ext.put⟩
     ·rintro j σ H2 hj ⟨x,rfl,h3,e3⟩
      exact SqT.of (e3 _ _ hg (j1 hg hacc))
     ·rintro j v σ H2 hv ⟨x,rfl,h3,e3⟩
      obtain ⟨z,rfl⟩:=yK hv
      have hz:hs[j]? = some z:=by
       rw [aB] at hv
       cases e:hs[j]? with
       | none=>rw [e] at hv;cases hv
       | some y=>rw [e] at hv;cases hv;rfl
      have hj:j<hs.length:=(List.getElem?_eq_some_iff.mp hz).1
      have done:∀b:Bool,b=decide (0<=z/\z<=99)->∃ys,H2 acc=some (.lst ys)/\ys.length<sizeLine/\∃x:Option V,[some (V.int z)]=[x]/\upd H2 acc (.lst (ys++[V.bl b])) acc=some (.lst (((hs.take (j+1)).map λx=>decide (0<=x/\x<=99)).map V.bl))/\Ext acc H (upd H2 acc (.lst (ys++[V.bl b]))):=λb e=>by
       refine ⟨_,h3,by rw [aa,aa,aF];exact ja (),_,rfl,?_,e3.trans Ext.put⟩
       rw [j4,qz (λx=>decide (0<=x/\x<=99)) hs j z hz,aq,e]
       rfl
      left
      refine xo (λh4=>?_) (λh4=>?_)
      ·left
       exact done _ (decide_eq_decide.mpr ⟨λy=>⟨h4,y⟩,λy=>y.2⟩)
      ·exact done _ (decide_eq_false λy=>h4 y.1).symm
     ·rintro σ H2 ⟨x,rfl,h3,e3⟩
      rw [aa,aS] at h3
      refine ⟨acc,_,rfl,SqL.of h3,?_⟩
      refine fin _ H2 (λc o hc=>e3 c o hc (j1 hc hacc)) ?_
      unfold okR
      rw [hl,decide_eq_true (show (1<=(hs.length:Int)/\(hs.length:Int)<=12) from ⟨h1,h2⟩),fZ]
      rfl
   ·refine ⟨_,rfl,vj ?_⟩
    left
    exact fin _ H (jg.refl H) (by unfold okR;rw [hl,decide_eq_false (λz=>h1 z.1)];rfl)
noncomputable def Je (K:aj):Sp:=λvs H Q _=>∃(p:Addr) (xs:List V) (rs:List Rch) (h:Nat),vs=[.ref p,.int h]/\H p=some (.lst xs)/\jV H xs rs/\xl rs/\h<rs.length/\rs.length<=100/\∀t H',H t=none->H' t=some (.tup ((qw rs h).map V.int))->jg H H'->Q (.ref t) H'
theorem zH:FnScope ["reaches","head","way","reach"] ["reaches","head"] (j7 vy):=by walk_at "s"
theorem QN {f:Addr}{fd:FuncData}(nb:Nb2 mg) (F:Fun K "way_down" "way_down" vy f fd):FnOk P w K mg base CX0 1 f fd ["reaches","head"] (Je K):=by
 refine F.ok zH (λvs H Q E h=>?_) (λcdv A outer s H vs Q E hr h=>?_)
 ·obtain ⟨p,xs,rs,h,rfl,_⟩:=h
  rfl
 ·obtain ⟨p,xs,rs,h,rfl,hp,hrw,L,hh,h100,k⟩:=h
  refine ⟨_,(j6 (jG 2 zH.nd (jU j2))
   (j6 (jG 3 zH.nd (pv 1))
   (j6 (Qm bI (jX VN (pv 3) j8 (qd _)) (j6 (qa (yE K bZ bU bV qx (pv 2) (j0 (pv 3) j2)))
   (j9 (jG 3 zH.nd (jn (qM K) (jn (je K) (pv 0) (pv 3) (λ_ _=>rfl)) j8 (λ_ _=>rfl))))))
   (j9 (jj (qk (zo K) rfl nb.b_tuple de (j0 (pv 2) j2))))))),?_⟩
  left
  refine ⟨aQ _,λwy H1 hwy hwy1 s1=>?_⟩
  left
  have hlen:=hrw.length
  refine QS (λσ H2=>∃(pre:List Int) (r:Int),σ=[some (.ref p),some (.int h),some (.ref wy),some (.int r)]/\H2 wy=some (.lst (pre.map V.int))/\Ext wy H1 H2 /\ -1<=r/\r<rs.length/\pre.length+(r+1).toNat<=100/\pre++(if r<0 then [] else qw rs r.toNat)=qw rs h) (λσ H2=>match σ with | [_,_,_,some (.int r)]=>(r+1).toNat | _=>0) ?_ ?_ ?_
  ·refine ⟨[],h,rfl,hwy1,Ext.refl,(),(),by simp;omega,?_⟩
   rw [if_neg ()]
   rfl
  ·rintro σ H2 ⟨pre,r,rfl,hw2,e2,r0,r1,rl,heq⟩
   left
   refine xo (λhr0=>?_) (λhr0=>?_)
   ·have hp2:H2 p=some (.lst xs):=e2 _ _ (s1 _ _ hp) (j1 hp hwy)
    have hrw2:jV H2 xs rs:=hrw.keep ((jm.same s1).trans (jm.lst e2 hwy1))
    have hi:r.toNat<rs.length:=()
    obtain ⟨v,hv,q,g,rfl,hq,hg⟩:=hrw2.at (ae hi)
    have ht:=L.lt hi
    have ht2:=(wO (L _ hi)).2.1
    have et:=JK (ae hi)
    rw [et] at ht ht2
    generalize (rs[r.toNat]'hi).1=tt at ht ht2 et hq
    left
    refine ⟨.inl ⟨rfl,_,SqL.of hw2⟩,?_⟩
    left
    refine ⟨wy,_,_,rfl,rfl,hw2,by rw [aa];exact ja (),?_⟩
    have hne:q≠wy:=jk hq hw2 (by walk_at "z")
    have hp3:upd H2 wy (.lst (pre.map V.int++[.int r])) p=some (.lst xs):=by rw [j5 (j1 hp hwy)];exact hp2
    have hq3:upd H2 wy (.lst (pre.map V.int++[.int r])) q=some (.tup [.int tt,.ref g]):=by rw [j5 hne];exact hq
    left
    refine ⟨_,_,_,_,rfl,rfl,SqL.of hp3,xg hr0 hv,?_⟩
    refine ⟨_,_,_,_,rfl,rfl,SqT.of hq3,rfl,?_⟩
    refine ⟨⟨pre++[r],tt,rfl,?_,e2.trans Ext.put,(),(),?_,?_⟩,?_⟩
    ·rw [j4,aq];rfl
    ·rw [aw,bj];omega
    ·rw [<- heq,if_neg (show ¬r<0 by omega),zE L hi,et,i6]
     congr 1
     show r::_=_
     congr 1
     omega
    ·show (tt+1).toNat<(r+1).toNat
     omega
   ·rw [if_pos (),bc] at heq
    subst heq
    left
    refine ⟨wy,_,rfl,SqL.of hw2,λt H3 ht ht3 s3=>?_⟩
    exact k t H3 (s1.free (e2.free ht (λz=>by rw [z,hw2] at ht;cases ht))) ht3 (λc o hc=>s3 _ _ (e2 _ _ (s1 _ _ hc) (j1 hc hwy)))
  ·intro σ H2 Q1 Q2 hQ h
   obtain ⟨v,e,r⟩:=h
   obtain ⟨i,j,e1,e2,kk,e3,r⟩:=r
   exact ⟨v,e,i,j,e1,e2,kk,e3,hQ _ _ r⟩
noncomputable def Z8 (K:aj):Sp:=λvs H Q _=>∃(p a:Addr) (xs:List V) (rs:List Rch) (way:List Int),vs=[.ref p,.ref a]/\H p=some (.lst xs)/\jV H xs rs/\(∀r∈rs,r.2.length<=100)/\H a=some (.tup (way.map V.int))/\(∀r∈way,0<=r/\r<rs.length)/\way.length<=100/\∀H',jg H H'->Q (.int (jw rs way)) H'
theorem wo:FnScope ["reaches","way"] ["reaches","way"] (j7 xm):=by walk_at "s"
theorem wj {f:Addr}{fd:FuncData}(nb:Nb2 mg) (F:Fun K "count_places" "count_places" xm f fd):FnOk P w K mg base CX0 1 f fd ["reaches","way"] (Z8 K):=by
 refine F.ok wo (λvs H Q E h=>?_) (λcdv A outer s H vs Q E hr h=>?_)
 ·obtain ⟨p,a,xs,rs,way,rfl,_⟩:=h
  rfl
 ·obtain ⟨p,a,xs,rs,way,rfl,hp,hrw,h100,ha,hin,hwl,k⟩:=h
  have hlen:=hrw.length
  refine ⟨_,(j9 (jj (jc (Qq K rfl) rfl nb.b_sum i7 (j0 (jA (osc:=(j7 xm)) (ON:=["reaches","way"]) (N:=["reach","reaches"]) (own:=1) (caps:=[0]) ⟨rfl,∅,∅,∅,rfl,∅⟩ rfl rfl rfl (vd K (pv 1)) (λ_ _ _ _ _=>(jd (i:=0) (show aR (["reach","reaches"]:List Str) by decide +kernel) rfl (aW rfl))) (λ_ _ _ _ _=>jq) (λ_ _ _ _ _=>(jc (jh K) rfl nb.b_len ba (j0 (jn (qM K) (jn (je K) (pv 1) (pv 0) (λ_ _=>rfl)) j8 (λ_ _=>rfl)) j2)))) j2)))),?_⟩
  left
  refine ⟨⟨_,SqT.of ha⟩,λacc hacc=>?_⟩
  refine kE (K:=K) (a:=a) (xs:=way.map V.int) (acc:=acc) (λj σ H2=>∃x:Option V,σ=[x,some (.ref p)]/\H2 acc=some (.lst (((way.take j).map λr=>((zO rs r.toNat).length:Int)).map V.int))/\Ext acc H H2) ?_ ?_ ?_ ?_
  ·exact ⟨none,rfl,j4,Ext.put⟩
  ·rintro j σ H2 hj ⟨x,rfl,h3,e3⟩
   exact SqT.of (e3 _ _ ha (j1 ha hacc))
  ·rintro j v σ H2 hv ⟨x,rfl,h3,e3⟩
   obtain ⟨r,rfl⟩:=yK hv
   have hz:way[j]? = some r:=by
    rw [aB] at hv
    cases e:way[j]? with
    | none=>rw [e] at hv;cases hv
    | some y=>rw [e] at hv;cases hv;rfl
   have hj:j<way.length:=(List.getElem?_eq_some_iff.mp hz).1
   have hr:=hin r (ay hz)
   have hi:r.toNat<rs.length:=()
   obtain ⟨v,hv',q,g,rfl,hq,hg⟩:=(hrw.keep (jm.new e3 hacc)).at (ae hi)
   left
   refine ⟨_,_,_,_,rfl,rfl,SqL.of (e3 _ _ hp (j1 hp hacc)),xg hr.1 hv',?_⟩
   refine ⟨_,_,_,_,rfl,rfl,SqT.of hq,rfl,?_⟩
   refine ⟨_,_,rfl,.inr (SqT.of hg),?_⟩
   refine ⟨_,h3,by rw [aa,aa,aF];exact ja (),_,rfl,?_,e3.trans Ext.put⟩
   rw [j4,qz (λr:Int=>((zO rs r.toNat).length:Int)) way j r hz,aq,Jv (ae hi),aa]
   rfl
  ·rintro σ H2 ⟨x,rfl,h3,e3⟩
   rw [aa,aS] at h3
   refine ⟨acc,_,rfl,SqL.of h3,by rw [aa];omega,λn hn=>?_,?_⟩
   ·obtain ⟨r,hr,rfl⟩:=List.mem_map.mp hn
    have hb:=hin r hr
    have hi:r.toNat<rs.length:=()
    have:=h100 _ (bP hi)
    rw [Jv (ae hi)]
    omega
   ·exact k H2 λc o hc=>e3 c o hc (j1 hc hacc)
noncomputable def uq (K:aj) (Pt:Addr):Sp:=λvs H Q _=>∃(p:Addr) (xs:List V) (rs:List Rch),vs=[.ref p]/\H p=some (.lst xs)/\jV H xs rs/\xl rs/\rs.length<=60/\qB H Pt/\∀l H' out ws,H l=none->H' l=some (.lst out)->zV H' out ws->jY rs ws->Ext Pt H H'->qB H' Pt->Q (.ref l) H'
theorem wV:FnScope ["reaches","entered","ways"] ["reaches"] (j7 qR):=by walk_at "s"
theorem Qj {α:Type}(l:List α) (d:α):((aK l.length).map λi=>l.getD i d)=l:=by
 apply lP
 ·simp
 ·intro i h1 h2
  simp [h2]
theorem gy {H:Hp}{vs:List V}{ws:List (List Int)}(h:zV H vs ws):∀ix:List Nat,(∀i∈ix,i<vs.length)->zV H (ix.map λi=>vs.getD i V.non) (ix.map λi=>ws.getD i [])
 | [],_=>.nil
 | i::ix,hb=>by
  refine .cons ?_ (gy h ix λj hj=>hb j (az _ hj))
  have hi:=hb i aG
  obtain ⟨y,e2,a,e3,e4⟩:=Paired.get h (ae hi)
  refine ⟨a,?_,?_⟩
  ·show vs.getD i V.non=V.ref a
   rw [ak,ae hi];exact e3
  ·show H a=some (.tup ((ws.getD i []).map V.int))
   rw [ak,e2];exact e4
theorem Jw {rs:List Rch}{roads:List (List Int)}{vs out:List V}{H H':Hp}(hr:roads=(jp rs).map (qw rs)) (hv:zV H vs roads) (k:jm H H') (hs:ud wn (λi=>(roads.getD i []).reverse) vs out):∃ws,zV H' out ws/\jY rs ws:=by
 obtain ⟨ix,hp,e,hpw⟩:=hs
 have hb:∀i∈ix,i<vs.length:=λi hi=>by have:=hp.mem_iff.mp hi;simpa using this
 refine ⟨ix.map λi=>roads.getD i [],by rw [e];exact (gy hv ix hb).keep k,?_,?_⟩
 ·have:=hp.map λi=>roads.getD i []
  rw [hv.length,Qj] at this
  rw [<- hr]
  exact this
 ·rw [bz]
  exact hpw
theorem V2 {f c Pt:Addr}{oc:ah}{od an:Option Addr}{osl:Array (Option ah)}{kV doc pm ct:ah}(nb:Nb2 mg) (c_way_down:Cal P w K mg base 1 "way_down" ["reaches","head"] (Je K)) (CH:PySem.W.CodeHd base c Pt) (hBm:Bm mg base)
  (l:K.lookup f=some ⟨oc,od,.func (bL "lanes" "lanes" (jW qR) (jP qR) (j7 qR) .none kV doc pm an (.ref c) ct),osl⟩) (cd:cQ K (.ref c) "lanes" = true) :
  FnOk P w K mg base CX0 5 f (bL "lanes" "lanes" (jW qR) (jP qR) (j7 qR) .none kV doc pm an (.ref c) ct) ["reaches"] (uq K Pt):=by
 refine Fun.okC l cd wV (λvs H Q E h=>?_) (λA outer s H vs Q E hr h=>?_)
 ·obtain ⟨p,xs,rs,rfl,_⟩:=h
  rfl
 ·obtain ⟨p,xs,rs,rfl,hp,hrw,L,h60,hT,k⟩:=h
  have hlen:=hrw.length
  refine ⟨_,(j6 (qW (i:=1) wV.nd rfl (dz rfl) (jA (osc:=(j7 qR)) (ON:=["reaches","entered","ways"]) (N:=["to","slope"]) (own:=2) (caps:=[]) ⟨rfl,∅,∅,∅,rfl,∅⟩ rfl rfl rfl (jL K (pv 0)) (λ_ _ _ _ _=>(qT (n:=2) K rfl (js (jd (i:=0) (show aR (["to","slope"]:List Str) by decide +kernel) rfl (aW rfl)) (js (jd (i:=1) (show aR (["to","slope"]:List Str) by decide +kernel) rfl (aW rfl)) qL)))) (λ_ _ _ _ _=>jq) (λ_ _ _ _ _=>(pv 0))))
   (j6 (vh (j:=2) (osc:=(j7 qR)) (ON:=["reaches","entered","ways"]) (N:=["head","reaches","entered"]) (own:=1) (caps:=[0,1]) ⟨rfl,∅,∅,∅,rfl,∅⟩ wV.nd rfl (aW rfl) rfl rfl rfl (jZ rfl nb.b_range (j0 (jc (jh K) rfl nb.b_len ba (j0 (pv 0) j2)) j2)) (λ_ _ _ _ _=>(jd (i:=0) (show aR (["head","reaches","entered"]:List Str) by decide +kernel) rfl (aW rfl))) (λ_ _ _ _ _=>(yJ (jX (xM K) (pv 0) (pv 2) (by with_unfolding_all rfl)))) (λ_ _ _ _ _=>(jf c_way_down (hr.mono ⋯) rfl (j0 (pv 1) (j0 (pv 0) j2)))))
   (j9 (jj (XQ (N:=["way"]) (x:="way") (k:=0) rfl nb.b_sorted (j0 (pv 2) j2) rfl CH hBm (hr.mono ⋯) (by walk_at "s") (λ_ _ _ _=>rfl) (λ_ _ _ _=>(UB K (pv 0)))))))),?_⟩
  left
  refine ⟨⟨_,SqL.of hp⟩,λen hen=>?_⟩
  refine jK (K:=K) (a:=p) (xs:=xs) (acc:=en) (λj σ H2=>∃x y:Option V,σ=[x,y]/\H2 en=some (.lst (((rs.take j).map (·.1)).map V.int))/\Ext en H H2) ?_ ?_ ?_ ?_
  ·exact ⟨none,none,rfl,j4,Ext.put⟩
  ·rintro j σ H2 hj ⟨x,y,rfl,h3,e3⟩
   exact SqL.of (e3 _ _ hp (j1 hp hen))
  ·rintro j v σ H2 hv ⟨x,y,rfl,h3,e3⟩
   obtain ⟨r,hr,q,g,rfl,hq,hg⟩:=(hrw.keep (jm.new e3 hen)).get hv
   have hj:j<rs.length:=(List.getElem?_eq_some_iff.mp hr).1
   left
   refine ⟨q,_,rfl,SqT.of hq,rfl,?_⟩
   refine ⟨_,_,rfl,_,_,rfl,rfl,?_⟩
   left
   refine ⟨_,h3,by rw [aa,aa,aF];exact ja (),_,_,rfl,?_,e3.trans Ext.put⟩
   rw [j4,qz (λr:Rch=>r.1) rs j r hr,aq]
   rfl
  ·rintro σ H2 ⟨x,y,rfl,h3,e3⟩
   rw [hlen,aS] at h3
   have hp2:=e3 _ _ hp (j1 hp hen)
   have hrw2:jV H2 xs rs:=hrw.keep (jm.new e3 hen)
   have hT2:qB H2 Pt:=hT.extN hen e3
   left
   refine ⟨_,_,rfl,.inl (SqL.of hp2),?_⟩
   refine ⟨_,rfl,(),(),λwy hwy=>?_⟩
   rw [hlen]
   refine qu (lo:=0) (n:=((rs.length:Nat):Int).toNat) (acc:=wy) (λj σ H3=>∃(x:Option V) (vs:List V),σ=[x,some (.ref p),some (.ref en)]/\H3 wy=some (.lst vs)/\zV H3 vs (((aK j).filter (jO rs)).map (qw rs))/\Ext wy H2 H3/\vs.length<=j) ?_ ?_ ?_
   ·exact ⟨none,[],rfl,j4,.nil,Ext.put,ar _⟩
   ·rintro j σ H3 hj ⟨x,vs,rfl,h4,w4,e4,l4⟩
    have hj':j<rs.length:=()
    have hen4:=e4 _ _ h3 (j1 h3 hwy)
    have hp4:=e4 _ _ hp2 (j1 hp2 hwy)
    have hrw4:jV H3 xs rs:=hrw2.keep (jm.new e4 hwy)
    have er:(aK (j+1)).filter (jO rs)=(aK j).filter (jO rs)++(if jO rs j=true then [j] else []):=by
     rw [cv,bT]
     congr 1
     by_cases z:jO rs j=true
     ·rw [if_pos z];simp [z]
     ·rw [if_neg z];simp [z]
    left
    refine ⟨en,_,rfl,.inl (SqL.of hen4),rfl,zX _,?_⟩
    left
    rw [d5,yI]
    refine y4 (λhin=>?_) (λhin=>?_)
    ·have hb:jO rs j=true:=by unfold jO;rw [decide_eq_false (show ¬(j:Int)∈tos rs from hin)];rfl
     left
     refine ⟨p,xs,rs,j,rfl,hp4,hrw4,L,hj',(),λt H5 ht ht5 s5=>?_⟩
     have nt:t≠wy:=λz=>by rw [z,h4] at ht;cases ht
     have h5:=s5 _ _ h4
     refine ⟨vs,h5,ja (),_,vs++[.ref t],rfl,j4,?_,λc o hc n=>by rw [j5 n];exact s5 _ _ (e4 c o hc n),by rw [aw,bj];omega⟩
     rw [er,if_pos hb,aq]
     exact zV.keep (jm.lst Ext.put h5) (cU (w4.keep (jm.same s5)) ⟨t,rfl,ht5⟩)
    ·have hb:¬jO rs j=true:=by unfold jO;rw [decide_eq_true (show (j:Int)∈tos rs from hin)];exact au
     refine ⟨_,vs,rfl,h4,?_,e4,()⟩
     rw [er,if_neg hb,bc]
     exact w4
   ·rintro σ H3 ⟨x,vs,rfl,h4,w4,e4,l4⟩
    have hT3:qB H3 Pt:=hT2.extN hwy e4
    obtain ⟨ps,hPt⟩:=hT3.ne
    rw [bb] at w4 l4
    have hvl:=w4.length
    left
    refine ⟨hT3,wy,vs,λi=>((((jp rs).map (qw rs)).getD i []).reverse),rfl,SqL.of h4,(),λi hi z=>?_,λH5 X5 i v hv=>?_,λlo H5 out hlo hlo5 X5 T5 hs=>?_⟩
    ·have hi2:i<(jp rs).length:=by
      rw [aa] at hvl
      exact Nat.lt_of_lt_of_eq hi hvl
     have z2:((jp rs).map (qw rs)).getD i []=[]:=List.reverse_eq_nil_iff.mp z
     rw [ak,aB,ae hi2] at z2
     exact Uk _ z2
    ·obtain ⟨y,e2,a,rfl,ha⟩:=Paired.get w4 hv
     have ha5:=jm.tbl X5 hPt _ _ ha
     left
     refine ⟨a,_,rfl,SqT.of ha5,λq H6 hq hq6 s6=>⟨s6,q,rfl,?_⟩⟩
     show H6 q=some (.tup (((((jp rs).map (qw rs)).getD i []).reverse).map V.int))
     rw [hq6,ak,show ((jp rs).map (qw rs))[i]? = some y from e2,<- pH]
     rfl
    ·obtain ⟨ws,hw,hrd⟩:=Jw (rs:=rs) rfl w4 (jm.tbl X5 hPt) hs
     have wyP:wy≠Pt:=jk h4 hPt (by walk_at "z")
     have enP:en≠Pt:=jk (e4 _ _ h3 (j1 h3 hwy)) hPt (by walk_at "z")
     have hlo3:H lo=none:=by
      have a1:H2 lo=none:=e4.free hlo (λz=>by rw [z,h4] at hlo;cases hlo)
      exact e3.free a1 (λz=>by rw [z,h3] at a1;cases a1)
     exact k lo H5 out ws hlo3 hlo5 hw hrd (λc o hc n=>X5 _ _ (e4 _ _ (e3 _ _ hc (j1 hc hen)) (j1 (e3 _ _ hc (j1 hc hen)) hwy)) n) T5
noncomputable def VA (K:aj):Sp:=λvs H Q _=>∃(p wl:Addr) (xs out:List V) (rs:List Rch) (ws:List (List Int)),vs=[.ref p,.ref wl]/\H p=some (.lst xs)/\jV H xs rs/\(∀r∈rs,r.2.length<=100)/\H wl=some (.lst out)/\zV H out ws/\jY rs ws/\xl rs/\rs.length<=60 /\
 ∀H',jg H H'->Q (.bl (decide (((jp rs).length:Int)<=6) && (jp rs).all λh=>decide (jw rs (qw rs h)<=30))) H'
theorem UO:FnScope ["reaches","ways"] ["reaches","ways"] (j7 JV):=by walk_at "s"
theorem Ul {f:Addr}{fd:FuncData}{u0 u1:Tok}(nb:Nb2 mg) (g_MOST_LANES:mg "MOST_LANES" = some (.int 6 u0)) (g_LONGEST_LANE:mg "LONGEST_LANE" = some (.int 30 u1)) (c_count_places:Cal P w K mg base 1 "count_places" ["reaches","way"] (Z8 K)) (F:Fun K "fits" "fits" JV f fd):FnOk P w K mg base CX0 2 f fd ["reaches","ways"] (VA K):=by
 refine F.ok UO (λvs H Q E h=>?_) (λcdv A outer s H vs Q E hr h=>?_)
 ·obtain ⟨p,wl,xs,out,rs,ws,rfl,_⟩:=h
  rfl
 ·obtain ⟨p,wl,xs,out,rs,ws,rfl,hp,hrw,h100,hw,hws,hrd,L,h60,k⟩:=h
  have hwl:=hws.length
  have hrl:=hrd.length
  have hhl:(jp rs).length<=60:=by
   unfold jp
   exact aI (bG _ _) (by rw [bF];exact h60)
  have fin:∀(b:Bool) (H':Hp),jg H H'->b=(decide (((jp rs).length:Int)<=6) && (jp rs).all λh=>decide (jw rs (qw rs h)<=30))->Q (.bl b) H':=λb H' sm e=>by rw [e];exact k H' sm
  refine ⟨_,(j9 (jj (yl (ze qy (jc (jh K) rfl nb.b_len ba (j0 (pv 1) j2)) (xc (v:=V.int 6) rfl g_MOST_LANES ⟨_,rfl⟩) (qd _)) (yQ (jc (y9 K rfl) rfl nb.b_all p0 (j0 (jA (osc:=(j7 JV)) (ON:=["reaches","ways"]) (N:=["way","reaches"]) (own:=1) (caps:=[0]) ⟨rfl,∅,∅,∅,rfl,∅⟩ rfl rfl rfl (jL K (pv 1)) (λ_ _ _ _ _=>(jd (i:=0) (show aR (["way","reaches"]:List Str) by decide +kernel) rfl (aW rfl))) (λ_ _ _ _ _=>jq) (λ_ _ _ _ _=>(ze qy (jf c_count_places (hr.mono ⋯) rfl (j0 (pv 1) (j0 (pv 0) j2))) (xc (v:=V.int 30) rfl g_LONGEST_LANE ⟨_,rfl⟩) (qd _)))) j2)))))),?_⟩
  left
  refine ⟨_,_,rfl,.inl (SqL.of hw),?_⟩
  left
  refine xo (λh1=>?_) (λh1=>?_)
  ·left
   refine ⟨⟨_,SqL.of hw⟩,λacc hacc=>?_⟩
   refine jK (K:=K) (a:=wl) (xs:=out) (acc:=acc) (λj σ H2=>∃x:Option V,σ=[x,some (.ref p)]/\H2 acc=some (.lst (((ws.take j).map λw=>decide (jw rs w<=30)).map V.bl))/\Ext acc H H2) ?_ ?_ ?_ ?_
   ·exact ⟨none,rfl,j4,Ext.put⟩
   ·rintro j σ H2 hj ⟨x,rfl,h3,e3⟩
    exact SqL.of (e3 _ _ hw (j1 hw hacc))
   ·rintro j v σ H2 hv ⟨x,rfl,h3,e3⟩
    obtain ⟨wy,ew,a,rfl,ha⟩:=Paired.get (hws.keep (jm.new e3 hacc)) hv
    have hj:j<ws.length:=(List.getElem?_eq_some_iff.mp ew).1
    obtain ⟨hd,hhd,ewy⟩:=hrd.mem (ay ew)
    have hdl:=xF hhd
    have hwlen:wy.length<=100:=by rw [ewy];have:=uk L hd hdl;omega
    left
    refine ⟨p,a,xs,rs,wy,rfl,e3 _ _ hp (j1 hp hacc),hrw.keep (jm.new e3 hacc),h100,ha,by rw [ewy];exact xS L hd hdl,hwlen,λH4 s4=>?_⟩
    left
    refine ⟨_,s4 _ _ h3,by rw [aa,aa,aF];exact ja (),_,rfl,?_,λc o hc n=>by rw [j5 n];exact s4 _ _ (e3 c o hc n)⟩
    rw [j4,qz (λw=>decide (jw rs w<=30)) ws j wy ew,aq]
    rfl
   ·rintro σ H2 ⟨x,rfl,h3,e3⟩
    rw [hwl,aS] at h3
    refine ⟨acc,_,rfl,SqL.of h3,?_⟩
    refine fin _ H2 (λc o hc=>e3 c o hc (j1 hc hacc)) ?_
    rw [decide_eq_true (show ((jp rs).length:Int)<=6 by rw [<- hrl,<- hwl];exact h1),fb,hrd.all]
  ·refine fin _ H (jg.refl H) ?_
   rw [decide_eq_false (show ¬((jp rs).length:Int)<=6 by rw [<- hrl,<- hwl];exact h1)]
   rfl
noncomputable def Qu (K:aj) (Pt:Addr):Sp:=λvs H Q _=>∃(p:Addr) (xs:List V) (rs:List Rch),vs=[.ref p]/\H p=some (.lst xs)/\jV H xs rs/\(∀r∈rs,r.2.length<=100)/\rs.length<=60/\qB H Pt/\∀H',Ext Pt H H'->qB H' Pt->Q (.bl (zx rs)) H'
theorem JR:FnScope ["reaches"] ["reaches"] (j7 zF):=by walk_at "s"
theorem JN {f Pt:Addr}{fd:FuncData}{u0:Tok}(nb:Nb2 mg) (g_MOST_REACHES:mg "MOST_REACHES" = some (.int 8 u0)) (c_is_reach:Cal P w K mg base 2 "is_reach" ["number","reach"] Ze) (c_lanes:Cal P w K mg base 5 "lanes" ["reaches"] (uq K Pt)) (c_fits:Cal P w K mg base 2 "fits" ["reaches","ways"] (VA K)) (F:Fun K "is_valley" "is_valley" zF f fd):FnOk P w K mg base CX0 6 f fd ["reaches"] (Qu K Pt):=by
 refine F.ok JR (λvs H Q E h=>?_) (λcdv A outer s H vs Q E hr h=>?_)
 ·obtain ⟨p,xs,rs,rfl,_⟩:=h
  rfl
 ·obtain ⟨p,xs,rs,rfl,hp,hrw,h100,h60,hT,k⟩:=h
  have hlen:=hrw.length
  have fin:∀(b:Bool) (H':Hp),Ext Pt H H'->qB H' Pt->b=zx rs->Q (.bl b) H':=λb H' x t e=>by rw [e];exact k H' x t
  refine ⟨_,(j6 (qq (xw (xW qy qy j8 (jc (jh K) rfl nb.b_len ba (j0 (pv 0) j2)) (xc (v:=V.int 8) rfl g_MOST_REACHES ⟨_,rfl⟩))) (j9 (jj gK)) jF)
   (j6 (qq (xw (yw (jc (y9 K rfl) rfl nb.b_all p0 (j0 (jA (osc:=(j7 zF)) (ON:=["reaches"]) (N:=["number","reach"]) (own:=2) (caps:=[]) ⟨rfl,∅,∅,∅,rfl,∅⟩ rfl rfl rfl (Jh K rfl nb.b_enumerate (j0 (pv 0) j2)) (λ_ _ _ _ _=>(qT (n:=2) K rfl (js (jd (i:=0) (show aR (["number","reach"]:List Str) by decide +kernel) rfl (aW rfl)) (js (jd (i:=1) (show aR (["number","reach"]:List Str) by decide +kernel) rfl (aW rfl)) qL)))) (λ_ _ _ _ _=>jq) (λ_ _ _ _ _=>(jf c_is_reach (hr.mono ⋯) rfl (j0 (pv 0) (j0 (pv 1) j2))))) j2)))) (j9 (jj gK)) jF)
   (j9 (jj (jf c_fits (hr.mono ⋯) rfl (j0 (pv 0) (j0 (jf c_lanes (hr.mono ⋯) rfl (j0 (pv 0) j2)) j2))))))),?_⟩
  left
  refine ⟨_,_,rfl,.inl (SqL.of hp),?_⟩
  left
  have no:¬(1<=(xs.length:Int)/\(xs.length:Int)<=8)->Q (.bl false) H:=λz=>fin _ H Ext.refl hT (by unfold zx;rw [decide_eq_false (by rw [<- hlen];exact z)];rfl)
  refine xo (λh1=>?_) (λh1=>?_)
  ·left
   refine y4 (λh2=>?_) (λh2=>?_)
   ·left
    exact no λz=>h2 z.2
   ·have h18:decide (1<=(rs.length:Int)/\(rs.length:Int)<=8)=true:=decide_eq_true (by rw [<- hlen];exact ⟨h1,h2⟩)
    left
    refine ⟨⟨_,SqL.of hp⟩,λacc hacc=>?_⟩
    refine Y2 (K:=K) (a:=p) (xs:=xs) (acc:=acc) (λj σ H2=>∃x y:Option V,σ=[x,y]/\H2 acc=some (.lst ((((aK j)).map λi=>okR i (rs.getD i (-1,[]))).map V.bl))/\Ext acc H H2) ?_ ?_ ?_ ?_
    ·exact ⟨none,none,rfl,j4,Ext.put⟩
    ·rintro j σ H2 hj ⟨x,y,rfl,h3,e3⟩
     exact SqL.of (e3 _ _ hp (j1 hp hacc))
    ·rintro j v σ H2 t hv ⟨x,y,rfl,h3,e3⟩ ht
     have hacct:acc≠t:=λz=>by rw [z] at h3;rw [h3] at ht;cases ht
     obtain ⟨r,hr,hrow⟩:=(hrw.keep (jm.new e3 hacc)).get hv
     have hj:j<rs.length:=(List.getElem?_eq_some_iff.mp hr).1
     left
     refine ⟨t,_,rfl,SqT.of j4,rfl,?_⟩
     refine ⟨_,_,rfl,_,_,rfl,rfl,?_⟩
     left
     refine ⟨j,v,r,rfl,hrow.keep (jm.same (jg.new ht)),h100 r (ay hr),λH4 s4=>?_⟩
     refine ⟨_,s4 _ _ ((jg.new ht) _ _ h3),by rw [aa,aa,bF];exact ja (),_,_,rfl,?_,λc o hc n=>by rw [j5 n];exact s4 _ _ ((jg.new ht) _ _ (e3 c o hc n))⟩
     rw [j4,cv,aq,aq]
     simp only [aO,fU]
     rw [ak,hr]
     rfl
    ·rintro σ H2 ⟨x,y,rfl,h3,e3⟩
     rw [hlen] at h3
     have sm:jg H H2:=λc o hc=>e3 c o hc (j1 hc hacc)
     refine ⟨acc,_,rfl,SqL.of h3,?_⟩
     left
     have eok:(((aK rs.length).map λi=>okR i (rs.getD i (-1,[]))).all λb=>b)=uK rs:=by rw [fZ];rfl
     rw [eok]
     cases hok:uK rs with
     | false =>
      refine vj ?_
      left
      exact fin _ H2 (Ext.of_same sm) (hT.same sm) (by unfold zx;rw [hok,h18];rfl)
     | true =>
      refine kI ?_
      have L:=qe hok
      left
      refine ⟨p,xs,rs,rfl,sm _ _ hp,hrw.keep (jm.same sm),L,h60,hT.same sm,λl H3 out ws hl hl3 w3 r3 X3 T3=>?_⟩
      obtain ⟨ps,hPt⟩:=(hT.same sm).ne
      have hp3:=X3 _ _ (sm _ _ hp) (jk (sm _ _ hp) hPt (by walk_at "z"))
      refine ⟨p,l,xs,out,rs,ws,rfl,hp3,hrw.keep ((jm.same sm).trans (jm.tbl X3 hPt)),h100,hl3,w3,r3,L,h60,λH4 s4=>?_⟩
      exact fin _ H4 (((Ext.of_same sm).trans X3).trans (Ext.of_same s4)) (T3.same s4) (by unfold zx;rw [hok,h18];rfl)
  ·refine ⟨_,rfl,vj ?_⟩
   left
   exact no λz=>h1 z.1
theorem vW:FnScope ["_law_number","_law_turn","_law_one"] ["_law_number","_law_turn"] (j7 yF):=by walk_at "s"
theorem Vz {f:Addr}{fd:FuncData}(F:Fun K "_law_mixed" "_law_mixed" yF f fd):FnOk P w K mg base CX0 1 f fd ["_law_number","_law_turn"] Zj:=by
 refine F.ok vW (λvs H Q E h=>?_) (λcdv A outer s H vs Q E hr h=>?_)
 ·obtain ⟨a,b,rfl,_⟩:=h
  rfl
 ·obtain ⟨a,b,rfl,k⟩:=h
  refine ⟨_,(j6 (jG 2 vW.nd (ji za (ji jy (ji jy (ji yN (pv 0) j8) (ji yN (pv 1) j8)) j8) j8))
   (j9 (jj (ji yL (ji za (ji jy (ji jy (ji yN (pv 2) (ji jy (ji za (pv 2) j8) j8)) (ji yN (pv 1) j8)) (ji za (ji yL (pv 0) j8) j8)) j8) j8)))),?_⟩
  left
  exact k _
theorem yP:FnScope ["_law_box_here","_law_size","_law_left","_law_cell"] ["_law_box_here","_law_size"] (j7 vJ):=by walk_at "s"
theorem Up {f:Addr}{fd:FuncData}(nb:Nb mg) (c_law_mixed:Cal P w K mg base 1 "_law_mixed" ["_law_number","_law_turn"] Zj) (F:Fun K "_law_take" "_law_take" vJ f fd):FnOk P w K mg base CX0 2 f fd ["_law_box_here","_law_size"] zy:=by
 refine F.ok yP (λvs H Q E h=>?_) (λcdv A outer s H vs Q E hr h=>?_)
 ·obtain ⟨L,b,n,rfl,_⟩:=h
  rfl
 ·obtain ⟨L,b,n,rfl,B,⟨hn,hn2⟩,k⟩:=h
  obtain ⟨ns,a,r,c,d,hb,hL,hS,ha⟩:=B
  refine ⟨_,(j6 (yD (ji jy (jn (je K) (pv 0) j8 (λ_ _=>rfl)) j8) (Jk (pv 0) j8 yA))
   (j6 (qq (jX UX (jn (je K) (pv 0) j8 (λ_ _=>rfl)) j8 (qd _)) (j6 (jG 2 yP.nd (jn (je K) (pv 0) j8 (λ_ _=>rfl)))
   (j6 (yD (ji yL (pv 2) (pv 1)) (Jk (pv 0) j8 yA))
   (j9 (jj (ji za (pv 2) (pv 1)))))) jF)
   (j6 (qq (jX VN (jn (je K) (pv 0) j8 (λ_ _=>rfl)) (jc (jh K) rfl nb.b_len ba (j0 (jn (je K) (pv 0) j8 (λ_ _=>rfl)) j2)) (qd _)) (j9 (jj (ji za (jf c_law_mixed (hr.mono ⋯) rfl (j0 (jn (je K) (pv 0) j8 (λ_ _=>rfl)) (j0 (jn (je K) (pv 0) j8 (λ_ _=>rfl)) j2))) (pv 1)))) jF)
   (j6 (jG 3 yP.nd (jn (je K) (jn (je K) (pv 0) j8 (λ_ _=>rfl)) (jn (je K) (pv 0) j8 (λ_ _=>rfl)) (λ_ _=>rfl)))
   (j6 (yD (ji jy (jn (je K) (pv 0) j8 (λ_ _=>rfl)) j8) (Jk (pv 0) j8 yA))
   (j6 (qq (jX we (pv 3) (ji Wj j8 j8) (qd _)) (j9 (jj (ji za (jf c_law_mixed (hr.mono ⋯) rfl (j0 (pv 3) (j0 (jn (je K) (pv 0) j8 (λ_ _=>rfl)) j2))) (pv 1)))) jF)
   (j6 (yD (ji yL (pv 3) (pv 1)) (Jk (pv 0) j8 yA))
   (j9 (jj (ji za (pv 3) (pv 1))))))))))),?_⟩
  left
  refine xo (λh1=>?_) (λh1=>?_)
  ·left
   exact k _ _ (dH _ ()) (cZ _ hn) ⟨ns,_,_,_,_,j4,hL,(Ext.put.trans Ext.put) _ _ hS hL,ha⟩ (Ext.put.trans Ext.put)
  ·have hS1:∀o,SqL K (upd H b o) L (ns.map V.int):=λo=>SqL.of (Ext.put _ _ hS hL)
   left
   refine ⟨_,_,rfl,.inl (hS1 _),?_⟩
   left
   refine xo (λh2=>?_) (λh2=>?_)
   ·left
    refine ⟨_,_,rfl,λz=>?_⟩
    left
    exact k _ _ (dH _ ()) (cZ _ hn) ⟨ns,_,_,_,_,j4,hL,Ext.put _ _ hS hL,ha⟩ Ext.put
   ·have h3:a<ns.length:=by
     rw [aa] at h2
     omega
    obtain ⟨z,hz⟩:=xq ha h3
    left
    refine ⟨_,_,_,_,rfl,rfl,hS1 _,hz,?_⟩
    left
    refine xo (λh4=>?_) (λh4=>?_)
    ·left
     refine ⟨_,_,rfl,λz=>?_⟩
     left
     exact k _ _ (dH _ ()) (cZ _ hn) ⟨ns,_,_,_,_,j4,hL,(Ext.put.trans Ext.put) _ _ hS hL,()⟩ (Ext.put.trans Ext.put)
    ·left
     exact k _ _ (dH _ ()) (cZ _ hn) ⟨ns,_,_,_,_,j4,hL,((Ext.put.trans Ext.put).trans Ext.put) _ _ hS hL,()⟩ ((Ext.put.trans Ext.put).trans Ext.put)
theorem yd:FnScope ["_law_script","_law_seed","_law_cell"] ["_law_script"] (j7 uM):=by walk_at "s"
theorem Wb {f:Addr}{fd:FuncData}(nb:Nb mg) (F:Fun K "_law_box" "_law_box" uM f fd):FnOk P w K mg base CX0 1 f fd ["_law_script"] (Vl K):=by
 refine F.ok yd (λvs H Q E h=>?_) (λcdv A outer s H vs Q E hr h=>?_)
 ·obtain ⟨a,ns,rfl,_⟩:=h
  rfl
 ·obtain ⟨a,ns,rfl,hS,k⟩:=h
  refine ⟨_,(j6 (jG 1 yd.nd j8)
   (j6 (xD bI rfl (jL K (pv 0)) (jd (i:=2) yd.nd rfl (aW rfl)) (j9 (jG 1 yd.nd (ji za (ji jy (ji jy (ji yN (pv 1) j8) (ji za (pv 2) j8)) j8) j8))))
   (j9 (jj (jU (j0 (qk (qA K) rfl nb.b_list bM (j0 (pv 0) j2)) (j0 j8 (j0 j8 (j0 j8 (j0 (pv 1) j2)))))))))),?_⟩
  left
  refine ⟨⟨_,hS⟩,kJ (K:=K) (a:=a) (xs:=ns.map V.int) (λi σ H2=>∃(seed:Int) (v:Option V),σ=[some (.ref a),some (.int seed),v]/\H2=H) ⟨_,_,rfl,rfl⟩ (λi σ H2 _ ⟨_,_,_,e⟩=>by rw [e];exact hS) ?_ ?_⟩
  ·rintro i y σ H2 hi ⟨seed,v,rfl,rfl⟩
   obtain ⟨z,rfl⟩:=yK hi
   left
   exact ⟨_,_,rfl,rfl⟩
  ·rintro σ H2 ⟨seed,v,rfl,rfl⟩
   left
   refine ⟨a,_,rfl,.inl hS,λL H3 hL hL3 s3=>?_⟩
   left
   refine ⟨by show 5<=sizeLine;decide,λb H4 hb hb4 s4=>?_⟩
   exact k L b _ (s3.free hb) ⟨ns,_,_,_,_,hb4,j1 hL3 hb,s4 _ _ hL3,lA _⟩ (s3.trans s4)
noncomputable def good (t:T3):Bool:=decide (0<=t.1/\t.1<=100/\0<=t.2.1/\t.2.1<=9/\0<=t.2.2/\t.2.2<=9)
noncomputable def gr (ts:List T3):Bool:=decide (1<=(ts.length:Int)/\(ts.length:Int)<=12) && ts.all good
theorem UW {ts:List T3}(h:¬(1<=(ts.length:Int)/\(ts.length:Int)<=12)):gr ts=false:=by unfold gr;rw [decide_eq_false h];rfl
theorem WV {ts:List T3}(h:1<=(ts.length:Int)/\(ts.length:Int)<=12):gr ts=(ts.map good).all λb=>b:=by
 unfold gr
 rw [decide_eq_true h,fb,fZ]
 rfl
noncomputable def Xy:Sp:=λvs H Q _=>∃(p:Addr) (t:T3),vs=[.ref p]/\H p=some (yq t)/\Q (.bl (good t)) H
local macro_rules | `(tactic| walk_at "forks")=>`(tactic| (walk_at "r";first | (refine xo (fun _=>?_) (fun _=>?_) <;> walk_at "forks") | skip))
theorem xL:FnScope ["row","line","snow","sun"] ["row"] (j7 yf):=by walk_at "s"
theorem hZ {f:Addr}{fd:FuncData}{u0 u1:Tok}(g_HIGHEST_LINE:mg "HIGHEST_LINE" = some (.int 100 u0)) (g_MOST_HANDS:mg "MOST_HANDS" = some (.int 9 u1)) (F:Fun K "is_weather" "is_weather" yf f fd):FnOk P w K mg base CX0 1 f fd ["row"] Xy:=by
 refine F.ok xL (λvs H Q E h=>?_) (λcdv A outer s H vs Q E hr h=>?_)
 ·obtain ⟨p,t,rfl,_⟩:=h
  rfl
 ·obtain ⟨p,⟨l,sn,u⟩,rfl,hp,k⟩:=h
  refine ⟨_,(j6 (yD (pv 0) (qT (n:=3) K rfl (js (jd (i:=1) xL.nd rfl (aW rfl)) (js (jd (i:=2) xL.nd rfl (aW rfl)) (js (jd (i:=3) xL.nd rfl (aW rfl)) qL)))))
   (j9 (jj (yl (zW qy qy j8 (pv 1) (xc (v:=V.int 100) rfl g_HIGHEST_LINE ⟨_,rfl⟩)) (yl (zW qy qy j8 (pv 2) (xc (v:=V.int 9) rfl g_MOST_HANDS ⟨_,rfl⟩)) (yQ (zW qy qy j8 (pv 3) (xc (v:=V.int 9) rfl g_MOST_HANDS ⟨_,rfl⟩)))))))),?_⟩
  left
  refine ⟨p,_,rfl,SqT.of hp,rfl,?_⟩
  refine ⟨_,_,rfl,_,_,rfl,_,_,rfl,rfl,?_⟩
  walk_at "forks"
  all_goals
   refine Eq.mp (congrArg (λz=>Q (V.bl z) H) ?_) k
   unfold good
   dsimp only at *
   first | (apply decide_eq_false;omega) | (apply decide_eq_decide.mpr;omega)
theorem QU:FnScope ["rows"] ["rows"] (j7 yj):=by walk_at "s"
noncomputable def Z2 (K:aj):Sp:=λvs H Q _=>∃(p:Addr) (xs:List V) (ts:List T3),vs=[.ref p]/\H p=some (.lst xs)/\qN H xs ts/\ts.length<=1000/\∀H',jg H H'->Q (.bl (gr ts)) H'
theorem Q4 {f:Addr}{fd:FuncData}{u0:Tok}(nb:Nb mg) (g_MOST_ROWS:mg "MOST_ROWS" = some (.int 12 u0)) (c_is_weather:Cal P w K mg base 1 "is_weather" ["row"] Xy) (F:Fun K "is_round" "is_round" yj f fd):FnOk P w K mg base CX0 2 f fd ["rows"] (Z2 K):=by
 refine F.ok QU (λvs H Q E h=>?_) (λcdv A outer s H vs Q E hr h=>?_)
 ·obtain ⟨p,xs,ts,rfl,_⟩:=h
  rfl
 ·obtain ⟨p,xs,ts,rfl,hp,hr3,h1000,k⟩:=h
  have hlen:=hr3.length
  refine ⟨_,(j9 (jj (yl (zW qy qy j8 (jc (jh K) rfl nb.b_len ba (j0 (pv 0) j2)) (xc (v:=V.int 12) rfl g_MOST_ROWS ⟨_,rfl⟩)) (yQ (jc (y9 K rfl) rfl nb.b_all p0 (j0 (jA (osc:=(j7 yj)) (ON:=["rows"]) (N:=["row"]) (own:=1) (caps:=[]) ⟨rfl,∅,∅,∅,rfl,∅⟩ rfl rfl rfl (jL K (pv 0)) (λ_ _ _ _ _=>(jd (i:=0) (show aR (["row"]:List Str) by decide +kernel) rfl (aW rfl))) (λ_ _ _ _ _=>jq) (λ_ _ _ _ _=>(jf c_is_weather (hr.mono ⋯) rfl (j0 (pv 0) j2)))) j2)))))),?_⟩
  left
  refine ⟨_,_,rfl,.inl (SqL.of hp),?_⟩
  left
  refine xo (λh1=>?_) (λh1=>?_)
  ·left
   refine xo (λh2=>?_) (λh2=>?_)
   ·left
    refine ⟨⟨_,SqL.of hp⟩,λacc hacc=>?_⟩
    refine jK (K:=K) (a:=p) (xs:=xs) (acc:=acc) (λi σ H2=>∃x:Option V,σ=[x]/\H2 acc=some (.lst (((ts.take i).map good).map V.bl))/\Ext acc H H2) ?_ ?_ ?_ ?_
    ·exact ⟨none,rfl,j4,Ext.put⟩
    ·rintro i σ H2 hi ⟨x,rfl,h3,e3⟩
     exact SqL.of (e3 _ _ hp (j1 hp hacc))
    ·rintro i v σ H2 hv ⟨x,rfl,h3,e3⟩
     obtain ⟨t,ht,q,rfl,hq⟩:=hr3.get hv
     have hi:i<ts.length:=(List.getElem?_eq_some_iff.mp ht).1
     left
     refine ⟨q,t,rfl,e3 _ _ hq (j1 hq hacc),?_⟩
     refine ⟨_,h3,by rw [aa,aa,aF];exact ja (),_,rfl,?_,e3.trans Ext.put⟩
     rw [j4,qz good ts i t ht,aq]
     rfl
    ·rintro σ H2 ⟨x,rfl,h3,e3⟩
     rw [hlen,aS] at h3
     refine ⟨acc,ts.map good,rfl,SqL.of h3,?_⟩
     have k2:=k H2 λc o hc=>e3 c o hc (j1 hc hacc)
     rw [WV (by rw [hlen] at h1 h2;exact ⟨h1,h2⟩)] at k2
     exact k2
   ·left
    have k2:=k H (jg.refl H)
    rw [UW (by rw [hlen] at h2;intro z;exact h2 z.2)] at k2
    exact k2
  ·left
   have k2:=k H (jg.refl H)
   rw [UW (by rw [hlen] at h1;intro z;exact h1 z.1)] at k2
   exact k2
noncomputable def uD:Sp:=λvs H Q _=>∃(L b:Addr),vs=[.ref b]/\qh L H b/\∀(p:Addr) (H':Hp) (t:T3),qh L H' b->Ext b H H'->H' p=some (yq t)->good t=true->Q (.ref p) H'
theorem yB:FnScope ["_law_box_here","_law_line"] ["_law_box_here"] (j7 zL):=by walk_at "s"
theorem five {v3 v1 v2:Int}(a:0<=v3) (b:v3<5) (c:0<=v1) (d:v1<20) (e:0<=v2) (g:v2<101):∃ln,atI [V.int (40+v1),V.int v2,V.int 0,V.int 100,V.int 50] v3=some (V.int ln)/\0<=ln/\ln<=100:=by
 have h:v3=0\/v3=1\/v3=2\/v3=3\/v3=4:=()
 rcases h with rfl | rfl | rfl | rfl | rfl
 ·exact ⟨40+v1,rfl,(),()⟩
 ·exact ⟨v2,rfl,(),()⟩
 ·exact ⟨0,rfl,(),()⟩
 ·exact ⟨100,rfl,(),()⟩
 ·exact ⟨50,rfl,(),()⟩
theorem Xw {f:Addr}{fd:FuncData}(c_law_take:Cal P w K mg base 2 "_law_take" ["_law_box_here","_law_size"] zy) (F:Fun K "_law_weather" "_law_weather" zL f fd):FnOk P w K mg base CX0 3 f fd ["_law_box_here"] uD:=by
 refine F.ok yB (λvs H Q E h=>?_) (λcdv A outer s H vs Q E hr h=>?_)
 ·obtain ⟨L,b,rfl,_⟩:=h
  rfl
 ·obtain ⟨L,b,rfl,B,k⟩:=h
  refine ⟨_,(j6 (jG 1 yB.nd (jn (je K) (jU (j0 (ji jy j8 (jf c_law_take (hr.mono ⋯) rfl (j0 (pv 0) (j0 j8 j2)))) (j0 (jf c_law_take (hr.mono ⋯) rfl (j0 (pv 0) (j0 j8 j2))) (j0 j8 (j0 j8 (j0 j8 j2)))))) (jf c_law_take (hr.mono ⋯) rfl (j0 (pv 0) (j0 j8 j2))) (λ_ _=>rfl)))
   (j9 (jj (xN (j0 (pv 1) (j0 (jf c_law_take (hr.mono ⋯) rfl (j0 (pv 0) (j0 j8 j2))) (j0 (jf c_law_take (hr.mono ⋯) rfl (j0 (pv 0) (j0 j8 j2))) j2))))))),?_⟩
  left
  refine ⟨L,b,_,rfl,B,⟨⋯,⋯⟩,λv1 H1 p1 q1 B1 X1=>?_⟩
  left
  refine ⟨L,b,_,rfl,B1,⟨⋯,⋯⟩,λv2 H2 p2 q2 B2 X2=>?_⟩
  refine ⟨by show 5<=sizeLine;decide,λq Hq hq hqq sq=>?_⟩
  left
  refine ⟨L,b,_,rfl,B2.same sq,⟨⋯,⋯⟩,λv3 H3 p3 q3 B3 X3=>?_⟩
  have hq3:=X3 _ _ hqq (B2.ne hq)
  obtain ⟨ln,hln,l0,l1⟩:=five p3 q3 p1 q1 p2 q2
  refine ⟨_,_,_,_,rfl,rfl,SqL.of hq3,hln,?_⟩
  left
  refine ⟨L,b,_,rfl,B3,⟨⋯,⋯⟩,λv4 H4 p4 q4 B4 X4=>?_⟩
  left
  refine ⟨L,b,_,rfl,B4,⟨⋯,⋯⟩,λv5 H5 p5 q5 B5 X5=>?_⟩
  refine ⟨by show 3<=sizeLine;decide,λp Hp hp hpp sp=>?_⟩
  exact k p _ (ln,v4,v5) (B5.same sp) ((((((X1.trans X2).trans (Ext.of_same sq)).trans X3).trans X4).trans X5).trans (Ext.of_same sp)) hpp (decide_eq_true ⟨l0,l1,p4,(show v4<=9 by omega),p5,(show v5<=9 by omega)⟩)
noncomputable def uU:Sp:=λvs H Q _=>∃(L b:Addr),vs=[.ref b]/\qh L H b/\∀(p:Addr) (H':Hp) (xs:List V) (ts:List T3),qh L H' b->Ext b H H'->H p=none->H' p=some (.lst xs)->qN H' xs ts->(1<=ts.length/\ts.length<=12)->ts.all good=true->Q (.ref p) H'
theorem Js:FnScope ["_law_box_here"] ["_law_box_here"] (j7 zC):=by walk_at "s"
theorem G5 {v:Int}(a:0<=v) (b:v<3):∃n,atI [V.int 1,V.int 3,V.int 12] v=some (V.int n)/\0<n/\n<=12:=by
 have h:v=0\/v=1\/v=2:=()
 rcases h with rfl | rfl | rfl
 ·exact ⟨1,rfl,(),()⟩
 ·exact ⟨3,rfl,(),()⟩
 ·exact ⟨12,rfl,(),()⟩
theorem Vb {f:Addr}{fd:FuncData}(nb:Nb mg) (c_law_take:Cal P w K mg base 2 "_law_take" ["_law_box_here","_law_size"] zy) (c_law_weather:Cal P w K mg base 3 "_law_weather" ["_law_box_here"] uD) (F:Fun K "_law_round" "_law_round" zC f fd):FnOk P w K mg base CX0 4 f fd ["_law_box_here"] uU:=by
 refine F.ok Js (λvs H Q E h=>?_) (λcdv A outer s H vs Q E hr h=>?_)
 ·obtain ⟨L,b,rfl,_⟩:=h
  rfl
 ·obtain ⟨L,b,rfl,B,k⟩:=h
  refine ⟨_,(j9 (jj (jA (osc:=(j7 zC)) (ON:=["_law_box_here"]) (N:=["_law_turn","_law_box_here"]) (own:=1) (caps:=[0]) ⟨rfl,∅,∅,∅,rfl,∅⟩ rfl rfl rfl (jZ rfl nb.b_range (j0 (ji jy j8 (jf c_law_take (hr.mono ⋯) rfl (j0 (pv 0) (j0 (jn (je K) (jU (j0 j8 (j0 j8 (j0 j8 j2)))) (jf c_law_take (hr.mono ⋯) rfl (j0 (pv 0) (j0 j8 j2))) (λ_ _=>rfl)) j2)))) j2)) (λ_ _ _ _ _=>(jd (i:=0) (show aR (["_law_turn","_law_box_here"]:List Str) by decide +kernel) rfl (aW rfl))) (λ_ _ _ _ _=>jq) (λ_ _ _ _ _=>(jf c_law_weather (hr.mono ⋯) rfl (j0 (pv 1) j2)))))),?_⟩
  left
  refine ⟨by show 3<=sizeLine;decide,λq Hq hq hqq sq=>?_⟩
  left
  refine ⟨L,b,_,rfl,B.same sq,⟨⋯,⋯⟩,λv1 H1 p1 q1 B1 X1=>?_⟩
  obtain ⟨n,hn,n0,n1⟩:=G5 p1 q1
  refine ⟨_,_,_,_,rfl,rfl,SqL.of (X1 _ _ hqq (B.ne hq)),hn,?_⟩
  refine ⟨L,b,_,rfl,B1,⟨n0,()⟩,λv2 H2 p2 q2 B2 X2=>?_⟩
  refine ⟨_,_,rfl,rfl,?_⟩
  refine ⟨1+v2,rfl,(),(),λacc hacc=>?_⟩
  have nb1:=B2.ne hacc
  have nb2:=B2.neL hacc
  have hfree:∀a,H2 a=none->a≠b->H a=none:=λa n nb=>jg.free sq (X1.free (X2.free n nb) nb)
  refine qu (lo:=0) (n:=(1+v2).toNat) (acc:=acc) (λi σ H3=>∃(x:Option V) (xs:List V) (ts:List T3),σ=[x,some (.ref b)]/\qh L H3 b/\(∀c o,H2 c=some o->c≠b->H3 c=some o)/\H3 acc=some (.lst xs)/\qN H3 xs ts/\ts.length=i/\ts.all good=true) ?_ ?_ ?_
  ·exact ⟨none,[],[],rfl,B2.put nb1 nb2,λc o hc n=>Ext.put _ _ hc (j1 hc hacc),j4,.nil,rfl,rfl⟩
  ·rintro i σ H3 hi ⟨x,xs,ts,rfl,B3,ks,h3,r3,hl,hg⟩
   left
   refine ⟨L,b,rfl,B3,λp H4 t B4 X4 hp ht=>?_⟩
   have h4:=X4 _ _ h3 nb1
   have r4:qN H4 xs ts:=r3.imp λp t e=>X4 _ _ e (B3.ne_tup e)
   have hlen:=r4.length
   refine ⟨xs,h4,ja (),_,xs++[.ref p],ts++[t],rfl,B4.put nb1 nb2,λc o hc n=>Ext.put _ _ (X4 _ _ (ks c o hc n) n) (j1 hc hacc),j4,?_,by rw [aw,hl];rfl,by rw [List.all_append,hg];simp [ht]⟩
   exact qN.imp (r4.snoc ⟨p,rfl,hp⟩) λq t e=>Ext.put _ _ e (jk e h4 (by walk_at "z"))
  ·rintro σ H3 ⟨x,xs,ts,rfl,B3,ks,h3,r3,hl,hg⟩
   exact k acc H3 xs ts B3 (λc o hc n=>ks c o (X2 _ _ (X1 _ _ (sq _ _ hc) n) n) n) (hfree acc hacc nb1) h3 r3 () hg
theorem JJ:FnScope ["_law_found"] ["_law_found"] (j7 yX):=by walk_at "s"
theorem VQ {f:Addr}{fd:FuncData}(nb:Nb2 mg) (F:Fun K "_law_whole" "_law_whole" yX f fd):FnOk P w K mg base CX0 1 f fd ["_law_found"] Z4:=by
 refine F.ok JJ (λvs H Q E h=>?_) (λcdv A outer s H vs Q E hr h=>?_)
 ·obtain ⟨i,rfl,_⟩:=h
  rfl
 ·obtain ⟨i,rfl,k⟩:=h
  refine ⟨_,(j9 (jj (yl (jc (jR K) rfl nb.b_isinstance cw (j0 (pv 0) (j0 (xB (v:=V.ty "int") rfl nb.b_int ie rfl) j2))) (yQ (Wx (jc (jR K) rfl nb.b_isinstance cw (j0 (pv 0) (j0 (xB (v:=V.ty "bool") rfl nb.b_bool i8 rfl) j2)))))))),?_⟩
  left
  refine ⟨_,_,_,_,rfl,.int _,wJ K,_,rfl,vj ?_⟩
  left
  refine ⟨_,_,_,_,rfl,.int _,w9 K,_,rfl,?_⟩
  exact k
theorem vU:FnScope ["_law_found","_law_due"] ["_law_found","_law_due"] (j7 xR):=by walk_at "s"
theorem ZJ {f:Addr}{fd:FuncData}(F:Fun K "_law_alike" "_law_alike" xR f fd):FnOk P w K mg base CX0 1 f fd ["_law_found","_law_due"] (Ua 0):=by
 refine F.ok vU (λvs H Q E h=>?_) (λcdv A outer s H vs Q E hr h=>?_)
 ·obtain ⟨x,y,d,rfl,_⟩:=h
  rfl
 ·obtain ⟨x,y,d,rfl,_,_,z,_⟩:=h
  cases z
theorem J5 (n:Nat) {f:Addr}{fd:FuncData}(nb:Nb2 mg) (c_law_whole:Cal P w K mg base 1 "_law_whole" ["_law_found"] Z4) (c_law_alike:Cal P w K mg base (n+1) "_law_alike" ["_law_found","_law_due"] (Ua n)) (F:Fun K "_law_alike" "_law_alike" xR f fd):FnOk P w K mg base CX0 (n+2) f fd ["_law_found","_law_due"] (Ua (n+1)):=by
 refine F.ok vU (λvs H Q E h=>?_) (λcdv A outer s H vs Q E hr h=>?_)
 ·obtain ⟨x,y,d,rfl,_⟩:=h
  rfl
 ·obtain ⟨x,y,d,rfl,hx,hy,hs,k⟩:=h
  refine ⟨_,(j6 (qq (jX YE (pv 1) Vm (qd _)) (j9 (jj (ze YE (pv 0) Vm (qd _)))) jF)
   (j6 (qq (yw (jc (jR K) rfl nb.b_isinstance cw (j0 (pv 1) (j0 (xB (v:=V.ty "bool") rfl nb.b_bool i8 rfl) j2)))) (j9 (jj (yl (jc (jR K) rfl nb.b_isinstance cw (j0 (pv 0) (j0 (xB (v:=V.ty "bool") rfl nb.b_bool i8 rfl) j2))) (yQ (ze wg (pv 0) (pv 1) (qd _)))))) jF)
   (j6 (qq (yw (jc (jR K) rfl nb.b_isinstance cw (j0 (pv 1) (j0 (xB (v:=V.ty "int") rfl nb.b_int ie rfl) j2)))) (j9 (jj (yl (jf c_law_whole (hr.mono ()) rfl (j0 (pv 0) j2)) (yQ (ze wg (pv 0) (pv 1) (qd _)))))) jF)
   (j6 (qq (yw (jc (jR K) rfl nb.b_isinstance cw (j0 (pv 1) (j0 (xB (v:=V.ty "str") rfl nb.b_str mK rfl) j2)))) (j9 (jj (yl (jc (jR K) rfl nb.b_isinstance cw (j0 (pv 0) (j0 (xB (v:=V.ty "str") rfl nb.b_str mK rfl) j2))) (yQ (ze wg (pv 0) (pv 1) (qd _)))))) jF)
   (j6 (qq (PW.pt (UU (jX VT (jc (jR K) rfl nb.b_isinstance cw (j0 (pv 1) (j0 (xB (v:=V.ty "list") rfl nb.b_list bM rfl) j2))) (jc (jR K) rfl nb.b_isinstance cw (j0 (pv 0) (j0 (xB (v:=V.ty "list") rfl nb.b_list bM rfl) j2))) (qd _)) (V9 (jX VT (jc (jR K) rfl nb.b_isinstance cw (j0 (pv 1) (j0 (xB (v:=V.ty "tuple") rfl nb.b_tuple de rfl) j2))) (jc (jR K) rfl nb.b_isinstance cw (j0 (pv 0) (j0 (xB (v:=V.ty "tuple") rfl nb.b_tuple de rfl) j2))) (qd _))))) (j9 (jj gK)) jF)
   (j9 (jj (yl (ze wg (jc (jh K) rfl nb.b_len ba (j0 (pv 0) j2)) (jc (jh K) rfl nb.b_len ba (j0 (pv 1) j2)) (qd _)) (yQ (jc (y9 K rfl) rfl nb.b_all p0 (j0 (jA (osc:=(j7 xR)) (ON:=["_law_found","_law_due"]) (N:=["_law_one","_law_other"]) (own:=2) (caps:=[]) ⟨rfl,∅,∅,∅,rfl,∅⟩ rfl rfl rfl (JE K rfl nb.b_zip (j0 (pv 0) (j0 (pv 1) j2))) (λ_ _ _ _ _=>(qT (n:=2) K rfl (js (jd (i:=0) (show aR (["_law_one","_law_other"]:List Str) by decide +kernel) rfl (aW rfl)) (js (jd (i:=1) (show aR (["_law_one","_law_other"]:List Str) by decide +kernel) rfl (aW rfl)) qL)))) (λ_ _ _ _ _=>jq) (λ_ _ _ _ _=>(jf c_law_alike (hr.mono ()) rfl (j0 (pv 0) (j0 (pv 1) j2))))) j2))))))))))),?_⟩
  cases d with
  | none =>
   cases hx;cases hy
   left
   exact k H (jg.refl _)
  | bool b =>
   cases hx;cases hy
   left
   refine ⟨_,_,_,_,rfl,.bl _,uu K,_,rfl,vj ?_⟩
   left
   refine ⟨_,_,_,_,rfl,.bl _,uu K,_,rfl,vj ?_⟩
   left
   have k':=k H (jg.refl _)
   rw [decide_eq_true rfl]
   exact k'
  | int i =>
   cases hx;cases hy
   left
   refine ⟨_,_,_,_,rfl,.int _,w9 K,_,rfl,kI ?_⟩
   left
   refine ⟨_,_,_,_,rfl,.int _,wJ K,_,rfl,vj ?_⟩
   left
   have k':=k H (jg.refl _)
   rw [decide_eq_true rfl]
   exact k'
  | str i =>
   cases hx;cases hy
   left
   refine ⟨_,_,_,_,rfl,.str _,Qi K,_,rfl,kI ?_⟩
   left
   refine ⟨_,_,_,_,rfl,.str _,Z0 K,_,rfl,kI ?_⟩
   left
   refine ⟨_,_,_,_,rfl,.str _,k7 K,_,rfl,vj ?_⟩
   left
   refine ⟨_,_,_,_,rfl,.str _,k7 K,_,rfl,vj ?_⟩
   left
   have k':=k H (jg.refl _)
   rw [decide_eq_true rfl]
   exact k'
  | list ds =>
   cases hx with
   | @lst a va _ ha da =>
   cases hy with
   | @lst b vb _ hb db =>
   have el:=da.length
   have el2:=db.length
   have hsm:ds.length<=1000/\ds.all (vD n)=true:=by
    have z:(decide (ds.length<=1000) && ds.all (vD n))=true:=hs
    rw [bh] at z
    exact ⟨of_decide_eq_true z.1,z.2⟩
   left
   refine ⟨_,_,_,_,rfl,.lst hb,JH K,_,rfl,kI ?_⟩
   left
   refine ⟨_,_,_,_,rfl,.lst hb,QB K,_,rfl,kI ?_⟩
   left
   refine ⟨_,_,_,_,rfl,.lst hb,Qr K,_,rfl,kI ?_⟩
   left
   refine ⟨_,_,_,_,rfl,.lst hb,vT K,?_⟩
   left
   refine ⟨_,_,_,_,rfl,.lst ha,vT K,?_⟩
   left
   refine ⟨_,_,_,_,rfl,.lst hb,vm K,?_⟩
   left
   refine ⟨_,_,_,_,rfl,.lst ha,vm K,?_⟩
   left
   refine ⟨_,_,rfl,.inl (SqL.of ha),?_⟩
   left
   refine ⟨_,_,rfl,.inl (SqL.of hb),?_⟩
   left
   rw [el,el2]
   refine xo (λ_=>?_) (λz=>absurd rfl z)
   left
   refine ⟨false,false,_,_,rfl,⟨_,SqL.of ha⟩,⟨_,SqL.of hb⟩,λacc hacc=>?_⟩
   refine vc (K:=K) (t0:=false) (u0:=false) (a:=a) (b:=b) (xs:=va) (ys:=vb) (acc:=acc) (el.trans el2.symm) (λj σ H2=>∃x y:Option V,σ=[x,y]/\H2 acc=some (.lst ((bX j true).map V.bl))/\Ext acc H H2) ?_ ?_ ?_ ?_
   ·exact ⟨none,none,rfl,j4,Ext.put⟩
   ·rintro j σ H2 hj ⟨x,y,rfl,h3,e3⟩
    exact ⟨SqL.of (e3 _ _ ha (j1 ha hacc)),SqL.of (e3 _ _ hb (j1 hb hacc))⟩
   ·rintro j x y σ H2 p hx hy ⟨v1,v2,rfl,h3,e3⟩ hp
    obtain ⟨d1,hd1,q1⟩:=da.get hx
    obtain ⟨d2,hd2,q2⟩:=db.get hy
    rw [hd1] at hd2
    cases hd2
    have hj:j<ds.length:=(List.getElem?_eq_some_iff.mp hd1).1
    have s2:jg H (upd H2 p (.tup [x,y])):=λc o hc=>(jg.new hp) _ _ (e3 _ _ hc (j1 hc hacc))
    have q1':=q1.same s2
    have q2':=q2.same s2
    have h3':upd H2 p (.tup [x,y]) acc=_:=(jg.new hp) _ _ h3
    have e3':Ext acc H (upd H2 p (.tup [x,y])):=λc o hc n=>(jg.new hp) _ _ (e3 _ _ hc n)
    have hp':upd H2 p (.tup [x,y]) p=some (.tup [x,y]):=j4
    generalize upd H2 p (.tup [x,y])=H4 at s2 q1' q2' h3' e3' hp'
    left
    refine ⟨p,_,rfl,SqT.of hp',rfl,?_⟩
    refine ⟨_,_,rfl,_,_,rfl,rfl,?_⟩
    left
    refine ⟨x,y,d1,rfl,q1',q2',List.all_eq_true.mp hsm.2 _ (ay hd1),λH5 s5=>?_⟩
    refine ⟨_,s5 _ _ h3',by rw [aa,bg];exact ja (),_,_,rfl,?_,λc o hc n=>by rw [j5 n];exact s5 _ _ (e3' c o hc n)⟩
    rw [j4,fq,aq]
    rfl
   ·rintro σ H2 ⟨v1,v2,rfl,h3,e3⟩
    refine ⟨acc,_,rfl,SqL.of h3,?_⟩
    have e:((bX va.length true).all λb=>b)=true:=by
     rw [bY]
     intro x hx
     exact (List.mem_replicate.mp hx).2
    rw [e]
    exact k H2 λc o hc=>e3 c o hc (j1 hc hacc)
  | tuple ds =>
   cases hx with
   | @tup a va _ ha da =>
   cases hy with
   | @tup b vb _ hb db =>
   have el:=da.length
   have el2:=db.length
   have hsm:ds.length<=1000/\ds.all (vD n)=true:=by
    have z:(decide (ds.length<=1000) && ds.all (vD n))=true:=hs
    rw [bh] at z
    exact ⟨of_decide_eq_true z.1,z.2⟩
   left
   refine ⟨_,_,_,_,rfl,.tup hb,gj K,_,rfl,kI ?_⟩
   left
   refine ⟨_,_,_,_,rfl,.tup hb,Jz K,_,rfl,kI ?_⟩
   left
   refine ⟨_,_,_,_,rfl,.tup hb,Jy K,_,rfl,kI ?_⟩
   left
   refine ⟨_,_,_,_,rfl,.tup hb,vt K,?_⟩
   left
   refine ⟨_,_,_,_,rfl,.tup ha,vt K,?_⟩
   left
   refine ⟨_,_,_,_,rfl,.tup hb,yU K,?_⟩
   left
   refine ⟨_,_,_,_,rfl,.tup ha,yU K,?_⟩
   left
   refine ⟨_,_,rfl,.inr (SqT.of ha),?_⟩
   left
   refine ⟨_,_,rfl,.inr (SqT.of hb),?_⟩
   left
   rw [el,el2]
   refine xo (λ_=>?_) (λz=>absurd rfl z)
   left
   refine ⟨true,true,_,_,rfl,⟨_,SqT.of ha⟩,⟨_,SqT.of hb⟩,λacc hacc=>?_⟩
   refine vc (K:=K) (t0:=true) (u0:=true) (a:=a) (b:=b) (xs:=va) (ys:=vb) (acc:=acc) (el.trans el2.symm) (λj σ H2=>∃x y:Option V,σ=[x,y]/\H2 acc=some (.lst ((bX j true).map V.bl))/\Ext acc H H2) ?_ ?_ ?_ ?_
   ·exact ⟨none,none,rfl,j4,Ext.put⟩
   ·rintro j σ H2 hj ⟨x,y,rfl,h3,e3⟩
    exact ⟨SqT.of (e3 _ _ ha (j1 ha hacc)),SqT.of (e3 _ _ hb (j1 hb hacc))⟩
   ·rintro j x y σ H2 p hx hy ⟨v1,v2,rfl,h3,e3⟩ hp
    obtain ⟨d1,hd1,q1⟩:=da.get hx
    obtain ⟨d2,hd2,q2⟩:=db.get hy
    rw [hd1] at hd2
    cases hd2
    have hj:j<ds.length:=(List.getElem?_eq_some_iff.mp hd1).1
    have s2:jg H (upd H2 p (.tup [x,y])):=λc o hc=>(jg.new hp) _ _ (e3 _ _ hc (j1 hc hacc))
    have q1':=q1.same s2
    have q2':=q2.same s2
    have h3':upd H2 p (.tup [x,y]) acc=_:=(jg.new hp) _ _ h3
    have e3':Ext acc H (upd H2 p (.tup [x,y])):=λc o hc n=>(jg.new hp) _ _ (e3 _ _ hc n)
    have hp':upd H2 p (.tup [x,y]) p=some (.tup [x,y]):=j4
    generalize upd H2 p (.tup [x,y])=H4 at s2 q1' q2' h3' e3' hp'
    left
    refine ⟨p,_,rfl,SqT.of hp',rfl,?_⟩
    refine ⟨_,_,rfl,_,_,rfl,rfl,?_⟩
    left
    refine ⟨x,y,d1,rfl,q1',q2',List.all_eq_true.mp hsm.2 _ (ay hd1),λH5 s5=>?_⟩
    refine ⟨_,s5 _ _ h3',by rw [aa,bg];exact ja (),_,_,rfl,?_,λc o hc n=>by rw [j5 n];exact s5 _ _ (e3' c o hc n)⟩
    rw [j4,fq,aq]
    rfl
   ·rintro σ H2 ⟨v1,v2,rfl,h3,e3⟩
    refine ⟨acc,_,rfl,SqL.of h3,?_⟩
    have e:((bX va.length true).all λb=>b)=true:=by
     rw [bY]
     intro x hx
     exact (List.mem_replicate.mp hx).2
    rw [e]
    exact k H2 λc o hc=>e3 c o hc (j1 hc hacc)
  | _=>cases hx
noncomputable def vv:Sp:=λvs H Q _=>∃(L b:Addr) (tp sz:Int),vs=[.ref b,.int tp,.int sz]/\qh L H b/\tp<=99/\0<=sz/\sz<=100/\∀p H' (hs:List Int),qh L H' b->Ext b H H'->H p=none->H' p=some (.lst (hs.map V.int))->(hs.length:Int)=sz->(∀x∈hs,0<=x/\x<=99)->Q (.ref p) H'
theorem qX:FnScope ["_law_box_here","_law_top","_law_size","_law_pick","_law_step"] ["_law_box_here","_law_top","_law_size"] (j7 ql):=by walk_at "s"
theorem wm {f:Addr}{fd:FuncData}(nb:Nb2 mg) (c_law_take:Cal P w K mg base 2 "_law_take" ["_law_box_here","_law_size"] zy) (F:Fun K "_law_ground_drawn" "_law_ground_drawn" ql f fd):FnOk P w K mg base CX0 3 f fd ["_law_box_here","_law_top","_law_size"] vv:=by
 refine F.ok qX (λvs H Q E h=>?_) (λcdv A outer s H vs Q E hr h=>?_)
 ·obtain ⟨L,b,tp,sz,rfl,_⟩:=h
  rfl
 ·obtain ⟨L,b,tp,sz,rfl,B,htp,h0,h1,k⟩:=h
  refine ⟨_,(j6 (jG 3 qX.nd (jf c_law_take (hr.mono ⋯) rfl (j0 (pv 0) (j0 j8 j2))))
   (j6 (qq (jX wg (pv 3) j8 (qd _)) (j9 (jj (jA (osc:=(j7 ql)) (ON:=["_law_box_here","_law_top","_law_size","_law_pick","_law_step"]) (N:=["_law_turn","_law_box_here"]) (own:=1) (caps:=[0]) ⟨rfl,∅,∅,∅,rfl,∅⟩ rfl rfl rfl (jZ rfl nb.b_range (j0 (pv 2) j2)) (λ_ _ _ _ _=>(jd (i:=0) (show aR (["_law_turn","_law_box_here"]:List Str) by decide +kernel) rfl (aW rfl))) (λ_ _ _ _ _=>jq) (λ_ _ _ _ _=>(jf c_law_take (hr.mono ⋯) rfl (j0 (pv 1) (j0 j8 j2))))))) jF)
   (j6 (qW (i:=4) qX.nd rfl (dz rfl) (ji jy j8 (jf c_law_take (hr.mono ⋯) rfl (j0 (pv 0) (j0 j8 j2)))))
   (j9 (jj (jA (osc:=(j7 ql)) (ON:=["_law_box_here","_law_top","_law_size","_law_pick","_law_step"]) (N:=["_law_place","_law_top","_law_step"]) (own:=1) (caps:=[1,4]) ⟨rfl,∅,∅,∅,rfl,∅⟩ rfl rfl rfl (jZ rfl nb.b_range (j0 (pv 2) j2)) (λ_ _ _ _ _=>(jd (i:=0) (show aR (["_law_place","_law_top","_law_step"]:List Str) by decide +kernel) rfl (aW rfl))) (λ_ _ _ _ _=>jq) (λ_ _ _ _ _=>(jc (zT rfl) rfl nb.b_max lS (j0 j8 (j0 (ji xn (pv 1) (ji yN (pv 2) (pv 0))) j2)))))))))),?_⟩
  left
  refine ⟨L,b,_,rfl,B,⟨⋯,⋯⟩,λv1 H1 p1 q1 B1 X1=>?_⟩
  left
  refine xo (λ_=>?_) (λ_=>?_)
  ·left
   refine ⟨(),(),λacc hacc=>?_⟩
   have na1:=B1.ne hacc
   have na2:=B1.neL hacc
   refine qu (lo:=0) (n:=sz.toNat) (acc:=acc) (λi σ H2=>∃(x:Option V) (hs:List Int),σ=[x,some (.ref b)]/\qh L H2 b/\H2 acc=some (.lst (hs.map V.int))/\hs.length=i/\(∀x∈hs,0<=x/\x<=99)/\Ext b H1 H2) ?_ ?_ ?_
   ·exact ⟨none,[],rfl,B1.put na1 na2,j4,rfl,(by intro x hx;cases hx),Ext.new hacc⟩
   ·rintro i σ H2 hi ⟨x,hs,rfl,B2,h2,hl,hb,e2⟩
    left
    refine ⟨L,b,_,rfl,B2,⟨⋯,⋯⟩,λv H3 p3 q3 B3 X3=>?_⟩
    have h3:=X3 _ _ h2 na1
    refine ⟨_,h3,by rw [aa];exact ja (),_,hs++[v],rfl,B3.put na1 na2,by rw [j4,aq];rfl,by rw [aw,hl];rfl,λx hx=>?_,λc o hc n=>?_⟩
    ·rcases List.mem_append.mp hx with hx | hx
     ·exact hb x hx
     ·have:x=v:=by simpa using hx
      omega
    ·rw [j5 (j1 hc hacc)]
     exact X3 _ _ (e2 c o hc n) n
   ·rintro σ H2 ⟨x,hs,rfl,B2,h2,hl,hb,e2⟩
    exact k acc H2 hs B2 (X1.trans e2) (X1.free hacc na1) h2 () hb
  ·left
   refine ⟨L,b,_,rfl,B1,⟨⋯,⋯⟩,λv2 H2 p2 q2 B2 X2=>?_⟩
   left
   refine ⟨(),(),λacc hacc=>?_⟩
   have na1:=B2.ne hacc
   have na2:=B2.neL hacc
   refine qu (lo:=0) (n:=sz.toNat) (acc:=acc) (λi σ H3=>∃(x:Option V) (hs:List Int),σ=[x,some (.int tp),some (.int (1+v2))]/\qh L H3 b/\H3 acc=some (.lst (hs.map V.int))/\hs.length=i/\(∀x∈hs,0<=x/\x<=99)/\Ext b H2 H3) ?_ ?_ ?_
   ·exact ⟨none,[],rfl,B2.put na1 na2,j4,rfl,(by intro x hx;cases hx),Ext.new hacc⟩
   ·rintro i σ H3 hi ⟨x,hs,rfl,B3,h3,hl,hb,e3⟩
    left
    have hm:(0:Int)<=(1+v2)*(0+(i:Int)):=ni () ()
    refine ⟨_,_,rfl,?_⟩
    refine ⟨_,h3,by rw [aa];exact ja (),_,hs++[if tp-(1+v2)*(0+(i:Int)) > 0 then tp-(1+v2)*(0+(i:Int)) else 0],rfl,B3.put na1 na2,by rw [j4,aq];rfl,by rw [aw,hl];rfl,λx hx=>?_,λc o hc n=>?_⟩
    ·rcases List.mem_append.mp hx with hx | hx
     ·exact hb x hx
     ·have:x=if tp-(1+v2)*(0+(i:Int)) > 0 then tp-(1+v2)*(0+(i:Int)) else 0:=by simpa using hx
      rw [this]
      split <;> omega
    ·rw [j5 (j1 hc hacc)]
     exact e3 c o hc n
   ·rintro σ H3 ⟨x,hs,rfl,B3,h3,hl,hb,e3⟩
    have hacc1:=X2.free hacc na1
    exact k acc H3 hs B3 ((X1.trans X2).trans e3) (X1.free hacc1 na1) h3 () hb
structure RD (L b tp rw dp:Addr) (H0:Hp):Prop where
 tb:tp≠b
 rb:rw≠b
 db:dp≠b
 tL:tp≠L
 rL:rw≠L
 dL:dp≠L
 tr:tp≠rw
 td:tp≠dp
 rd:rw≠dp
 nt:H0 tp=none
 nr:H0 rw=none
 nd:H0 dp=none
structure RG (L b tp rw dp:Addr) (H0 H:Hp) (ts:List Int) (xs:List V) (rs:List Rch) (ds:List Int):Prop where
 box:qh L H b
 htp:H tp=some (.lst (ts.map V.int))
 hrw:H rw=some (.lst xs)
 hdp:H dp=some (.lst (ds.map V.int))
 rows:jV H xs rs
 ext:Ext b H0 H
section
variable {L b tp rw dp:Addr}{H0 H H':Hp}{ts ds:List Int}{xs:List V}{rs:List Rch}
theorem RG.take (D:RD L b tp rw dp H0) (G:RG L b tp rw dp H0 H ts xs rs ds) (B:qh L H' b) (X:Ext b H H'):RG L b tp rw dp H0 H' ts xs rs ds :=
 ⟨B,X _ _ G.htp D.tb,X _ _ G.hrw D.rb,X _ _ G.hdp D.db,G.rows.keep (by obtain ⟨ns,a,r,c,d,h1,_⟩:=G.box;exact jm.lst X h1),G.ext.trans X⟩
theorem RG.same (G:RG L b tp rw dp H0 H ts xs rs ds) (s:jg H H'):RG L b tp rw dp H0 H' ts xs rs ds :=
 ⟨G.box.same s,s _ _ G.htp,s _ _ G.hrw,s _ _ G.hdp,G.rows.keep (jm.same s),G.ext.trans (Ext.of_same s)⟩
theorem RG.extN {a:Addr}(G:RG L b tp rw dp H0 H ts xs rs ds) (hn:H a=none) (e:Ext a H H'):RG L b tp rw dp H0 H' ts xs rs ds:=G.same λc o h=>e c o h (j1 h hn)
theorem RG.putT (D:RD L b tp rw dp H0) (G:RG L b tp rw dp H0 H ts xs rs ds) (ts':List Int):RG L b tp rw dp H0 (upd H tp (.lst (ts'.map V.int))) ts' xs rs ds :=
 ⟨G.box.put D.tb D.tL,j4,by rw [j5 D.tr.symm];exact G.hrw,by rw [j5 D.td.symm];exact G.hdp,G.rows.keep (jm.lst Ext.put G.htp),λc o h n=>by rw [j5 (j1 h D.nt)];exact G.ext c o h n⟩
theorem RG.putR (D:RD L b tp rw dp H0) (G:RG L b tp rw dp H0 H ts xs rs ds) {v:V}{r:Rch}(q:Ju H v r):RG L b tp rw dp H0 (upd H rw (.lst (xs++[v]))) ts (xs++[v]) (rs++[r]) ds :=
 ⟨G.box.put D.rb D.rL,by rw [j5 D.tr];exact G.htp,j4,by rw [j5 D.rd.symm];exact G.hdp,(G.rows.snoc q).keep (jm.lst Ext.put G.hrw),λc o h n=>by rw [j5 (j1 h D.nr)];exact G.ext c o h n⟩
theorem RG.putD (D:RD L b tp rw dp H0) (G:RG L b tp rw dp H0 H ts xs rs ds) (ds':List Int):RG L b tp rw dp H0 (upd H dp (.lst (ds'.map V.int))) ts xs rs ds' :=
 ⟨G.box.put D.db D.dL,by rw [j5 D.td];exact G.htp,by rw [j5 D.rd];exact G.hrw,j4,G.rows.keep (jm.lst Ext.put G.hdp),λc o h n=>by rw [j5 (j1 h D.nd)];exact G.ext c o h n⟩
end
noncomputable def xK (rs:List Rch):List Int:=(aK rs.length).map λi=>jw rs (qw rs i)
theorem JY {rs:List Rch}{t:Int}{hs:List Int}(G:Grown rs) (h0:0<=t) (h1:t<rs.length) (hx:okR rs.length (t,hs)=true):xK (rs++[(t,hs)])=xK rs++[jw rs (qw rs t.toNat)+hs.length]:=by
 have Ld:=qe G.ok
 unfold xK
 rw [aw,bj,cv,aq]
 congr 1
 ·apply dZ
  intro i hi
  have hi':=List.mem_range.mp hi
  rw [vf Ld hi',xY _ (xS Ld i hi')]
 ·show [jw (rs++[(t,hs)]) (qw (rs++[(t,hs)]) rs.length)]=[_]
  rw [G.deep_snoc h0 h1 hx]
theorem Zw {rs:List Rch}{t:Int}(h0:0<=t) (h1:t<rs.length):atI ((xK rs).map V.int) t=some (.int (jw rs (qw rs t.toNat))):=by
 refine xg h0 ?_
 unfold xK
 rw [aB,aB,fD ()]
 rfl
theorem U5 {i:Nat}{t sz:Int}{hs:List Int}(hi:0<i) (h0:0<=t) (h1:t<i) (hl:(hs.length:Int)=sz) (hz0:1<=sz) (hz1:sz<=12) (hb:∀x∈hs,0<=x/\x<=99):okR i (t,hs)=true:=by
 unfold okR xI
 rw [if_neg (),decide_eq_true (show 0<=t/\t<(i:Int) from ⟨h0,h1⟩),decide_eq_true (show 1<=(hs.length:Int)/\(hs.length:Int)<=12 by omega),fb,fb,bY]
 intro x hx
 exact decide_eq_true (hb x hx)
noncomputable def wF:Sp:=λvs H Q _=>∃(L b:Addr),vs=[.ref b]/\qh L H b/\∀p H' xs rs,qh L H' b->Ext b H H'->H p=none->H' p=some (.lst xs)->jV H' xs rs->Grown rs->1<=rs.length->rs.length<=8->Q (.ref p) H'
theorem jI:FnScope ["_law_box_here","_law_tops","_law_sizes","_law_rows","_law_deep","_law_number","_law_to","_law_led","_law_heads","_law_size"] ["_law_box_here"] (j7 qZ):=by walk_at "s"
theorem WS {v:Int}(a:0<=v) (b:v<3):∃n,atI [V.int 1,V.int 3,V.int 8] v=some (V.int n)/\0<n/\n<=8:=by
 have h:v=0\/v=1\/v=2:=()
 rcases h with rfl | rfl | rfl
 ·exact ⟨1,rfl,(),()⟩
 ·exact ⟨3,rfl,(),()⟩
 ·exact ⟨8,rfl,(),()⟩
theorem Xn {f:Addr}{fd:FuncData}(nb:Nb2 mg) (c_law_take:Cal P w K mg base 2 "_law_take" ["_law_box_here","_law_size"] zy) (c_law_ground_drawn:Cal P w K mg base 3 "_law_ground_drawn" ["_law_box_here","_law_top","_law_size"] vv) (F:Fun K "_law_reaches" "_law_reaches" qZ f fd):FnOk P w K mg base CX0 4 f fd ["_law_box_here"] wF:=by
 refine F.ok jI (λvs H Q E h=>?_) (λcdv A outer s H vs Q E hr h=>?_)
 ·obtain ⟨L,b,rfl,_⟩:=h
  rfl
 ·obtain ⟨L,b,rfl,B,k⟩:=h
  refine ⟨_,(j6 (jG 1 jI.nd (jU (j0 (ji jy j8 (jf c_law_take (hr.mono ⋯) rfl (j0 (pv 0) (j0 j8 j2)))) j2)))
   (j6 (jG 2 jI.nd (jU (j0 (ji jy j8 (jf c_law_take (hr.mono ⋯) rfl (j0 (pv 0) (j0 j8 j2)))) j2)))
   (j6 (jG 3 jI.nd (jU (j0 (xN (j0 (ji xn j8 j8) (j0 (qk (zo K) rfl nb.b_tuple de (j0 (jf c_law_ground_drawn (hr.mono ⋯) rfl (j0 (pv 0) (j0 (jn (je K) (pv 1) j8 (λ_ _=>rfl)) (j0 (jn (je K) (pv 2) j8 (λ_ _=>rfl)) j2)))) j2)) j2))) j2)))
   (j6 (jG 4 jI.nd (jU (j0 (jn (je K) (pv 2) j8 (λ_ _=>rfl)) j2)))
   (j6 (xD bI rfl (Yi rfl nb.b_range (j0 j8 (j0 (ji jy j8 (jf c_law_take (hr.mono ⋯) rfl (j0 (pv 0) (j0 (jn (je K) (jU (j0 j8 (j0 j8 (j0 j8 j2)))) (jf c_law_take (hr.mono ⋯) rfl (j0 (pv 0) (j0 j8 j2))) (λ_ _=>rfl)) j2)))) j2))) (jd (i:=5) jI.nd rfl (aW rfl)) (j6 (jG 6 jI.nd (jf c_law_take (hr.mono ⋯) rfl (j0 (pv 0) (j0 (pv 5) j2))))
   (j6 (qW (i:=7) jI.nd rfl (dz rfl) (jA (osc:=(j7 qZ)) (ON:=["_law_box_here","_law_tops","_law_sizes","_law_rows","_law_deep","_law_number","_law_to","_law_led","_law_heads","_law_size"]) (N:=["_law_row_here"]) (own:=1) (caps:=[]) ⟨rfl,∅,∅,∅,rfl,∅⟩ rfl rfl rfl (jL K (pv 3)) (λ_ _ _ _ _=>(jd (i:=0) (show aR (["_law_row_here"]:List Str) by decide +kernel) rfl (aW rfl))) (λ_ _ _ _ _=>jq) (λ_ _ _ _ _=>(jn (qM K) (pv 0) j8 (λ_ _=>rfl)))))
   (j6 (jG 8 jI.nd (jc (jh K) rfl nb.b_len ba (j0 (jA (osc:=(j7 qZ)) (ON:=["_law_box_here","_law_tops","_law_sizes","_law_rows","_law_deep","_law_number","_law_to","_law_led","_law_heads","_law_size"]) (N:=["_law_one","_law_led"]) (own:=1) (caps:=[7]) ⟨rfl,∅,∅,∅,rfl,∅⟩ rfl rfl rfl (jZ rfl nb.b_range (j0 (pv 5) j2)) (λ_ _ _ _ _=>(jd (i:=0) (show aR (["_law_one","_law_led"]:List Str) by decide +kernel) rfl (aW rfl))) (λ_ _ _ _ _=>(yJ (jX (xM K) (pv 0) (pv 1) (by with_unfolding_all rfl)))) (λ_ _ _ _ _=>(pv 0))) j2)))
   (wA (qq (PW.pt (WW (jX wg (pv 8) j8 (qd _)) (Ub (jX (Xz K) (pv 6) (pv 7) (by with_unfolding_all rfl))))) (j9 (jG 6 jI.nd (ji xn (pv 5) j8))) jF)
   (j9 (qq (jX we (jn (je K) (pv 4) (pv 6) (λ_ _=>rfl)) j8 (qd _)) (j6 (jG 9 jI.nd (ji jy j8 (jf c_law_take (hr.mono ⋯) rfl (j0 (pv 0) (j0 (jc (uE rfl) rfl nb.b_min t9 (j0 j8 (j0 (ji xn j8 (jn (je K) (pv 4) (pv 6) (λ_ _=>rfl))) j2))) j2)))))
   (j6 (qa (yE K bZ bU bV qx (pv 1) (j0 (jc (uE rfl) rfl nb.b_min t9 (j0 j8 (j0 (ji jy (jn (je K) (pv 1) (pv 6) (λ_ _=>rfl)) (jf c_law_take (hr.mono ⋯) rfl (j0 (pv 0) (j0 j8 j2)))) j2))) j2)))
   (j6 (qa (yE K bZ bU bV qx (pv 3) (j0 (xN (j0 (pv 6) (j0 (qk (zo K) rfl nb.b_tuple de (j0 (jf c_law_ground_drawn (hr.mono ⋯) rfl (j0 (pv 0) (j0 (jn (je K) (pv 1) (vq zM j8) (λ_ _=>rfl)) (j0 (pv 9) j2)))) j2)) j2))) j2)))
   (j9 (qa (yE K bZ bU bV qx (pv 4) (j0 (ji jy (jn (je K) (pv 4) (pv 6) (λ_ _=>rfl)) (pv 9)) j2))))))) (j9 (jj (pv 3))))))))))
   (j9 (jj (pv 3)))))))),?_⟩
  left
  refine ⟨L,b,_,rfl,B,⟨⋯,⋯⟩,λv1 H1 p1 q1 B1 X1=>?_⟩
  left
  refine ⟨by show 1<=sizeLine;decide,λtp H2 htp htp2 s2=>?_⟩
  have B2:=B1.same s2
  left
  refine ⟨L,b,_,rfl,B2,⟨⋯,⋯⟩,λv2 H3 p3 q3 B3 X3=>?_⟩
  have tb:=B1.ne htp
  have tL:=B1.neL htp
  left
  refine ⟨by show 1<=sizeLine;decide,λsz H4 hsz hsz4 s4=>?_⟩
  have B4:=B3.same s4
  have htp4:=s4 _ _ (X3 _ _ htp2 tb)
  left
  refine ⟨L,b,20+v1,1+v2,rfl,B4,(),(),(),λgl H5 hs B5 X5 hgl hgl5 hl hb=>?_⟩
  have szb:=B3.ne hsz
  have htp5:=X5 _ _ htp4 tb
  have hsz5:=X5 _ _ hsz4 szb
  refine ⟨gl,_,rfl,SqL.of hgl5,λgt H6 hgt hgt6 s6=>?_⟩
  refine ⟨by show 2<=sizeLine;decide,λrt H7 hrt hrt7 s7=>?_⟩
  refine ⟨by show 1<=sizeLine;decide,λrw H8 hrw hrw8 s8=>?_⟩
  have B8:=((B5.same s6).same s7).same s8
  have sm58:jg H5 H8:=(s6.trans s7).trans s8
  have hsz8:=sm58 _ _ hsz5
  have htp8:=sm58 _ _ htp5
  have hrw5:H5 rw=none:=(s6.trans s7).free hrw
  have B7:=(B5.same s6).same s7
  have rb:=B7.ne hrw
  have rL:=B7.neL hrw
  have tr:tp≠rw:=j1 ((s6.trans s7) _ _ htp5) hrw
  left
  refine ⟨by show 1<=sizeLine;decide,λdp H9 hdp hdp9 s9=>?_⟩
  have db:=B8.ne hdp
  have dL:=B8.neL hdp
  have td:tp≠dp:=j1 htp8 hdp
  have rd:rw≠dp:=j1 hrw8 hdp
  have nz:∀a,H8 a=none->a≠b->a≠L->H a=none:=λa ha ab aL=>by
   have a5:=sm58.free ha
   have a4:=X5.free a5 ab
   exact X1.free (s2.free (X3.free (s4.free a4) ab)) ab
  have nt:H tp=none:=X1.free htp tb
  have nr:H rw=none:=X1.free (s2.free (X3.free (s4.free (X5.free hrw5 rb)) rb)) rb
  have nd:H dp=none:=nz dp hdp db dL
  have D:RD L b tp rw dp H:=⟨tb,rb,db,tL,rL,dL,tr,td,rd,nt,nr,nd⟩
  have ok0:uK [((0-1:Int),hs)]=true:=by
   unfold uK okR xI
   simp only [bj,List.range_one,nN,List.all_nil,Bool.and_true]
   show (decide ((0-1:Int) = -1) && decide (1<=(hs.length:Int)/\(hs.length:Int)<=12) && hs.all λx=>decide (0<=x/\x<=99))=true
   rw [decide_eq_true (show 1<=(hs.length:Int)/\(hs.length:Int)<=12 by omega),bh,bY]
   exact ⟨rfl,λx hx=>decide_eq_true (hb x hx)⟩
  have rd0:qw [((0-1:Int),hs)] 0=[0]:=rfl
  have pl0:jw [((0-1:Int),hs)] [0]=hs.length:=by unfold jw;simp [zO]
  have G0:Grown [((0-1:Int),hs)]:=by
   refine ⟨ok0,aI (bG _ _) (by simp),λi hi=>?_⟩
   have:i=0:=by simp at hi;exact hi
   subst this
   rw [rd0,pl0]
   omega
  have ext8:Ext b H H8:=((((X1.trans (Ext.of_same s2)).trans X3).trans (Ext.of_same s4)).trans X5).trans (Ext.of_same sm58)
  have RG0:RG L b tp rw dp H H9 [20+v1] [.ref rt] [((0-1:Int),hs)] (xK [((0-1:Int),hs)]):=by
   refine ⟨B8.same s9,s9 _ _ htp8,s9 _ _ hrw8,?_,.cons ⟨rt,gt,rfl,s9 _ _ (s8 _ _ hrt7),s9 _ _ (s8 _ _ (s7 _ _ hgt6))⟩ .nil,ext8.trans (Ext.of_same s9)⟩
   rw [hdp9]
   show some (HO.lst [V.int (1+v2)])=some (.lst [V.int (jw [((0-1:Int),hs)] (qw [((0-1:Int),hs)] 0))])
   rw [rd0,pl0,hl]
  left
  refine ⟨by show 3<=sizeLine;decide,λq3' H10 hq hq10 s10=>?_⟩
  have RG1:=RG0.same s10
  left
  refine ⟨L,b,_,rfl,RG1.box,⟨⋯,⋯⟩,λv3 H11 p11 q11 B11 X11=>?_⟩
  have RG2:=RG1.take D B11 X11
  have hq11:=X11 _ _ hq10 (RG0.box.ne hq)
  obtain ⟨n,hn,n0,n8⟩:=WS p11 q11
  refine ⟨_,_,_,_,rfl,rfl,SqL.of hq11,hn,?_⟩
  refine ⟨L,b,_,rfl,B11,⟨n0,()⟩,λv4 H12 p12 q12 B12 X12=>?_⟩
  have RG3:=RG2.take D B12 X12
  left
  refine ⟨1,1+v4,rfl,⟨(),(),(),()⟩,?_⟩
  have ht99:∀t∈[20+v1],t<=99:=λt ht=>by
   have:t=20+v1:=by simpa using ht
   omega
  have done:∀(H':Hp) ts xs rs ds,RG L b tp rw dp H H' ts xs rs ds->Grown rs->1<=rs.length->rs.length<=8->Q (.ref rw) H':=λH' ts xs rs ds G gr h1 h8=>k rw H' xs rs G.box G.ext nr G.hrw G.rows gr h1 h8
  refine zh (lo:=1) (n:=(1+v4-1).toNat) (λi σ H'=>∃(v5 v6 v7 v8 v9:Option V) (ts:List Int) (xs:List V) (rs:List Rch),σ=[some (.ref b),some (.ref tp),some (.ref sz),some (.ref rw),some (.ref dp),v5,v6,v7,v8,v9]/\RG L b tp rw dp H H' ts xs rs (xK rs)/\Grown rs/\rs.length=i+1/\ts.length=i+1/\∀t∈ts,t<=99) ⟨_,_,_,_,_,_,_,_,rfl,RG3,G0,rfl,rfl,ht99⟩ ?_ ?_
  ·rintro i σ H' hi ⟨v5,v6,v7,v8,v9,ts,xs,rs,rfl,G,gr,hrl,htl,htb⟩
   have Ld:=qe gr.ok
   have hxl:=G.rows.length
   left
   refine ⟨L,b,_,rfl,G.box,⟨(),()⟩,λt Ha ha0 ha1 Ba Xa=>?_⟩
   have Ga:=G.take D Ba Xa
   left
   refine ⟨⟨_,SqL.of Ga.hrw⟩,λld hld=>?_⟩
   refine jK (K:=K) (a:=rw) (xs:=xs) (acc:=ld) (λj σ H2=>∃x:Option V,σ=[x]/\H2 ld=some (.lst (((rs.take j).map (·.1)).map V.int))/\Ext ld Ha H2) ?_ ?_ ?_ ?_
   ·exact ⟨none,rfl,j4,Ext.put⟩
   ·rintro j σ H2 hj ⟨x,rfl,h3,e3⟩
    exact SqL.of (e3 _ _ Ga.hrw (j1 Ga.hrw hld))
   ·rintro j v σ H2 hv ⟨x,rfl,h3,e3⟩
    obtain ⟨r,hr,q,g,rfl,hq,hg⟩:=(Ga.rows.keep (jm.new e3 hld)).get hv
    have hj:j<rs.length:=(List.getElem?_eq_some_iff.mp hr).1
    left
    refine ⟨_,h3,by rw [aa,aa,aF];exact ja (),_,rfl,?_,e3.trans Ext.put⟩
    rw [j4,qz (λr:Rch=>r.1) rs j r hr,aq]
    rfl
   ·rintro σ H2 ⟨x,rfl,h3,e3⟩
    rw [hxl,aS] at h3
    have Gb:=Ga.extN hld e3
    left
    refine ⟨(),(),λhd hhd=>?_⟩
    have en:(1+(i:Int)).toNat=rs.length:=()
    refine qu (lo:=0) (n:=(1+(i:Int)).toNat) (acc:=hd) (λj σ H3=>∃(x:Option V) (vs:List V),σ=[x,some (.ref ld)]/\H3 hd=some (.lst vs)/\vs.length=((aK j).filter (jO rs)).length/\Ext hd H2 H3) ?_ ?_ ?_
    ·exact ⟨none,[],rfl,j4,rfl,Ext.put⟩
    ·rintro j σ H3 hj ⟨x,vs,rfl,h4,l4,e4⟩
     have er:((aK (j+1)).filter (jO rs)).length=((aK j).filter (jO rs)).length+(if jO rs j=true then 1 else 0):=by
      rw [cv,bT,aw]
      congr 1
      by_cases z:jO rs j=true
      ·rw [if_pos z];simp [z]
      ·rw [if_neg z];simp [z]
     have hfl:((aK j).filter (jO rs)).length<=j:=aI (bG _ _) (by rw [bF];exact ar _)
     left
     refine ⟨ld,_,rfl,.inl (SqL.of (e4 _ _ h3 (j1 h3 hhd))),rfl,zX _,?_⟩
     left
     rw [d5,yI]
     refine y4 (λhin=>?_) (λhin=>?_)
     ·have hb:jO rs j=true:=by unfold jO;rw [decide_eq_false (show ¬(j:Int)∈tos rs from hin)];rfl
      left
      refine ⟨vs,h4,ja (),_,_,rfl,j4,?_,e4.trans Ext.put⟩
      rw [aw,bj,er,if_pos hb,l4]
     ·have hb:¬jO rs j=true:=by unfold jO;rw [decide_eq_true (show (j:Int)∈tos rs from hin)];exact au
      exact ⟨_,vs,rfl,h4,by rw [er,if_neg hb,l4,Nat.add_zero],e4⟩
    ·rintro σ H3 ⟨x,vs,rfl,h4,l4,e4⟩
     have Gc:=Gb.extN hhd e4
     have hld4:=e4 _ _ h3 (j1 h3 hhd)
     rw [en] at l4
     have l4':vs.length=(jp rs).length:=l4
     refine ⟨_,_,rfl,.inl (SqL.of h4),?_⟩
     refine ⟨λσ H5=>∃t':Int,σ=[some (.ref b),some (.ref tp),some (.ref sz),some (.ref rw),some (.ref dp),some (.int (1+(i:Int))),some (.int t'),some (.ref ld),some (.int vs.length),v9]/\H5=H3/\0<=t'/\t'<rs.length/\(t'∈tos rs->(jp rs).length<6),?_,?_⟩
     ·have hh:=gr.heads
      left
      refine xo (λh6=>?_) (λh6=>?_)
      ·left
       refine ⟨ld,_,rfl,.inl (SqL.of hld4),rfl,zX _,?_⟩
       left
       rw [yI]
       refine xo (λhin=>?_) (λhin=>?_)
       ·left
        refine ⟨(),(),λz=>?_⟩
        have:=Xi Ld z
        omega
       ·exact ⟨t,rfl,rfl,ha0,(),λz=>absurd z hin⟩
      ·have:(jp rs).length<6:=by
        have:(vs.length:Int)≠6:=λz=>h6 (by rw [z])
        omega
       exact ⟨t,rfl,rfl,ha0,(),λ_=>this⟩
     ·rintro σ H5 ⟨t',rfl,rfl,t0,t1,th⟩
      have hde:=Zw t0 t1
      left
      refine ⟨_,_,_,_,rfl,rfl,SqL.of Gc.hdp,hde,?_⟩
      left
      refine xo (λh30=>?_) (λh30=>?_)
      ·have hdp0:=gr.deep t'.toNat ()
       generalize hdt:jw rs (qw rs t'.toNat)=dt at hde h30 hdp0
       left
       refine ⟨_,_,_,_,rfl,rfl,SqL.of Gc.hdp,hde,?_⟩
       left
       refine ⟨_,_,rfl,?_⟩
       refine ⟨L,b,_,rfl,Gc.box,⟨by split <;> omega,by split <;> omega⟩,λv5' H6 p6 q6 B6 X6=>?_⟩
       have Gd:=Gc.take D B6 X6
       have hz12:1+v5'<=12/\dt+(1+v5')<=30:=by
        have q6':=q6
        split at q6' <;> omega
       left
       refine ⟨.inl ⟨rfl,_,SqL.of Gd.htp⟩,?_⟩
       left
       have hti:t'.toNat<ts.length:=()
       refine ⟨_,_,_,_,rfl,rfl,SqL.of Gd.htp,xg t0 (by rw [aB,ae hti];rfl),?_⟩
       left
       refine ⟨L,b,_,rfl,Gd.box,⟨⋯,⋯⟩,λv6' H7 p7 q7 B7 X7=>?_⟩
       have Ge:=Gd.take D B7 X7
       left
       refine ⟨_,_,rfl,?_⟩
       generalize hnew:(if ts[t'.toNat]'hti+v6'<99 then ts[t'.toNat]'hti+v6' else 99)=new
       have hnew99:new<=99:=by rw [<- hnew];split <;> omega
       left
       refine ⟨tp,_,_,rfl,rfl,Ge.htp,by rw [aa];exact ja (),?_⟩
       have Gf:RG L b tp rw dp H (upd H7 tp (.lst (ts.map V.int++[V.int new]))) (ts++[new]) xs rs (xK rs):=by
        have:=Ge.putT D (ts++[new])
        rw [aq] at this
        exact this
       left
       refine ⟨.inl ⟨rfl,_,SqL.of Gf.hrw⟩,?_⟩
       left
       refine ⟨_,_,_,_,rfl,rfl,SqL.of j4,Qn _ _,?_⟩
       left
       refine ⟨L,b,new,1+v5',rfl,Gf.box,hnew99,(),(),λgl' H8 hs' B8' X8 hgl' hgl8 hl' hb'=>?_⟩
       have Gg:=Gf.take D B8' X8
       refine ⟨gl',_,rfl,SqL.of hgl8,λgt' H9' hgt' hgt9 s9'=>?_⟩
       refine ⟨by show 2<=sizeLine;decide,λrt' H10' hrt' hrt10 s10'=>?_⟩
       have Gh:=(Gg.same s9').same s10'
       left
       refine ⟨rw,_,_,rfl,rfl,Gh.hrw,ja (),?_⟩
       have okn:okR rs.length (t',hs')=true:=U5 () t0 t1 hl' () () hb'
       have Gi:=Gh.putR D (v:=.ref rt') (r:=(t',hs')) ⟨rt',gt',rfl,hrt10,s10' _ _ hgt9⟩
       left
       refine ⟨.inl ⟨rfl,_,SqL.of Gi.hdp⟩,?_⟩
       left
       refine ⟨_,_,_,_,rfl,rfl,SqL.of Gi.hdp,hde,?_⟩
       left
       have hdl:(xK rs).length=rs.length:=by unfold xK;simp
       refine ⟨dp,_,_,rfl,rfl,Gi.hdp,by rw [aa];exact ja (),?_⟩
       have Gj:RG L b tp rw dp H (upd (upd H10' rw (.lst (xs++[.ref rt']))) dp (.lst ((xK rs).map V.int++[V.int (dt+(1+v5'))]))) (ts++[new]) (xs++[.ref rt']) (rs++[(t',hs')]) (xK (rs++[(t',hs')])):=by
        have:=Gi.putD D (xK rs++[dt+(1+v5')])
        rw [aq] at this
        rw [JY gr t0 t1 okn,hdt,hl']
        exact this
       refine ⟨_,_,_,_,_,_,_,_,rfl,Gj,gr.snoc t0 t1 okn th (by rw [hdt];omega),by rw [aw,hrl];rfl,by rw [aw,htl];rfl,λt ht=>?_⟩
       rcases List.mem_append.mp ht with ht | ht
       ·exact htb t ht
       ·have:t=new:=by simpa using ht
        omega
      ·left
       exact done _ _ _ _ _ Gc gr () ()
  ·rintro σ H' ⟨v5,v6,v7,v8,v9,ts,xs,rs,rfl,G,gr,hrl,htl,htb⟩
   left
   exact done _ _ _ _ _ G gr () ()
noncomputable def ZQ (t:TE):Prop:=∀σ H Q Q',(∀v H,Q v H->Q' v H)->t σ H Q->t σ H Q'
noncomputable def Va (r:R2):Prop:=∀x y H Q Q',(∀v H,Q v H->Q' v H)->r x y H Q->r x y H Q'
theorem Zq (i:Nat):ZQ (Xl i):=λ_ _ _ _ h ⟨v,e,q⟩=>⟨v,e,h _ _ q⟩
theorem Zu (v:V):ZQ (tC v):=λ_ _ _ _ h q=>h _ _ q
theorem kg {r:R2}{ta tb:TE}(hr:Va r) (ha:ZQ ta) (hb:ZQ tb):ZQ (tOp r ta tb):=λσ H Q Q' h q=>ha σ H _ _ (λx H1 q1=>hb σ H1 _ _ (λy H2 q2=>hr x y H2 _ _ h q2) q1) q
theorem Zp (K:aj):Va (U8 K):=λ_ _ _ _ _ h ⟨a,xs,i,v,e1,e2,e3,e4,q⟩=>⟨a,xs,i,v,e1,e2,e3,e4,h _ _ q⟩
theorem UE (K:aj):Va (Wm K):=λ_ _ _ _ _ h ⟨a,xs,i,v,e1,e2,e3,e4,q⟩=>⟨a,xs,i,v,e1,e2,e3,e4,h _ _ q⟩
theorem WZ (g:Int->Int->V):Va (rI0 g):=λ_ _ _ _ _ h ⟨i,j,e1,e2,q⟩=>⟨i,j,e1,e2,h _ _ q⟩
theorem WN:Va rNe:=λ_ _ _ _ _ h ⟨e,q⟩=>⟨e,h _ _ q⟩
theorem YX {t:TE}(ht:ZQ t):∀σ H Q Q',(∀b H1,Q b H1->Q' b H1)->QJ t σ H Q->QJ t σ H Q':=λσ H Q Q' h q=>ht σ H _ _ (λ_ _ ⟨k,e,q⟩=>⟨k,e,h _ _ q⟩) q
theorem Q8 {α:Type}{x:α}{l:List α}:atI (x::l) 0=some x:=zB (j:=0) rfl
noncomputable def vV (fd:Addr) (H:Hp) (vs:List V) (rows:List (List Int)):Prop:=ck (λv (r:List Int)=>∃a,v=V.ref a/\a≠fd/\H a=some (.lst (r.map V.int))) vs rows
theorem vV.ext {fd:Addr}{H H':Hp}{vs:List V}{rows:List (List Int)}(h:vV fd H vs rows) (e:Ext fd H H'):vV fd H' vs rows:=Paired.mapP h λ_ _ ⟨a,e1,n,q⟩=>⟨a,e1,n,e _ _ q n⟩
theorem vV.rowsI {fd:Addr}{H:Hp}{vs:List V}{rows:List (List Int)}(h:vV fd H vs rows):yx H vs rows:=Paired.mapP h λ_ _ ⟨a,e1,n,q⟩=>⟨a,e1,q⟩
theorem wI {H:Hp}{vs:List V}{ws:List (List Int)}(h:yx H vs ws):∀ix:List Nat,(∀i∈ix,i<vs.length)->yx H (ix.map λi=>vs.getD i V.non) (ix.map λi=>ws.getD i [])
 | [],_=>.nil
 | i::ix,hb=>by
  refine .cons ?_ (wI h ix λj hj=>hb j (az _ hj))
  have hi:=hb i aG
  obtain ⟨y,e2,a,e3,e4⟩:=Paired.get h (ae hi)
  refine ⟨a,?_,?_⟩
  ·show vs.getD i V.non=V.ref a
   rw [ak,ae hi];exact e3
  ·show H a=some (.lst ((ws.getD i []).map V.int))
   rw [ak,e2];exact e4
noncomputable def Qa (K:aj):Sp:=λvs H Q _=>∃(p:Addr) (xs:List V) (rs:List Rch),vs=[.ref p]/\H p=some (.lst xs)/\jV H xs rs/\xl rs/\rs.length<=60/\∀l H' out ws,H l=none->H' l=some (.lst out)->yx H' out ws->jY rs ws->jg H H'->Q (.ref l) H'
theorem qS:FnScope ["_law_reaches_here","_law_led","_law_found","_law_head","_law_road"] ["_law_reaches_here"] (j7 xX):=by walk_at "s"
theorem VL {f:Addr}{fd:FuncData}(nb:Nb2 mg) (F:Fun K "_law_roads" "_law_roads" xX f fd):FnOk P w K mg base CX0 1 f fd ["_law_reaches_here"] (Qa K):=by
 refine F.ok qS (λvs H Q E h=>?_) (λcdv A outer s H vs Q E hr h=>?_)
 ·obtain ⟨p,xs,rs,rfl,_⟩:=h
  rfl
 ·obtain ⟨p,xs,rs,rfl,hp,hrw,L,h60,k⟩:=h
  have hlen:=hrw.length
  refine ⟨_,(j6 (vh (j:=1) (osc:=(j7 xX)) (ON:=["_law_reaches_here","_law_led","_law_found","_law_head","_law_road"]) (N:=["_law_to","_law_ground_here"]) (own:=2) (caps:=[]) ⟨rfl,∅,∅,∅,rfl,∅⟩ qS.nd rfl (aW rfl) rfl rfl rfl (jL K (pv 0)) (λ_ _ _ _ _=>(qT (n:=2) K rfl (js (jd (i:=0) (show aR (["_law_to","_law_ground_here"]:List Str) by decide +kernel) rfl (aW rfl)) (js (jd (i:=1) (show aR (["_law_to","_law_ground_here"]:List Str) by decide +kernel) rfl (aW rfl)) qL)))) (λ_ _ _ _ _=>jq) (λ_ _ _ _ _=>(pv 0)))
   (j6 (jG 2 qS.nd (jU j2))
   (j6 (xD bI rfl (jZ rfl nb.b_range (j0 (jc (jh K) rfl nb.b_len ba (j0 (pv 0) j2)) j2)) (jd (i:=3) qS.nd rfl (aW rfl)) (j9 (qq (jX (xM K) (pv 3) (pv 1) (by with_unfolding_all rfl)) (j6 (jG 4 qS.nd (jU (j0 (pv 3) j2)))
   (j6 (Qm bI (jX VT (jn (qM K) (jn (je K) (pv 0) (jn (je K) (pv 4) j8 (λ_ _=>rfl)) (λ_ _=>rfl)) j8 (λ_ _=>rfl)) (ji xn j8 j8) (qd _)) (j9 (jG 4 qS.nd (ji ut (jU (j0 (jn (qM K) (jn (je K) (pv 0) (jn (je K) (pv 4) j8 (λ_ _=>rfl)) (λ_ _=>rfl)) j8 (λ_ _=>rfl)) j2)) (pv 4)))))
   (j9 (qa (yE K bZ bU bV qx (pv 2) (j0 (pv 4) j2)))))) jF)))
   (j9 (jj (jA (osc:=(j7 xX)) (ON:=["_law_reaches_here","_law_led","_law_found","_law_head","_law_road"]) (N:=["_law_road"]) (own:=1) (caps:=[]) ⟨rfl,∅,∅,∅,rfl,∅⟩ rfl rfl rfl (jL K (jc (kX K hr.units) rfl nb.b_sorted n5 (j0 (pv 2) j2))) (λ_ _ _ _ _=>(jd (i:=0) (show aR (["_law_road"]:List Str) by decide +kernel) rfl (aW rfl))) (λ_ _ _ _ _=>jq) (λ_ _ _ _ _=>(U9 K (pv 0))))))))),?_⟩
  left
  refine ⟨⟨_,SqL.of hp⟩,λen hen=>?_⟩
  refine jK (K:=K) (a:=p) (xs:=xs) (acc:=en) (λj σ H2=>∃x y:Option V,σ=[x,y]/\H2 en=some (.lst (((rs.take j).map (·.1)).map V.int))/\Ext en H H2) ?_ ?_ ?_ ?_
  ·exact ⟨none,none,rfl,j4,Ext.put⟩
  ·rintro j σ H2 hj ⟨x,y,rfl,h3,e3⟩
   exact SqL.of (e3 _ _ hp (j1 hp hen))
  ·rintro j v σ H2 hv ⟨x,y,rfl,h3,e3⟩
   obtain ⟨r,hr,q,g,rfl,hq,hg⟩:=(hrw.keep (jm.new e3 hen)).get hv
   have hj:j<rs.length:=(List.getElem?_eq_some_iff.mp hr).1
   left
   refine ⟨q,_,rfl,SqT.of hq,rfl,?_⟩
   refine ⟨_,_,rfl,_,_,rfl,rfl,?_⟩
   left
   refine ⟨_,h3,by rw [aa,aa,aF];exact ja (),_,_,rfl,?_,e3.trans Ext.put⟩
   rw [j4,qz (λr:Rch=>r.1) rs j r hr,aq]
   rfl
  ·rintro σ H2 ⟨x,y,rfl,h3,e3⟩
   rw [hlen,aS] at h3
   have sm2:jg H H2:=λc o hc=>e3 c o hc (j1 hc hen)
   left
   refine ⟨aQ _,λfo H3 hfo hfo3 s3=>?_⟩
   have hp3:=s3 _ _ (sm2 _ _ hp)
   have hrw3:jV H3 xs rs:=hrw.keep (jm.same (sm2.trans s3))
   have hen3:=s3 _ _ h3
   have hfoH:H fo=none:=sm2.free hfo
   left
   refine ⟨_,_,rfl,.inl (SqL.of hp3),?_⟩
   refine ⟨_,rfl,(),(),?_⟩
   rw [hlen]
   refine zh (lo:=0) (n:=((rs.length:Nat):Int).toNat) (λj σ H4=>∃(v3 v4:Option V) (vs:List V),σ=[some (.ref p),some (.ref en),some (.ref fo),v3,v4]/\H4 fo=some (.lst vs)/\vV fo H4 vs (((aK j).filter (jO rs)).map λh=>(qw rs h).reverse)/\Ext fo H3 H4/\vs.length<=j) ?_ ?_ ?_
   ·exact ⟨_,_,[],rfl,hfo3,.nil,Ext.refl,ar _⟩
   ·rintro j σ H4 hj ⟨v3,v4,vs,rfl,h4,w4,e4,l4⟩
    have hj':j<rs.length:=()
    have kt4:jm H3 H4:=jm.lst e4 hfo3
    have hen4:=e4 _ _ hen3 (j1 h3 hfo)
    have hp4:=e4 _ _ hp3 (j1 (sm2 _ _ hp) hfo)
    have hrw4:jV H4 xs rs:=hrw3.keep kt4
    have er:(aK (j+1)).filter (jO rs)=(aK j).filter (jO rs)++(if jO rs j=true then [j] else []):=by
     rw [cv,bT]
     congr 1
     by_cases z:jO rs j=true
     ·rw [if_pos z];simp [z]
     ·rw [if_neg z];simp [z]
    left
    refine ⟨en,_,rfl,.inl (SqL.of hen4),rfl,zX _,?_⟩
    left
    rw [d5,yI]
    refine y4 (λhin=>?_) (λhin=>?_)
    ·have hb:jO rs j=true:=by unfold jO;rw [decide_eq_false (show ¬(j:Int)∈tos rs from hin)];rfl
     left
     refine ⟨by show 1<=sizeLine;decide,λr0 H5 hr0 hr05 s5=>?_⟩
     left
     refine QS (λσ H6=>∃(a:Addr) (r:Nat) (l:List Int),σ=[some (.ref p),some (.ref en),some (.ref fo),some (.int (j:Int)),some (.ref a)]/\jg H4 H6/\H4 a=none/\H6 a=some (.lst (((r:Int)::l).map V.int))/\r<rs.length/\l.length+r<=100/\l.reverse++qw rs r=qw rs j) (λσ H6=>match σ with | [_,_,_,_,some (.ref a)]=>(match H6 a with | some (.lst (.int r::_))=>r.toNat | _=>0) | _=>0) ?_ ?_ ?_
     ·exact ⟨r0,j,[],rfl,s5,hr0,hr05,hj',by simp;omega,rfl⟩
     ·rintro σ H6 ⟨a,r,l,rfl,s6,ha4,ha6,hrl,hll,heq⟩
      have hp6:=s6 _ _ hp4
      obtain ⟨v,hv,q,g,rfl,hq,hg⟩:=(hrw4.keep (jm.same s6)).at (ae hrl)
      have ht:=L.lt hrl
      have hl3:=wO (L _ hrl)
      have et:=JK (ae hrl)
      rw [et] at ht hl3
      generalize (rs[r]'hrl).1=tt at ht hl3 et hq
      left
      refine ⟨_,_,_,_,rfl,rfl,SqL.of ha6,Q8,?_⟩
      refine ⟨_,_,_,_,rfl,rfl,SqL.of hp6,zB hv,?_⟩
      refine ⟨_,_,_,_,rfl,rfl,SqT.of hq,rfl,?_⟩
      left
      refine y4 (λhne=>?_) (λhne=>?_)
      ·have htt:0<=tt:=by
        have:tt ≠ -1:=λz=>hne (by rw [z];rfl)
        omega
       left
       refine ⟨_,_,_,_,rfl,rfl,SqL.of ha6,Q8,?_⟩
       refine ⟨_,_,_,_,rfl,rfl,SqL.of hp6,zB hv,?_⟩
       refine ⟨_,_,_,_,rfl,rfl,SqT.of hq,rfl,?_⟩
       refine ⟨by show 1<=sizeLine;decide,λc1 H7 hc1 hc17 s7=>?_⟩
       left
       refine ⟨c1,a,_,_,rfl,rfl,hc17,s7 _ _ ha6,?_,λc2 H8 hc2 hc28 s8=>?_⟩
       ·show 1+(((r:Int)::l).map V.int).length<=sizeLine
        rw [aa,b7]
        exact cJ (ja ())
       ·have ett:tt=((tt.toNat:Nat):Int):=()
        refine ⟨⟨c2,tt.toNat,(r:Int)::l,rfl,(s6.trans s7).trans s8,(s6.trans s7).free hc2,?_,(),?_,?_⟩,?_⟩
        ·rw [hc28,ett]
         simp only [bb]
         rfl
        ·rw [b7];omega
        ·rw [lx,i6,<- heq,zE L hrl,et,if_neg ()]
         rfl
        ·show (match H8 c2 with | some (.lst (.int r::_))=>r.toNat | _=>0)<(match H6 a with | some (.lst (.int r::_))=>r.toNat | _=>0)
         rw [hc28,ha6]
         show tt.toNat<((r:Int)).toNat
         omega
      ·have htm:tt = -1:=V.int.inj hne
       have hfo6:=s6 _ _ h4
       left
       refine ⟨.inl ⟨rfl,_,SqL.of hfo6⟩,?_⟩
       left
       refine ⟨fo,_,_,rfl,rfl,hfo6,ja (),?_⟩
       have naf:a≠fo:=λz=>by rw [z,h4] at ha4;cases ha4
       refine ⟨_,_,vs++[.ref a],rfl,j4,?_,λc o hc n=>by rw [j5 n];exact s6 _ _ (e4 c o hc n),by rw [aw,bj];omega⟩
       rw [er,if_pos hb,aq]
       refine vV.ext (cU (w4.ext (Ext.of_same s6)) ⟨a,rfl,naf,?_⟩) Ext.put
       show H6 a=some (.lst (((qw rs j).reverse).map V.int))
       rw [ha6,<- heq,zE L hrl,et,if_pos (),List.reverse_append,fk]
       rfl
     ·exact YX (kg WN (kg (UE K) (kg (Zp K) (Zq 0) (kg (Zp K) (Zq 4) (Zu _))) (Zu _)) (kg (WZ _) (Zu _) (Zu _)))
    ·have hb:¬jO rs j=true:=by unfold jO;rw [decide_eq_true (show (j:Int)∈tos rs from hin)];exact au
     refine ⟨_,_,vs,rfl,h4,?_,e4,()⟩
     rw [er,if_neg hb,bc]
     exact w4
   ·rintro σ H4 ⟨v3,v4,vs,rfl,h4,w4,e4,l4⟩
    rw [bb] at w4 l4
    have sm4:jg H H4:=λc o hc=>e4 _ _ (s3 _ _ (sm2 _ _ hc)) (j1 hc hfoH)
    left
    refine ⟨fo,vs,_,rfl,SqL.of h4,(),w4.rowsI,λso H5 out hso hso5 s5 hs=>?_⟩
    obtain ⟨ix,hpx,eo,hpw⟩:=hs
    have hvl:vs.length=(jp rs).length:=by rw [aY w4,aa];rfl
    have hb:∀i∈ix,i<vs.length:=λi hi=>by have:=hpx.mem_iff.mp hi;simpa using this
    have hri:=wI (w4.rowsI) ix hb
    have hw5:yx H5 out (ix.map λi=>(((jp rs).map λh=>(qw rs h).reverse).getD i [])):=by
     rw [eo]
     exact Paired.mapP hri λ_ _ ⟨a,e1,q⟩=>⟨a,e1,s5 _ _ q⟩
    have hol:out.length<=60:=by rw [eo,aa,hpx.length_eq,bF];omega
    generalize hrv:(ix.map λi=>(((jp rs).map λh=>(qw rs h).reverse).getD i []))=rv at hw5
    have hrvl:=aY hw5
    have isr:jY rs (rv.map cS):=by
     refine ⟨?_,?_⟩
     ·have h1:=hpx.map λi=>(((jp rs).map λh=>(qw rs h).reverse).getD i [])
      rw [hvl,show (jp rs).length=((jp rs).map λh=>(qw rs h).reverse).length by rw [aa],Qj,hrv] at h1
      have h2:=h1.map cS
      rw [bz] at h2
      refine h2.trans (List.Perm.of_eq (dZ λx _=>?_))
      exact fk _
     ·rw [bz,show (cS ∘ cS:List Int->List Int)=id from funext λx=>fk x,n9,<- hrv]
      exact hpw
    refine ⟨so,rfl,⟨_,SqL.of hso5⟩,λacc hacc=>?_⟩
    refine jK (K:=K) (a:=so) (xs:=out) (acc:=acc) (λj σ H6=>∃(x:Option V) (us:List V),σ=[x]/\H6 acc=some (.lst us)/\vV acc H6 us ((rv.take j).map cS)/\Ext acc H5 H6/\us.length=j) ?_ ?_ ?_ ?_
    ·exact ⟨none,[],rfl,j4,.nil,Ext.put,rfl⟩
    ·rintro j σ H6 hj ⟨x,us,rfl,h6,w6,e6,l6⟩
     exact SqL.of (e6 _ _ hso5 (j1 hso5 hacc))
    ·rintro j v σ H6 hv ⟨x,us,rfl,h6,w6,e6,l6⟩
     obtain ⟨y,e2,a,rfl,ha⟩:=Paired.get hw5 hv
     have hj:j<rv.length:=(List.getElem?_eq_some_iff.mp e2).1
     left
     refine ⟨a,_,rfl,SqL.of (e6 _ _ ha (j1 ha hacc)),λq H7 hq hq7 s7=>?_⟩
     have h7:=s7 _ _ h6
     have nq:q≠acc:=λz=>by rw [z,h6] at hq;cases hq
     refine ⟨us,h7,ja (),_,us++[.ref q],rfl,j4,?_,λc o hc n=>by rw [j5 n];exact s7 _ _ (e6 c o hc n),by rw [aw,l6];rfl⟩
     rw [qz cS rv j y e2]
     refine vV.ext (cU (w6.ext (Ext.of_same s7)) ⟨q,rfl,nq,?_⟩) Ext.put
     rw [hq7,pH]
    ·rintro σ H6 ⟨x,us,rfl,h6,w6,e6,l6⟩
     rw [hrvl,aS] at w6
     exact k acc H6 us _ (sm4.free (s5.free hacc)) h6 w6.rowsI isr λc o hc=>e6 _ _ (s5 _ _ (sm4 _ _ hc)) (j1 (s5 _ _ (sm4 _ _ hc)) hacc)
noncomputable def jb (rs:List Rch) (way:List Int):List Int:=(way.map λr=>zO rs r.toNat).flatten
theorem kh (rs:List Rch):∀way:List Int,((jb rs way).length:Int)=jw rs way
 | []=>rfl
 | r::way=>by
  rw [xa,<- kh rs way]
  unfold jb
  rw [aO,lB,aw]
  push_cast
  rfl
theorem WX {n:Nat}(h:n<=100000):n<sizeLine:=bS h ⋯
theorem uV (rs:List Rch) (way:List Int) (j:Nat) (r:Int) (h:way[j]? = some r):jb rs (way.take (j+1))=jb rs (way.take j)++zO rs r.toNat:=by
 unfold jb
 rw [aT,h,aq,List.flatten_append]
 congr 1
 show [zO rs r.toNat].flatten=_
 simp
theorem uS {rs:List Rch}(h100:∀r∈rs,r.2.length<=100):∀way:List Int,(jb rs way).length<=100*way.length
 | []=>by unfold jb;simp
 | r::way=>by
  have ih:=uS h100 way
  have h1:(zO rs r.toNat).length<=100:=by
   unfold zO
   rw [ak]
   cases e:rs[r.toNat]? with
   | none=>simp
   | some q=>exact h100 q (ay e)
  unfold jb at ih ⊢
  rw [aO,lB,aw,b7]
  omega
noncomputable def Qs (K:aj):Sp:=λvs H Q _=>∃(p a:Addr) (xs:List V) (rs:List Rch) (way:List Int),vs=[.ref p,.ref a]/\H p=some (.lst xs)/\jV H xs rs/\(∀r∈rs,r.2.length<=100)/\H a=some (.lst (way.map V.int))/\(∀r∈way,0<=r/\r<rs.length)/\way.length<=100/\∀l H',H l=none->H' l=some (.lst ((jb rs way).map V.int))->jg H H'->Q (.ref l) H'
theorem xP:FnScope ["_law_reaches_here","_law_road","_law_found","_law_reach","_law_height"] ["_law_reaches_here","_law_road"] (j7 yc):=by walk_at "s"
theorem Ys {f:Addr}{fd:FuncData}(F:Fun K "_law_ground" "_law_ground" yc f fd):FnOk P w K mg base CX0 1 f fd ["_law_reaches_here","_law_road"] (Qs K):=by
 refine F.ok xP (λvs H Q E h=>?_) (λcdv A outer s H vs Q E hr h=>?_)
 ·obtain ⟨p,a,xs,rs,way,rfl,_⟩:=h
  rfl
 ·obtain ⟨p,a,xs,rs,way,rfl,hp,hrw,h100,ha,hin,hwl,k⟩:=h
  have hlen:=hrw.length
  refine ⟨_,(j6 (jG 2 xP.nd (jU j2))
   (j6 (xD bI rfl (jL K (pv 1)) (jd (i:=3) xP.nd rfl (aW rfl)) (j9 (xD bI rfl (vd K (jn (qM K) (jn (je K) (pv 0) (pv 3) (λ_ _=>rfl)) j8 (λ_ _=>rfl))) (jd (i:=4) xP.nd rfl (aW rfl)) (j9 (qa (yE K bZ bU bV qx (pv 2) (j0 (pv 4) j2)))))))
   (j9 (jj (pv 2))))),?_⟩
  left
  refine ⟨aQ _,λfo H1 hfo hfo1 s1=>?_⟩
  have ha1:=s1 _ _ ha
  left
  refine ⟨⟨_,SqL.of ha1⟩,kJ (K:=K) (a:=a) (xs:=way.map V.int) (λj σ H2=>∃x y:Option V,σ=[some (.ref p),some (.ref a),some (.ref fo),x,y]/\H2 fo=some (.lst ((jb rs (way.take j)).map V.int))/\Ext fo H1 H2) ⟨_,_,rfl,hfo1,Ext.refl⟩ ?_ ?_ ?_⟩
  ·rintro j σ H2 hj ⟨x,y,rfl,h2,e2⟩
   exact SqL.of (e2 _ _ ha1 (j1 ha hfo))
  ·rintro j v σ H2 hv ⟨x,y,rfl,h2,e2⟩
   obtain ⟨r,rfl⟩:=yK hv
   have hz:way[j]? = some r:=by
    rw [aB] at hv
    cases e:way[j]? with
    | none=>rw [e] at hv;cases hv
    | some y=>rw [e] at hv;cases hv;rfl
   have hj:j<way.length:=(List.getElem?_eq_some_iff.mp hz).1
   have hr:=hin r (ay hz)
   have hi:r.toNat<rs.length:=()
   obtain ⟨v,hv',q,g,rfl,hq,hg⟩:=(hrw.keep ((jm.same s1).trans (jm.lst e2 hfo1))).at (ae hi)
   have hsl:=h100 _ (bP hi)
   have hgl:=uS h100 (way.take j)
   have htl:(way.take j).length<=100:=by rw [aF];omega
   left
   refine ⟨_,_,_,_,rfl,rfl,SqL.of (e2 _ _ (s1 _ _ hp) (j1 hp hfo)),xg hr.1 hv',?_⟩
   refine ⟨_,_,_,_,rfl,rfl,SqT.of hq,rfl,?_⟩
   refine ⟨g,rfl,⟨_,SqT.of hg⟩,UN (K:=K) (a:=g) (xs:=(rs[r.toNat]'hi).2.map V.int) (λi σ H3=>∃y:Option V,σ=[some (.ref p),some (.ref a),some (.ref fo),some (.int r),y]/\H3 fo=some (.lst ((jb rs (way.take j)++(rs[r.toNat]'hi).2.take i).map V.int))/\Ext fo H2 H3) ⟨_,rfl,?_,Ext.refl⟩ ?_ ?_ ?_⟩
   ·rw [iZ,bc];exact h2
   ·rintro i σ H3 hi3 ⟨y,rfl,h3,e3⟩
    exact SqT.of (jm.lst e3 h2 _ _ hg)
   ·rintro i v σ H3 hv3 ⟨y,rfl,h3,e3⟩
    obtain ⟨z,rfl⟩:=yK hv3
    have hz3:(rs[r.toNat]'hi).2[i]? = some z:=by
     rw [aB] at hv3
     cases e:(rs[r.toNat]'hi).2[i]? with
     | none=>rw [e] at hv3;cases hv3
     | some y=>rw [e] at hv3;cases hv3;rfl
    left
    refine ⟨.inl ⟨rfl,_,SqL.of h3⟩,?_⟩
    left
    refine ⟨fo,_,_,rfl,rfl,h3,?_,?_⟩
    ·rw [aa,aw,aF]
     exact WX ()
    ·refine ⟨_,rfl,?_,e3.trans Ext.put⟩
     rw [j4,aT,hz3,<- i6,aq,aq,aq]
     rfl
   ·rintro σ H3 ⟨y,rfl,h3,e3⟩
    refine ⟨_,_,rfl,?_,e2.trans e3⟩
    rw [h3,aa,aS,uV rs way j r hz,Jv (ae hi)]
  ·rintro σ H2 ⟨x,y,rfl,h2,e2⟩
   rw [aa,aS] at h2
   left
   exact k fo H2 hfo h2 λc o hc=>e2 _ _ (s1 _ _ hc) (j1 hc hfo)
noncomputable def Zi (Pt C:Addr):Sp:=λvs H Q E=>∃(p:Addr) (xs:List V) (rs:List Rch) (l:Int),vs=[.ref p,.int l]/\H p=some (.lst xs)/\jV H xs rs/\xl rs/\rs.length<=60/\qB H Pt /\
 (∀t H' ws (i:Nat),l=i->i<ws.length->jY rs ws->H' t=some (.tup ((ws.getD i []).map V.int))->Ext Pt H H'->qB H' Pt->Q (.ref t) H')/\∀H',(l<0\/((jp rs).length:Int)<=l)->Ext Pt H H'->qB H' Pt->E (.ref C) none H'
theorem gx:FnScope ["reaches","lane","ways"] ["reaches","lane"] (j7 kA):=by walk_at "s"
theorem Zz {f Pt C:Addr}{fd:FuncData}(nb:Nb2 mg) (e_NoLane:mg "NoLane" = some (.ref C)) (x_NoLane:dq K C [.type "ValueError",.type "Exception",.type "BaseException",.type "object"] "ValueError.__new__" = true) (c_lanes:Cal P w K mg base 5 "lanes" ["reaches"] (uq K Pt)) (F:Fun K "way_of" "way_of" kA f fd):FnOk P w K mg base (CX1 P w) 6 f fd ["reaches","lane"] (Zi Pt C):=by
 refine Fun.okX F gx (λvs H Q E h=>?_) (λcdv A outer s H vs Q E hr h=>?_)
 ·obtain ⟨p,xs,rs,l,rfl,_⟩:=h
  rfl
 ·obtain ⟨p,xs,rs,l,rfl,hp,hrw,L,h60,hT,k,kx⟩:=h
  refine ⟨_,(j6 (jG 2 gx.nd (jf c_lanes (hr.mono ⋯) rfl (j0 (pv 0) j2)))
   (j6 (qq (xw (xW qy we j8 (pv 1) (jc (jh K) rfl nb.b_len ba (j0 (pv 2) j2)))) (j9 (xu bD x_NoLane e_NoLane rfl zd rfl (j0 jJ j2))) jF)
   (j9 (jj (jn (je K) (pv 2) (pv 1) (λ_ _=>rfl)))))),?_⟩
  left
  refine ⟨p,xs,rs,rfl,hp,hrw,L,h60,hT,λo H1 out ws ho ho1 hw hR X1 T1=>?_⟩
  have hlen:out.length=ws.length:=hw.length
  have hws:(ws.length:Int)=((jp rs).length:Int):=by rw [hR.length]
  left
  refine xo (λh0=>?_) (λh0=>?_)
  ·left
   refine ⟨_,_,rfl,.inl (SqL.of ho1),?_⟩
   left
   refine y4 (λh1=>?_) (λh1=>?_)
   ·left
    exact ⟨by show 1<=sizeLine;decide,kx H1 (.inr ()) X1 T1⟩
   ·have hi:l.toNat<out.length:=()
    obtain ⟨wy,hwy,a,hov,ha⟩:=Paired.get hw (ae hi)
    have el:l=(l.toNat:Int):=()
    left
    refine ⟨_,_,_,_,rfl,rfl,SqL.of ho1,(by rw [el];exact zB (ae hi)),?_⟩
    rw [hov]
    refine k a H1 ws l.toNat el () hR ?_ X1 T1
    rw [ha,ak,hwy]
    rfl
  ·left
   refine vj ?_
   left
   exact ⟨by show 1<=sizeLine;decide,kx H1 (.inl ()) X1 T1⟩
noncomputable def gR (Pt C:Addr):Sp:=λvs H Q E=>∃(p:Addr) (xs:List V) (rs:List Rch) (l:Int),vs=[.ref p,.int l]/\H p=some (.lst xs)/\jV H xs rs/\xl rs/\rs.length<=60/\(∀r∈rs,r.2.length<=100)/\qB H Pt /\
 (∀t H' ws (i:Nat),l=i->i<ws.length->jY rs ws->H t=none->H' t=some (.lst ((jb rs (ws.getD i [])).map V.int))->Ext Pt H H'->qB H' Pt->Q (.ref t) H')/\∀H',(l<0\/((jp rs).length:Int)<=l)->Ext Pt H H'->qB H' Pt->E (.ref C) none H'
theorem Xj:FnScope ["reaches","lane"] ["reaches","lane"] (j7 v0):=by walk_at "s"
theorem Wt {rs:List Rch}{ws:List (List Int)}(L:xl rs) (h:jY rs ws) {a:Nat}(ha:a<ws.length):(∀r∈ws.getD a [],0<=r/\r<rs.length)/\(ws.getD a []).length<=rs.length:=by
 rw [ak,ae ha]
 obtain ⟨x,hx,e⟩:=h.mem (bP ha)
 show (∀r∈ws[a],_)/\ws[a].length<=_
 rw [e]
 exact ⟨xS L x (xF hx),by have:=uk L x (xF hx);have:=xF hx;omega⟩
theorem xq {l:List Int}{j:Nat}{v:V}(h:(l.map V.int)[j]? = some v):∃x,v = .int x/\l[j]? = some x:=by
 rw [aB] at h
 cases e:l[j]? with
 | none=>rw [e] at h;cases h
 | some y=>rw [e] at h;cases h;exact ⟨y,rfl,rfl⟩
theorem Q0 {H H':Hp}{Pt a:Addr}(T:qB H Pt) (e:Ext Pt H H') (T':qB H' Pt) (n:H' a=none):H a=none:=by
 cases q:H a with
 | none=>rfl
 | some o =>
  by_cases z:a=Pt
  ·obtain ⟨ps,h⟩:=T'.ne
   rw [z,h] at n
   cases n
  ·have:=e _ _ q z
   rw [n] at this
   cases this
theorem Xm {f Pt C:Addr}{fd:FuncData}(nb:Nb2 mg) (c_way_of:CalX P w K mg base 6 "way_of" ["reaches","lane"] (Zi Pt C)) (F:Fun K "heights" "heights" v0 f fd):FnOk P w K mg base (CX1 P w) 7 f fd ["reaches","lane"] (gR Pt C):=by
 refine Fun.okX F Xj (λvs H Q E h=>?_) (λcdv A outer s H vs Q E hr h=>?_)
 ·obtain ⟨p,xs,rs,l,rfl,_⟩:=h
  rfl
 ·obtain ⟨p,xs,rs,l,rfl,hp,hrw,L,h60,h100,hT,k,kx⟩:=h
  refine ⟨_,(j9 (jj (YJ (osc:=(j7 v0)) (ON:=["reaches","lane"]) (N:=["reach","height","reaches"]) (own:=2) (caps:=[0]) ⟨rfl,∅,∅,∅,rfl,∅⟩ rfl rfl rfl (vd K (yt c_way_of (hr.mono ⋯) qO rfl (j0 (pv 0) (j0 (pv 1) j2)))) (λ_ _ _ _ _=>(jd (i:=0) (show aR (["reach","height","reaches"]:List Str) by decide +kernel) rfl (aW rfl))) (λ_ _ _ _ _=>jq) (λ_ _ _ _ _=>(vd K (jn (qM K) (jn (je K) (pv 2) (pv 0) (λ_ _=>rfl)) j8 (λ_ _=>rfl)))) (λ_ _ _ _ _=>(jd (i:=1) (show aR (["reach","height","reaches"]:List Str) by decide +kernel) rfl (aW rfl))) (λ_ _ _ _ _=>jq) (λ_ _ _ _ _=>(pv 1))))),?_⟩
  obtain ⟨ps,hPt⟩:=hT.ne
  left
  refine ⟨p,xs,rs,l,rfl,hp,hrw,L,h60,hT,λt H1 ws i ei hi hR ht1 X1 T1=>?_,λH1 hbad X1 T1=>kx H1 hbad X1 T1⟩
  have hp1:=X1 _ _ hp (jk hp hPt (by walk_at "z"))
  have hrw1:jV H1 xs rs:=hrw.keep (jm.tbl X1 hPt)
  obtain ⟨inw,lenw⟩:=Wt L hR hi
  have kk:=λt H'=>k t H' ws i ei hi hR
  generalize ws.getD i []=way at *
  left
  refine ⟨⟨_,SqT.of ht1⟩,λacc hacc=>?_⟩
  refine Yy (K:=K) (a:=t) (xs:=way.map V.int) (acc:=acc) (λj σ H2=>∃x y:Option V,σ=[x,y,some (.ref p)]/\H2 acc=some (.lst ((jb rs (way.take j)).map V.int))/\Ext acc H1 H2) ?_ ?_ ?_ ?_
  ·exact ⟨none,none,rfl,j4,Ext.put⟩
  ·rintro j σ H2 hj ⟨x,y,rfl,h3,e3⟩
   exact SqT.of (e3 _ _ ht1 (j1 ht1 hacc))
  ·rintro j v σ H2 hv ⟨x,y,rfl,h3,e3⟩
   obtain ⟨r,rfl,hr'⟩:=xq hv
   have hin:=inw r (ay hr')
   have hri:r.toNat<rs.length:=()
   obtain ⟨v,hv2,q,g,rfl,hq1,hg1⟩:=hrw1.at (ae hri)
   have hp2:=e3 _ _ hp1 (j1 hp1 hacc)
   have hq:=e3 _ _ hq1 (j1 hq1 hacc)
   have gl:=uS h100 (way.take j)
   have jl:(way.take j).length<=60:=by rw [aF];omega
   have hsn:=uV rs way j r hr'
   have ehs:zO rs r.toNat=(rs[r.toNat]'hri).2:=by
    unfold zO
    rw [ak,ae hri]
    rfl
   have hl100:=h100 _ (bP hri)
   rw [ehs] at hsn
   generalize (rs[r.toNat]'hri).2=hs at hg1 hsn hl100
   left
   refine ⟨_,_,_,_,rfl,rfl,SqL.of hp2,(by rw [show r=((r.toNat:Nat):Int) by omega];exact zB hv2),?_⟩
   refine ⟨_,_,_,_,rfl,rfl,SqT.of hq,rfl,?_⟩
   refine ⟨g,rfl,⟨_,SqT.of (e3 _ _ hg1 (j1 hg1 hacc))⟩,?_⟩
   refine WP (K:=K) (a:=g) (acc:=acc) (xs:=hs.map V.int) (λn σ H4=>∃y:Option V,σ=[some (.int r),y,some (.ref p)]/\H4 acc=some (.lst ((jb rs (way.take j)++hs.take n).map V.int))/\Ext acc H1 H4) ?_ ?_ ?_ ?_
   ·exact ⟨y,rfl,by rw [iZ,bc];exact h3,e3⟩
   ·rintro n σ H4 hn ⟨y,rfl,h4,e4⟩
    exact SqT.of (e4 _ _ hg1 (j1 hg1 hacc))
   ·rintro n v σ H4 hv4 ⟨y,rfl,h4,e4⟩
    obtain ⟨h,rfl,hh⟩:=xq hv4
    have hnl:=(List.getElem?_eq_some_iff.mp hh).1
    left
    refine ⟨_,h4,by rw [aa,aw,aF];exact aJ (show _<10000 by omega) ⋯,some (.int h),rfl,?_,e4.trans Ext.put⟩
    rw [j4,aT,hh,dw,<- i6,aq (l₁:=jb rs (way.take j)++hs.take n)]
    rfl
   ·rintro σ H4 ⟨y,rfl,h4,e4⟩
    rw [aa,aS,<- hsn] at h4
    exact ⟨_,_,rfl,h4,e4⟩
  ·rintro σ H2 ⟨x,y,rfl,h3,e3⟩
   rw [aa,aS] at h3
   exact kk acc H2 (Q0 hT X1 T1 hacc) h3 (λc o hc n=>e3 _ _ (X1 _ _ hc n) (λz=>by rw [z,Q0 hT X1 T1 hacc] at hc;cases hc)) (T1.extN hacc e3)
noncomputable def wk (va cy sl ye le:Addr):List (Str×V):=jo "leaps" (.ref le) (jo "years" (.ref ye) (jo "slopes" (.ref sl) (jo "cycle" (.ref cy) (jo "valley" (.ref va) []))))
theorem vG (va cy sl ye le:Addr):(wk va cy sl ye le).lookup ("cycle" : Str)=some (.ref cy):=by
 unfold wk
 rw [ju,if_neg ∅,ju,if_neg ∅,ju,if_neg ∅,ju,if_pos rfl]
theorem zI (va cy sl ye le:Addr):(wk va cy sl ye le).lookup ("slopes" : Str)=some (.ref sl):=by
 unfold wk
 rw [ju,if_neg ∅,ju,if_neg ∅,ju,if_pos rfl]
theorem yo (va cy sl ye le:Addr):(wk va cy sl ye le).lookup ("years" : Str)=some (.ref ye):=by
 unfold wk
 rw [ju,if_neg ∅,ju,if_pos rfl]
theorem vL (va cy sl ye le:Addr):(wk va cy sl ye le).lookup ("leaps" : Str)=some (.ref le):=by
 unfold wk
 rw [ju,if_pos rfl]
theorem Ut (va cy sl ye le:Addr) {m:Str}(h1:¬m = "leaps") (h2:¬m = "years") (h3:¬m = "slopes") (h4:¬m = "cycle") (h5:¬m = "valley"):(wk va cy sl ye le).lookup m=none:=by
 unfold wk
 rw [ju,if_neg h1,ju,if_neg h2,ju,if_neg h3,ju,if_neg h4,ju,if_neg h5]
 rfl
theorem qr {va cy sl ye le:Addr}{m:Str}(h:(¬m="leaps")/\(¬m="years")/\(¬m="slopes")/\(¬m="cycle")/\¬m="valley"):(wk va cy sl ye le).lookup m=none:=Ut _ _ _ _ _ h.1 h.2.1 h.2.2.1 h.2.2.2.1 h.2.2.2.2
structure IceC (K:aj) (C:Addr):Prop where
 cl:Cls K C
 nV:zp K C "valley"
 nC:zp K C "cycle"
 nS:zp K C "slopes"
 nY:zp K C "years"
 nL:zp K C "leaps"
structure IceG where
 dx:Addr
 va:Addr
 cy:Addr
 sl:Addr
 ye:Addr
 le:Addr
 xs:List V
 ys:List V
 zs:List V
 lds:List (Addr×List (Key×V))
 kvs:List (Key×V)
 rs:List Rch
 rows:List T3
 slopes:List (List Int)
structure IceAt (C:Addr) (H:Hp) (p:Addr) (g:IceG):Prop where
 ob:H p=some (.ins C g.dx (wk g.va g.cy g.sl g.ye g.le))
 va:H g.va=some (.lst g.xs)
 rs:jV H g.xs g.rs
 cy:H g.cy=some (.lst g.ys)
 rows:qN H g.ys g.rows
 sl:H g.sl=some (.lst g.zs)
 slopes:yx H g.zs g.slopes
 ye:H g.ye=some (.dK g.kvs)
 le:H g.le=some (.lst (g.lds.map λx=>V.ref x.1))
 lds:∀x∈g.lds,H x.1=some (.dK x.2)
theorem IceAt.same {C:Addr}{H H':Hp}{p:Addr}{g:IceG}(I:IceAt C H p g) (s:jg H H'):IceAt C H' p g :=
 ⟨s _ _ I.ob,s _ _ I.va,I.rs.keep (jm.same s),s _ _ I.cy,I.rows.imp λ_ _ q=>s _ _ q,s _ _ I.sl,Paired.mapP I.slopes λ_ _ ⟨a,e,q⟩=>⟨a,e,s _ _ q⟩,s _ _ I.ye,s _ _ I.le,λx hx=>s _ _ (I.lds x hx)⟩
theorem Jt {C:Addr}{H:Hp}{p:Addr}{g:IceG}(I:IceAt C H p g) {l:Int}(h0:0<=l) (h1:l<(g.slopes.length:Int)):∃a,atI g.zs l=some (.ref a)/\H a=some (.lst ((g.slopes.getD l.toNat []).map V.int)):=by
 have hz:g.zs.length=g.slopes.length:=aY I.slopes
 have hi:l.toNat<g.zs.length:=()
 obtain ⟨w,hw,a,e,ha⟩:=Paired.get I.slopes (ae hi)
 refine ⟨a,?_,?_⟩
 ·rw [show l=((l.toNat:Nat):Int) by omega]
  refine zB ?_
  rw [ae hi,e]
 ·rw [ha,ak,hw]
  rfl
theorem Wa {l:List Int}{n:Nat}(h:n<l.length):(l.map V.int)[n]? = some (V.int (l.getD n 0)):=by
 rw [aB,ak,ae h]
 rfl
theorem YD:FnScope ["self"] ["self"] (j7 kQ):=by walk_at "s"
noncomputable def Zb (C:Addr):Sp:=λvs H Q _=>∃(p:Addr) (g:IceG),vs=[.ref p]/\IceAt C H p g/\∀l H',H l=none->H' l=some (.lst g.ys)->jg H H'->Q (.ref l) H'
theorem JO:FnScope ["self"] ["self"] (j7 yV):=by walk_at "s"
theorem Jr {f C:Addr}{fd:FuncData}(nb:Nb2 mg) (T:IceC K C) (F:Fun K "rows" "Ice.rows" yV f fd):FnOk P w K mg base CX0 1 f fd ["self"] (Zb C):=by
 refine F.ok JO (λvs H Q E h=>?_) (λcdv A outer s H vs Q E hr h=>?_)
 ·obtain ⟨p,g,rfl,_⟩:=h
  rfl
 ·obtain ⟨p,g,rfl,I,k⟩:=h
  refine ⟨_,(j9 (jj (qk (qA K) rfl nb.b_list bM (j0 (qH K (pv 0)) j2)))),?_⟩
  left
  refine ⟨p,C,g.dx,_,_,rfl,I.ob,T.cl,T.nC,vG _ _ _ _ _,?_⟩
  left
  exact ⟨_,_,rfl,.inl (SqL.of I.cy),λl H1 hl hl1 s1=>k l H1 hl hl1 s1⟩
noncomputable def xi (C CN:Addr):Sp:=λvs H Q E=>∃(p:Addr) (g:IceG) (l:Int),vs=[.ref p,.int l]/\IceAt C H p g/\(0<=l->l<(g.slopes.length:Int)->Q .non H)/\(l<0\/(g.slopes.length:Int)<=l->E (.ref CN) none H)
theorem vz:FnScope ["self","lane"] ["self","lane"] (j7 xA):=by walk_at "s"
theorem vH {f C CN:Addr}{fd:FuncData}(nb:Nb2 mg) (T:IceC K C) (e_NoLane:mg "NoLane" = some (.ref CN)) (x_NoLane:dq K CN [.type "ValueError",.type "Exception",.type "BaseException",.type "object"] "ValueError.__new__" = true) (F:Fun K "check_lane" "Ice.check_lane" xA f fd):FnOk P w K mg base (CX1 P w) 1 f fd ["self","lane"] (xi C CN):=by
 refine Fun.okX F vz (λvs H Q E h=>?_) (λcdv A outer s H vs Q E hr h=>?_)
 ·obtain ⟨p,g,l,rfl,_⟩:=h
  rfl
 ·obtain ⟨p,g,l,rfl,I,k,kx⟩:=h
  have hz:g.zs.length=g.slopes.length:=aY I.slopes
  refine ⟨_,(j9 (qq (xw (xW qy we j8 (pv 1) (jc (jh K) rfl nb.b_len ba (j0 (qH K (pv 0)) j2)))) (j9 (xu bD x_NoLane e_NoLane rfl zd rfl (j0 jJ j2))) jF)),?_⟩
  left
  refine xo (λh0=>?_) (λh0=>?_)
  ·left
   refine ⟨p,C,g.dx,_,_,rfl,I.ob,T.cl,T.nS,zI _ _ _ _ _,?_⟩
   left
   refine ⟨_,_,rfl,.inl (SqL.of I.sl),?_⟩
   rw [hz]
   left
   refine y4 (λh1=>?_) (λh1=>?_)
   ·left
    exact ⟨by show 1<=sizeLine;decide,kx (.inr ())⟩
   ·left
    exact k h0 h1
  ·left
   refine vj ?_
   left
   exact ⟨by show 1<=sizeLine;decide,kx (.inl ())⟩
noncomputable def ug (C CN CP:Addr):Sp:=λvs H Q E=>∃(p:Addr) (g:IceG) (l n:Int),vs=[.ref p,.int l,.int n]/\IceAt C H p g/\(0<=l->l<(g.slopes.length:Int)->0<=n->n<((g.slopes.getD l.toNat []).length:Int)->Q .non H) /\
 (l<0\/(g.slopes.length:Int)<=l->E (.ref CN) none H)/\(0<=l->l<(g.slopes.length:Int)->(n<0\/((g.slopes.getD l.toNat []).length:Int)<=n)->E (.ref CP) none H)
theorem vk:FnScope ["self","lane","place"] ["self","lane","place"] (j7 xh):=by walk_at "s"
theorem vi {f C CN CP:Addr}{fd:FuncData}(nb:Nb2 mg) (T:IceC K C) (e_NoPlace:mg "NoPlace" = some (.ref CP)) (x_NoPlace:dq K CP [.type "ValueError",.type "Exception",.type "BaseException",.type "object"] "ValueError.__new__" = true) (cl_Ice:Cls K C) (c_Ice__check_lane:CalMX P w K mg base 1 C "check_lane" ["self","lane"] (xi C CN)) (F:Fun K "check_place" "Ice.check_place" xh f fd):FnOk P w K mg base (CX1 P w) 2 f fd ["self","lane","place"] (ug C CN CP):=by
 refine Fun.okX F vk (λvs H Q E h=>?_) (λcdv A outer s H vs Q E hr h=>?_)
 ·obtain ⟨p,g,l,n,rfl,_⟩:=h
  rfl
 ·obtain ⟨p,g,l,n,rfl,I,k,kx,ky⟩:=h
  refine ⟨_,(j6 (qa (zU (pv 0) cl_Ice c_Ice__check_lane (hr.mono ⋯) qO (j0 (pv 1) j2)))
   (j9 (qq (xw (xW qy we j8 (pv 2) (jc (jh K) rfl nb.b_len ba (j0 (jn (je K) (qH K (pv 0)) (pv 1) (λ_ _=>rfl)) j2)))) (j9 (xu bD x_NoPlace e_NoPlace rfl zd rfl (j0 jJ j2))) jF))),?_⟩
  left
  refine ⟨p,g.dx,_,rfl,I.ob,qr ∅,?_⟩
  left
  refine ⟨p,g,l,rfl,I,λl0 l1=>?_,λhb=>kx hb⟩
  obtain ⟨a,ha,hla⟩:=Jt I l0 l1
  left
  refine xo (λh0=>?_) (λh0=>?_)
  ·left
   refine ⟨p,C,g.dx,_,_,rfl,I.ob,T.cl,T.nS,zI _ _ _ _ _,?_⟩
   left
   refine ⟨_,_,_,_,rfl,rfl,SqL.of I.sl,ha,?_⟩
   left
   refine ⟨_,_,rfl,.inl (SqL.of hla),?_⟩
   rw [aa]
   left
   refine y4 (λh1=>?_) (λh1=>?_)
   ·left
    exact ⟨by show 1<=sizeLine;decide,ky l0 l1 (.inr ())⟩
   ·left
    exact k l0 l1 h0 h1
  ·left
   refine vj ?_
   left
   exact ⟨by show 1<=sizeLine;decide,ky l0 l1 (.inl ())⟩
noncomputable def uR (C CN:Addr):Sp:=λvs H Q E=>∃(p:Addr) (g:IceG) (l:Int),vs=[.ref p,.int l]/\IceAt C H p g/\(0<=l->l<(g.slopes.length:Int)->Q (.int ((g.slopes.getD l.toNat []).length:Int)) H)/\(l<0\/(g.slopes.length:Int)<=l->E (.ref CN) none H)
theorem wW:FnScope ["self","lane"] ["self","lane"] (j7 zN):=by walk_at "s"
theorem k8 {f C CN:Addr}{fd:FuncData}(nb:Nb2 mg) (T:IceC K C) (cl_Ice:Cls K C) (c_Ice__check_lane:CalMX P w K mg base 1 C "check_lane" ["self","lane"] (xi C CN)) (F:Fun K "length" "Ice.length" zN f fd):FnOk P w K mg base (CX1 P w) 2 f fd ["self","lane"] (uR C CN):=by
 refine Fun.okX F wW (λvs H Q E h=>?_) (λcdv A outer s H vs Q E hr h=>?_)
 ·obtain ⟨p,g,l,rfl,_⟩:=h
  rfl
 ·obtain ⟨p,g,l,rfl,I,k,kx⟩:=h
  refine ⟨_,(j6 (qa (zU (pv 0) cl_Ice c_Ice__check_lane (hr.mono ⋯) qO (j0 (pv 1) j2)))
   (j9 (jj (jc (jh K) rfl nb.b_len ba (j0 (jn (je K) (qH K (pv 0)) (pv 1) (λ_ _=>rfl)) j2))))),?_⟩
  left
  refine ⟨p,g.dx,_,rfl,I.ob,qr ∅,?_⟩
  left
  refine ⟨p,g,l,rfl,I,λl0 l1=>?_,λhb=>kx hb⟩
  obtain ⟨a,ha,hla⟩:=Jt I l0 l1
  left
  refine ⟨p,C,g.dx,_,_,rfl,I.ob,T.cl,T.nS,zI _ _ _ _ _,?_⟩
  left
  refine ⟨_,_,_,_,rfl,rfl,SqL.of I.sl,ha,?_⟩
  left
  refine ⟨_,_,rfl,.inl (SqL.of hla),?_⟩
  rw [aa]
  exact k l0 l1
noncomputable def gv (C CN CP:Addr):Sp:=λvs H Q E=>∃(p:Addr) (g:IceG) (l n:Int),vs=[.ref p,.int l,.int n]/\IceAt C H p g/\(0<=l->l<(g.slopes.length:Int)->0<=n->n<((g.slopes.getD l.toNat []).length:Int)->Q (.int ((g.slopes.getD l.toNat []).getD n.toNat 0)) H) /\
 (l<0\/(g.slopes.length:Int)<=l->E (.ref CN) none H)/\(0<=l->l<(g.slopes.length:Int)->(n<0\/((g.slopes.getD l.toNat []).length:Int)<=n)->E (.ref CP) none H)
theorem kt:FnScope ["self","lane","place"] ["self","lane","place"] (j7 zQ):=by walk_at "s"
theorem ke {f C CN CP:Addr}{fd:FuncData}(nb:Nb2 mg) (T:IceC K C) (cl_Ice:Cls K C) (c_Ice__check_place:CalMX P w K mg base 2 C "check_place" ["self","lane","place"] (ug C CN CP)) (F:Fun K "height" "Ice.height" zQ f fd):FnOk P w K mg base (CX1 P w) 3 f fd ["self","lane","place"] (gv C CN CP):=by
 refine Fun.okX F kt (λvs H Q E h=>?_) (λcdv A outer s H vs Q E hr h=>?_)
 ·obtain ⟨p,g,l,n,rfl,_⟩:=h
  rfl
 ·obtain ⟨p,g,l,n,rfl,I,k,kx,ky⟩:=h
  refine ⟨_,(j6 (qa (zU (pv 0) cl_Ice c_Ice__check_place (hr.mono ⋯) qO (j0 (pv 1) (j0 (pv 2) j2))))
   (j9 (jj (jn (je K) (jn (je K) (qH K (pv 0)) (pv 1) (λ_ _=>rfl)) (pv 2) (λ_ _=>rfl))))),?_⟩
  left
  refine ⟨p,g.dx,_,rfl,I.ob,qr ∅,?_⟩
  left
  refine ⟨p,g,l,n,rfl,I,λl0 l1 n0 n1=>?_,λhb=>kx hb,λl0 l1 hb=>ky l0 l1 hb⟩
  obtain ⟨a,ha,hla⟩:=Jt I l0 l1
  left
  refine ⟨p,C,g.dx,_,_,rfl,I.ob,T.cl,T.nS,zI _ _ _ _ _,?_⟩
  left
  refine ⟨_,_,_,_,rfl,rfl,SqL.of I.sl,ha,?_⟩
  left
  refine ⟨_,_,_,_,rfl,rfl,SqL.of hla,(by rw [show n=((n.toNat:Nat):Int) by omega];exact zB (Wa ())),?_⟩
  exact k l0 l1 n0 n1
noncomputable def vS (CR:Addr):Sp:=λvs H Q E=>∃(p:Addr) (xs:List V) (ts:List T3),vs=[.ref p]/\H p=some (.lst xs)/\qN H xs ts/\ts.length<=1000/\(∀H',gr ts=true->jg H H'->Q .non H')/\∀H',gr ts=false->jg H H'->E (.ref CR) none H'
theorem ku:FnScope ["rows"] ["rows"] (j7 zS):=by walk_at "s"
theorem wP {f CR:Addr}{fd:FuncData}(nb:Nb2 mg) (e_BadRound:mg "BadRound" = some (.ref CR)) (x_BadRound:dq K CR [.type "ValueError",.type "Exception",.type "BaseException",.type "object"] "ValueError.__new__" = true) (c_is_round:Cal P w K mg base 2 "is_round" ["rows"] (Z2 K)) (F:Fun K "check_round" "check_round" zS f fd):FnOk P w K mg base (CX1 P w) 3 f fd ["rows"] (vS CR):=by
 refine Fun.okX F ku (λvs H Q E h=>?_) (λcdv A outer s H vs Q E hr h=>?_)
 ·obtain ⟨p,xs,ts,rfl,_⟩:=h
  rfl
 ·obtain ⟨p,xs,ts,rfl,hp,hr3,h1000,k,kx⟩:=h
  refine ⟨_,(j9 (qq (xw (yw (jf c_is_round (hr.mono ⋯) rfl (j0 (pv 0) j2)))) (j9 (xu bD x_BadRound e_BadRound rfl zd rfl (j0 jJ j2))) jF)),?_⟩
  left
  refine ⟨p,xs,ts,rfl,hp,hr3,h1000,λH1 s1=>?_⟩
  cases e:gr ts with
  | true =>
   left
   exact k H1 e s1
  | false =>
   left
   exact ⟨by show 1<=sizeLine;decide,kx H1 e s1⟩
noncomputable def Kp (p Pt:Addr) (H H':Hp):Prop:=∀c o,H c=some o->c≠p->c≠Pt->H' c=some o
theorem Kp.trans {p Pt:Addr}{H H1 H2:Hp}(a:Kp p Pt H H1) (b:Kp p Pt H1 H2):Kp p Pt H H2:=λc o h n m=>b c o (a c o h n m) n m
theorem Kp.of_same {p Pt:Addr}{H H':Hp}(s:jg H H'):Kp p Pt H H':=λc o h _ _=>s c o h
theorem Kp.of_ext {p Pt:Addr}{H H':Hp}(s:Ext Pt H H'):Kp p Pt H H':=λc o h _ m=>s c o h m
theorem Kp.put {p Pt:Addr}{H:Hp}{o:HO}:Kp p Pt H (upd H p o):=λc _ h n _=>by rw [j5 n];exact h
theorem Kp.at {p Pt a:Addr}{H H':Hp}{o u:HO}{ps:Array ah}(k:Kp p Pt H H') (h:H a=some o) (hp:H p=some u) (hPt:H Pt=some (.tbl ps)) (n:o≠u) (m:o≠.tbl ps):H' a=some o:=k _ _ h (jk h hp n) (jk h hPt m)
theorem Kp.free {p Pt a:Addr}{H H':Hp}{u u':HO}(k:Kp p Pt H H') (h:H' a=none) (hp:H' p=some u) (hPt:H' Pt=some u'):H a=none:=by
 cases e:H a with
 | none=>rfl
 | some o =>
  have:=k a o e (λz=>by rw [z,hp] at h;cases h) (λz=>by rw [z,hPt] at h;cases h)
  rw [h] at this
  cases this
theorem ul {H:Hp}{Pt p C dx:Addr}{fs:List (Str×V)}{o:HO}(T:qB H Pt) (hp:H p=some (.ins C dx fs)):qB (upd H p o) Pt:=by
 rcases T with h | ⟨c,h,h'⟩
 ·exact .inl (by rw [j5 (jk h hp (by walk_at "z"))];exact h)
 ·exact .inr ⟨c,by rw [j5 (jk h hp (by walk_at "z"))];exact h,by rw [j5 (jk h' hp (by walk_at "z"))];exact h'⟩
theorem jm.kp {p Pt C dx:Addr}{H H':Hp}{fs:List (Str×V)}{ps:Array ah}(k:Kp p Pt H H') (hp:H p=some (.ins C dx fs)) (hPt:H Pt=some (.tbl ps)):jm H H':=λ_ _ h=>k.at h hp hPt (by walk_at "z") (by walk_at "z")
theorem pm {α β:Type}{F:α->β->Prop}:∀{l₁:List α}{l₂:List β},ck F l₁ l₂->∀v∈l₁,∃w,F v w
 | _,_,.nil,v,h=>by cases h
 | _,_,.cons q r,v,h=>by
  rcases List.mem_cons.mp h with rfl | z
  ·exact ⟨_,q⟩
  ·exact pm r v z
theorem pmE {H H0:Hp}{a0:Addr}{zs:List V}{rows:List (List Int)}(r:ck (λv (w:List Int)=>∃a,v=V.ref a/\H a=some (.lst (w.map V.int))/\H0 a=none/\a≠a0) zs rows):∀a,V.ref a∈zs->H0 a=none/\a≠a0:=λa h=>by
 obtain ⟨w,b,e,_,z⟩:=pm r _ h
 cases e
 exact z
structure IceNew (C Pt:Addr) (H H':Hp) (p:Addr) (g:IceG):Prop where
 at_:IceAt C H' p g
 keep:∀c o,H c=some o->c≠p->c≠Pt->H' c=some o
 va:H g.va=none
 cy:H g.cy=none
 sl:H g.sl=none
 ye:H g.ye=none
 le:H g.le=none
 zs:∀a,V.ref a∈g.zs->H a=none
 kvs:g.kvs=[]
 lds:∀x∈g.lds,H x.1=none/\x.2=[]
 ll:g.lds.length=g.slopes.length
 nd:(g.lds.map (·.1)).Nodup
 ny:∀x∈g.lds,x.1≠g.ye
 sl2:∃ws,jY g.rs ws/\g.slopes=ws.map (jb g.rs)
noncomputable def YW (C CV CR Pt:Addr):Sp:=λvs H Q E=>∃(p dx r q:Addr) (xs ys:List V) (rs:List Rch) (ts:List T3),vs=[.ref p,.ref r,.ref q]/\H p=some (.ins C dx [])/\H r=some (.lst xs)/\jV H xs rs/\H q=some (.lst ys)/\qN H ys ts/\(∀r∈rs,r.2.length<=100)/\rs.length<=60/\ts.length<=1000/\qB H Pt /\
 (∀H' g,zx rs=true->gr ts=true->IceNew C Pt H H' p g->g.rs=rs->g.rows=ts->g.xs=xs->g.ys=ys->qB H' Pt->Q .non H') /\
 (∀H',zx rs=false->Ext Pt H H'->qB H' Pt->E (.ref CV) none H')/\(∀H',zx rs=true->gr ts=false->Ext Pt H H'->qB H' Pt->E (.ref CR) none H')
theorem uP:FnScope ["self","reaches","rows"] ["self","reaches","rows"] (j7 qI):=by walk_at "s"
theorem uN {f C CV CR CN Pt:Addr}{fd:FuncData}(nb:Nb2 mg) (T:IceC K C) (e_BadValley:mg "BadValley" = some (.ref CV)) (x_BadValley:dq K CV [.type "ValueError",.type "Exception",.type "BaseException",.type "object"] "ValueError.__new__" = true)
  (c_is_valley:Cal P w K mg base 6 "is_valley" ["reaches"] (Qu K Pt)) (c_check_round:CalX P w K mg base 3 "check_round" ["rows"] (vS CR)) (c_lanes:Cal P w K mg base 5 "lanes" ["reaches"] (uq K Pt)) (c_heights:Cal P w K mg base 7 "heights" ["reaches","lane"] (λvs H Q _=>gR Pt CN vs H Q E0))
  (F:Fun K "__init__" "Ice.__init__" qI f fd):FnOk P w K mg base (CX1 P w) 8 f fd ["self","reaches","rows"] (YW C CV CR Pt):=by
 refine Fun.okX F uP (λvs H Q E h=>?_) (λcdv A outer s H vs Q E hr h=>?_)
 ·obtain ⟨p,dx,r,q,xs,ys,rs,ts,rfl,_⟩:=h
  rfl
 ·obtain ⟨p,dx,r,q,xs,ys,rs,ts,rfl,hp,hr',hrw,hq,hr3,h100,h60,h1000,hT,k,kv,kr⟩:=h
  obtain ⟨ps,hPt⟩:=hT.ne
  refine ⟨_,(j6 (qq (xw (yw (jf c_is_valley (hr.mono ⋯) rfl (j0 (pv 1) j2)))) (j9 (xu bD x_BadValley e_BadValley rfl zd rfl (j0 jJ j2))) jF)
   (j6 (qa (yt c_check_round (hr.mono ⋯) qO rfl (j0 (pv 2) j2)))
   (j6 (uj K (pv 0) (qk (qA K) rfl nb.b_list bM (j0 (pv 1) j2)))
   (j6 (uj K (pv 0) (qk (qA K) rfl nb.b_list bM (j0 (pv 2) j2)))
   (j6 (uj K (pv 0) (jA (osc:=(j7 qI)) (ON:=["self","reaches","rows"]) (N:=["lane","reaches"]) (own:=1) (caps:=[1]) ⟨rfl,∅,∅,∅,rfl,∅⟩ rfl rfl rfl (jZ rfl nb.b_range (j0 (jc (jh K) rfl nb.b_len ba (j0 (jf c_lanes (hr.mono ⋯) rfl (j0 (pv 1) j2)) j2)) j2)) (λ_ _ _ _ _=>(jd (i:=0) (show aR (["lane","reaches"]:List Str) by decide +kernel) rfl (aW rfl))) (λ_ _ _ _ _=>jq) (λ_ _ _ _ _=>(jf c_heights (hr.mono ⋯) rfl (j0 (pv 1) (j0 (pv 0) j2))))))
   (j6 (uj K (pv 0) y8)
   (j9 (uj K (pv 0) (jA (osc:=(j7 qI)) (ON:=["self","reaches","rows"]) (N:=["slope"]) (own:=1) (caps:=[]) ⟨rfl,∅,∅,∅,rfl,∅⟩ rfl rfl rfl (jL K (qH K (pv 0))) (λ_ _ _ _ _=>(jd (i:=0) (show aR (["slope"]:List Str) by decide +kernel) rfl (aW rfl))) (λ_ _ _ _ _=>jq) (λ_ _ _ _ _=>y8)))))))))),?_⟩
  left
  refine ⟨r,xs,rs,rfl,hr',hrw,h100,h60,hT,λH1 X1 T1=>?_⟩
  cases eg:zx rs with
  | false =>
   left
   exact ⟨by show 1<=sizeLine;decide,kv H1 eg X1 T1⟩
  | true =>
   have X1':∀{a:Addr} {o:HO},H a=some o->(∀ps,o≠.tbl ps)->H1 a=some o:=λ{a o} h n=>X1 _ _ h (jk h hPt (n _))
   have hp1:=X1' hp (by walk_at "w")
   have hr1:=X1' hr' (by walk_at "w")
   have hq1:=X1' hq (by walk_at "w")
   have hrw1:jV H1 xs rs:=hrw.keep (jm.tbl X1 hPt)
   have hr31:qN H1 ys ts:=hr3.imp λa t e=>X1' e (by walk_at "w")
   left
   refine ⟨q,ys,ts,rfl,hq1,hr31,h1000,λH2 egr s2=>?_,λH2 egr s2=>kr H2 eg egr (X1.trans (Ext.of_same s2)) (T1.same s2)⟩
   have L:xl rs:=qe (by unfold zx at eg;rw [bh,bh] at eg;exact eg.2.1)
   have k2:Kp p Pt H H2:=(Kp.of_ext X1).trans (Kp.of_same s2)
   have hp2:=s2 _ _ hp1
   have T2:=T1.same s2
   left
   refine ⟨_,_,rfl,.inl (SqL.of (s2 _ _ hr1)),λva H3 va2 va3 s3=>?_⟩
   have hp3:=s3 _ _ hp2
   have T3':=T2.same s3
   have k3:=k2.trans (Kp.of_same s3)
   obtain ⟨_,hPt2⟩:=T2.ne
   have va0:=k2.free va2 hp2 hPt2
   left
   refine ⟨p,C,dx,_,rfl,hp3,T.cl,T.nV,⋯,?_⟩
   have Ta:qB (upd H3 p (HO.ins C dx (jo "valley" (V.ref va) []))) Pt:=ul T3' hp3
   have ka:=k3.trans (Kp.put (p:=p) (Pt:=Pt) (o:=HO.ins C dx (jo "valley" (V.ref va) [])))
   have pa:upd H3 p (HO.ins C dx (jo "valley" (V.ref va) [])) p=some (HO.ins C dx (jo "valley" (V.ref va) [])):=j4
   have vaa:upd H3 p (HO.ins C dx (jo "valley" (V.ref va) [])) va=some (HO.lst xs):=by rw [j5 (j1 hp2 va2).symm];exact va3
   clear k2 k3 hp1 hr1 hq1 hrw1 hr31 X1' X1 T1 s2 hp2 T2 s3 hp3 T3' va3 va2 hPt2
   generalize upd H3 p (HO.ins C dx (jo "valley" (V.ref va) []))=Ha at *
   obtain ⟨_,hPta⟩:=Ta.ne
   have vaP:va≠Pt:=jk vaa hPta (by walk_at "z")
   have vap:va≠p:=jk vaa pa (by walk_at "z")
   left
   refine ⟨_,_,rfl,.inl (SqL.of (ka.at hq hp hPt (by walk_at "z") (by walk_at "z"))),λcy H4 cya cy4 s4=>?_⟩
   have hp4:=s4 _ _ pa
   have T4:=Ta.same s4
   have cy0:=ka.free cya pa hPta
   left
   refine ⟨p,C,dx,_,rfl,hp4,T.cl,T.nC,bS (jT _ _ _) ⋯,?_⟩
   have kb:=(ka.trans (Kp.of_same s4)).trans (Kp.put (p:=p) (Pt:=Pt) (o:=HO.ins C dx (jo "cycle" (V.ref cy) (jo "valley" (V.ref va) []))))
   have Tb:qB (upd H4 p (HO.ins C dx (jo "cycle" (V.ref cy) (jo "valley" (V.ref va) [])))) Pt:=ul T4 hp4
   have pb:upd H4 p (HO.ins C dx (jo "cycle" (V.ref cy) (jo "valley" (V.ref va) []))) p=some (HO.ins C dx (jo "cycle" (V.ref cy) (jo "valley" (V.ref va) []))):=j4
   have vab:upd H4 p (HO.ins C dx (jo "cycle" (V.ref cy) (jo "valley" (V.ref va) []))) va=some (HO.lst xs):=by rw [j5 vap];exact s4 _ _ vaa
   have cyb:upd H4 p (HO.ins C dx (jo "cycle" (V.ref cy) (jo "valley" (V.ref va) []))) cy=some (HO.lst ys):=by rw [j5 (j1 pa cya).symm];exact cy4
   clear ka Ta pa vaa s4 hp4 T4 cya cy4 hPta
   generalize upd H4 p (HO.ins C dx (jo "cycle" (V.ref cy) (jo "valley" (V.ref va) [])))=Hb at *
   obtain ⟨_,hPtb⟩:=Tb.ne
   have cyP:cy≠Pt:=jk cyb hPtb (by walk_at "z")
   have cyp:cy≠p:=jk cyb pb (by walk_at "z")
   have pP:p≠Pt:=jk pb hPtb (by walk_at "z")
   left
   refine ⟨r,xs,rs,rfl,kb.at hr' hp hPt (by walk_at "z") (by walk_at "z"),hrw.keep (jm.kp kb hp hPt),L,h60,Tb,λo H5 out ws ho ho5 hw hR X5 T5=>?_⟩
   left
   refine ⟨_,_,rfl,.inl (SqL.of ho5),?_⟩
   have hlen:out.length=ws.length:=hw.length
   have hws:ws.length<=60:=by
    rw [hR.length]
    unfold jp
    exact aI (bG _ _) (by rw [bF];exact h60)
   refine ⟨(out.length:Int),rfl,(),(),λacc hacc=>?_⟩
   obtain ⟨_,hPt5⟩:=T5.ne
   have kb5:Kp p Pt H H5:=kb.trans (Kp.of_ext X5)
   have hp5:=X5 _ _ pb pP
   have va5:=X5 _ _ vab vaP
   have cy5:=X5 _ _ cyb cyP
   have hr5:H5 r=some (.lst xs):=kb5.at hr' hp hPt (by walk_at "z") (by walk_at "z")
   have hrw5:jV H5 xs rs:=hrw.keep (jm.kp kb5 hp hPt)
   have accP:Pt≠acc:=j1 hPt5 hacc
   refine qu (lo:=0) (n:=((out.length:Int)).toNat) (acc:=acc) (λi σ H6=>∃(x:Option V) (zs:List V),σ=[x,some (.ref r)]/\H6 acc=some (.lst zs)/\zs.length=i/\ck (λv (w:List Int)=>∃a,v=V.ref a/\H6 a=some (.lst (w.map V.int))/\H5 a=none/\a≠acc) zs ((ws.take i).map (jb rs))/\Kp acc Pt H5 H6/\qB H6 Pt) ?_ ?_ ?_
   ·exact ⟨none,[],rfl,j4,rfl,.nil,Kp.put,T5.extN hacc Ext.put⟩
   ·rintro i σ H6 hi ⟨x,zs,rfl,h6,hz,r6,k6,T6⟩
    obtain ⟨_,hPt6⟩:=T6.ne
    have iw:i<ws.length:=()
    left
    refine ⟨r,xs,rs,_,rfl,k6 _ _ hr5 (j1 hr5 hacc) (jk hr5 hPt5 (by walk_at "z")),hrw5.keep (λa o h=>k6 _ _ h (j1 h hacc) (jk h hPt5 (by walk_at "z"))),L,h60,h100,T6,λt H7 ws' i' ei hi' hR' ht ht7 X7 T7=>?_,λH' hb _ _=>?_⟩
    ·obtain rfl:=hR.unique hR'
     obtain rfl:i'=i:=()
     have h7:=X7 _ _ h6 accP.symm
     have ta:t≠acc:=(j1 h6 ht).symm
     have tP:t≠Pt:=(j1 hPt6 ht).symm
     refine ⟨zs,h7,ja (),some (.int (0+(i':Int))),zs++[.ref t],rfl,j4,by rw [aw,hz];rfl,?_,?_,?_⟩
     ·rw [qz (jb rs) ws i' (ws.getD i' []) (by rw [ak,ae iw];rfl)]
      refine cU (Paired.mapP r6 λv wy ⟨a,e,ha,h0,na⟩=>⟨a,e,?_,h0,na⟩) ⟨t,rfl,by rw [j5 ta];exact ht7,k6.free ht h6 hPt6,ta⟩
      rw [j5 na]
      exact X7 _ _ ha (jk ha hPt6 (by walk_at "z"))
     ·exact (k6.trans (Kp.of_ext X7)).trans Kp.put
     ·exact T7.ext h7 Ext.put
    ·have:=hR.length
     exact absurd hb ()
   ·rintro σ H6 ⟨x,zs,rfl,h6,hz,r6,k6,T6⟩
    rw [bb,hlen,aS] at r6
    have f6:=pmE r6
    have hp6:=k6 _ _ hp5 (j1 hp5 hacc) pP
    have kc:Kp p Pt H (upd H6 p (HO.ins C dx (jo "slopes" (V.ref acc) (jo "cycle" (V.ref cy) (jo "valley" (V.ref va) []))))):=λc o h n m=>by
     rw [j5 n]
     have:=kb5 c o h n m
     exact k6 _ _ this (j1 this hacc) m
    have acp:acc≠p:=(j1 hp5 hacc).symm
    have acc0:=kb5.free hacc hp5 hPt5
    have zs0:∀a,V.ref a∈zs->H a=none:=λa z=>kb5.free (f6 a z).1 hp5 hPt5
    left
    refine ⟨p,C,dx,_,rfl,hp6,T.cl,T.nS,bS (aI (jT _ _ _) (eJ (jT _ _ _))) ⋯,?_⟩
    have Tc:qB (upd H6 p (HO.ins C dx (jo "slopes" (V.ref acc) (jo "cycle" (V.ref cy) (jo "valley" (V.ref va) []))))) Pt:=ul T6 hp6
    have pc:upd H6 p (HO.ins C dx (jo "slopes" (V.ref acc) (jo "cycle" (V.ref cy) (jo "valley" (V.ref va) [])))) p=some (HO.ins C dx (jo "slopes" (V.ref acc) (jo "cycle" (V.ref cy) (jo "valley" (V.ref va) [])))):=j4
    have vac:upd H6 p (HO.ins C dx (jo "slopes" (V.ref acc) (jo "cycle" (V.ref cy) (jo "valley" (V.ref va) [])))) va=some (HO.lst xs):=by rw [j5 vap];exact k6 _ _ va5 (j1 va5 hacc) vaP
    have cyc:upd H6 p (HO.ins C dx (jo "slopes" (V.ref acc) (jo "cycle" (V.ref cy) (jo "valley" (V.ref va) [])))) cy=some (HO.lst ys):=by rw [j5 cyp];exact k6 _ _ cy5 (j1 cy5 hacc) cyP
    have slc:upd H6 p (HO.ins C dx (jo "slopes" (V.ref acc) (jo "cycle" (V.ref cy) (jo "valley" (V.ref va) [])))) acc=some (HO.lst zs):=by rw [j5 acp];exact h6
    have slsc:yx (upd H6 p (HO.ins C dx (jo "slopes" (V.ref acc) (jo "cycle" (V.ref cy) (jo "valley" (V.ref va) []))))) zs (ws.map (jb rs)):=Paired.mapP r6 λv wy ⟨a,e,ha,h0,na⟩=>⟨a,e,by rw [j5 (j1 hp5 h0).symm];exact ha⟩
    clear r6 f6 k6 T6 h6 hp6 kb5 hp5 va5 cy5 hr5 hrw5 X5 T5 kb Tb pb vab cyb hPtb accP hacc ho ho5 hw hPt5
    generalize upd H6 p (HO.ins C dx (jo "slopes" (V.ref acc) (jo "cycle" (V.ref cy) (jo "valley" (V.ref va) []))))=Hc at *
    left
    intro ye hye
    obtain ⟨_,hPtc⟩:=Tc.ne
    have ye0:=kc.free hye pc hPtc
    have yep:ye≠p:=(j1 pc hye).symm
    have s9:jg Hc (upd Hc ye (.dK [])):=jg.new hye
    left
    refine ⟨p,C,dx,_,rfl,s9 _ _ pc,T.cl,T.nY,bS (aI (jT _ _ _) (eJ (aI (jT _ _ _) (eJ (jT _ _ _))))) ⋯,?_⟩
    have d_of:∀c o,Hc c=some o->c≠p->(upd (upd Hc ye (HO.dK [])) p (HO.ins C dx (jo "years" (V.ref ye) (jo "slopes" (V.ref acc) (jo "cycle" (V.ref cy) (jo "valley" (V.ref va) [])))))) c=some o:=λc o h n=>by rw [j5 n];exact s9 _ _ h
    have kd:Kp p Pt H (upd (upd Hc ye (HO.dK [])) p (HO.ins C dx (jo "years" (V.ref ye) (jo "slopes" (V.ref acc) (jo "cycle" (V.ref cy) (jo "valley" (V.ref va) [])))))):=(kc.trans (Kp.of_same s9)).trans Kp.put
    have Td:qB (upd (upd Hc ye (HO.dK [])) p (HO.ins C dx (jo "years" (V.ref ye) (jo "slopes" (V.ref acc) (jo "cycle" (V.ref cy) (jo "valley" (V.ref va) [])))))) Pt:=ul (Tc.same s9) (s9 _ _ pc)
    have pd:(upd (upd Hc ye (HO.dK [])) p (HO.ins C dx (jo "years" (V.ref ye) (jo "slopes" (V.ref acc) (jo "cycle" (V.ref cy) (jo "valley" (V.ref va) [])))))) p=some (HO.ins C dx (jo "years" (V.ref ye) (jo "slopes" (V.ref acc) (jo "cycle" (V.ref cy) (jo "valley" (V.ref va) []))))):=j4
    have vad:=d_of _ _ vac vap
    have cyd:=d_of _ _ cyc cyp
    have sld:=d_of _ _ slc acp
    have yed:(upd (upd Hc ye (HO.dK [])) p (HO.ins C dx (jo "years" (V.ref ye) (jo "slopes" (V.ref acc) (jo "cycle" (V.ref cy) (jo "valley" (V.ref va) [])))))) ye=some (.dK []):=by rw [j5 yep];exact j4
    have slsd:yx (upd (upd Hc ye (HO.dK [])) p (HO.ins C dx (jo "years" (V.ref ye) (jo "slopes" (V.ref acc) (jo "cycle" (V.ref cy) (jo "valley" (V.ref va) [])))))) zs (ws.map (jb rs)):=Paired.mapP slsc λv wy ⟨a,e,ha⟩=>⟨a,e,d_of _ _ ha (jk ha pc (by walk_at "z"))⟩
    clear d_of kc Tc pc vac cyc slc slsc hye hPtc s9
    generalize (upd (upd Hc ye (HO.dK [])) p (HO.ins C dx (jo "years" (V.ref ye) (jo "slopes" (V.ref acc) (jo "cycle" (V.ref cy) (jo "valley" (V.ref va) []))))))=Hd at *
    obtain ⟨_,hPtd⟩:=Td.ne
    left
    refine ⟨p,C,dx,_,_,rfl,pd,T.cl,T.nS,(by rw [ju,if_neg ∅,ju,if_pos rfl]),?_⟩
    left
    refine ⟨⟨_,SqL.of sld⟩,λle hle=>?_⟩
    have lep:le≠p:=(j1 pd hle).symm
    have le0:=kd.free hle pd hPtd
    have zl:zs.length<=60:=()
    refine jK (K:=K) (a:=acc) (xs:=zs) (acc:=le) (λi σ He=>∃(x:Option V) (lds:List (Addr×List (Key×V))),σ=[x]/\He le=some (.lst (lds.map λx=>V.ref x.1))/\lds.length=i/\(∀x∈lds,He x.1=some (.dK x.2)/\x.2=[]/\Hd x.1=none/\x.1≠le)/\(lds.map (·.1)).Nodup/\Ext le Hd He) ?_ ?_ ?_ ?_
    ·exact ⟨none,[],rfl,j4,rfl,(λx z=>by cases z),l3,Ext.put⟩
    ·rintro i σ He hi ⟨x,lds,rfl,he,hl,hd,nn,e⟩
     exact SqL.of (e _ _ sld (j1 sld hle))
    ·rintro i v σ He hv ⟨x,lds,rfl,he,hl,hd,nn,e⟩
     have hi:=(List.getElem?_eq_some_iff.mp hv).1
     left
     intro d hd0
     have dl:d≠le:=(j1 he hd0).symm
     refine ⟨_,(by rw [j5 (cA dl)];exact he),by rw [aa];exact ja (),some v,lds++[(d,[])],rfl,(by rw [j4,aq];rfl),(by rw [aw,hl];rfl),λy hy=>?_,?_,λc o hc n=>?_⟩
     ·rcases List.mem_append.mp hy with z | z
      ·obtain ⟨h1,h2,h3,h4⟩:=hd y z
       exact ⟨by rw [j5 h4,j5 (j1 h1 hd0)];exact h1,h2,h3,h4⟩
      ·obtain rfl:y=(d,[]):=by simpa using z
       exact ⟨by rw [j5 dl];exact j4,rfl,e.free hd0 dl,dl⟩
     ·rw [aq]
      refine wC nn λz=>?_
      obtain ⟨y,hy,ey⟩:=List.mem_map.mp z
      have:=(hd y hy).1
      rw [ey,hd0] at this
      cases this
     ·rw [j5 n,j5 (j1 (e c o hc n) hd0)]
      exact e c o hc n
    ·rintro σ He ⟨x,lds,rfl,he,hl,hd,nn,e⟩
     have hpe:=e _ _ pd (j1 pd hle)
     left
     refine ⟨p,C,dx,_,rfl,hpe,T.cl,T.nL,bS (aI (jT _ _ _) (eJ (aI (jT _ _ _) (eJ (aI (jT _ _ _) (eJ (jT _ _ _))))))) ⋯,?_⟩
     have f_of:∀c o,Hd c=some o->c≠p->upd He p (HO.ins C dx (jo "leaps" (V.ref le) (jo "years" (V.ref ye) (jo "slopes" (V.ref acc) (jo "cycle" (V.ref cy) (jo "valley" (V.ref va) [])))))) c=some o:=λc o h n=>by rw [j5 n];exact e _ _ h (j1 h hle)
     have kf:Kp p Pt H (upd He p (HO.ins C dx (jo "leaps" (V.ref le) (jo "years" (V.ref ye) (jo "slopes" (V.ref acc) (jo "cycle" (V.ref cy) (jo "valley" (V.ref va) []))))))):=λc o h n m=>f_of c o (kd c o h n m) n
     have hnp:∀x∈lds,x.1≠p:=λx hx=>(j1 pd (hd x hx).2.2.1).symm
     refine k _ { dx:=dx,va:=va,cy:=cy,sl:=acc,ye:=ye,le:=le,xs:=xs,ys:=ys,zs:=zs,lds:=lds,kvs:=[],rs:=rs,rows:=ts,slopes:=ws.map (jb rs) } eg egr ⟨⟨j4,f_of _ _ vad vap,hrw.keep (jm.kp kf hp hPt),f_of _ _ cyd cyp,hr3.imp λa t e=>kf.at e hp hPt (by walk_at "z") (by walk_at "z"),f_of _ _ sld acp,Paired.mapP slsd λv wy ⟨a,e,ha⟩=>⟨a,e,f_of _ _ ha (jk ha pd (by walk_at "z"))⟩,f_of _ _ yed yep,(by rw [j5 lep];exact he),λx hx=>by rw [j5 (hnp x hx)];exact (hd x hx).1⟩,kf,va0,cy0,acc0,ye0,le0,zs0,rfl,λx hx=>⟨kd.free (hd x hx).2.2.1 pd hPtd,(hd x hx).2.1⟩,hl.trans (aY slsd),nn,λx hx=>(j1 yed (hd x hx).2.2.1).symm,ws,hR,rfl⟩ rfl rfl rfl rfl (ul (Td.extN hle e) hpe)
noncomputable def yH (CY:Addr):Sp:=λvs H Q E=>∃y:Int,vs=[.int y]/\(0<=y->y<=99->Q .non H)/\(y<0\/99<y->E (.ref CY) none H)
theorem hV:FnScope ["year"] ["year"] (j7 yh):=by walk_at "s"
theorem hE {f CY:Addr}{fd:FuncData}{u0:Tok}(g_LAST_TOLD:mg "LAST_TOLD" = some (.int 99 u0)) (e_BadYear:mg "BadYear" = some (.ref CY)) (x_BadYear:dq K CY [.type "ValueError",.type "Exception",.type "BaseException",.type "object"] "ValueError.__new__" = true) (F:Fun K "check_told" "check_told" yh f fd):FnOk P w K mg base (CX1 P w) 1 f fd ["year"] (yH CY):=by
 refine Fun.okX F hV (λvs H Q E h=>?_) (λcdv A outer s H vs Q E hr h=>?_)
 ·obtain ⟨y,rfl,_⟩:=h
  rfl
 ·obtain ⟨y,rfl,k,kx⟩:=h
  refine ⟨_,(j9 (qq (xw (xW qy qy j8 (pv 0) (xc (v:=V.int 99) rfl g_LAST_TOLD ⟨_,rfl⟩))) (j9 (xu bD x_BadYear e_BadYear rfl zd rfl (j0 jJ j2))) jF)),?_⟩
  left
  refine xo (λh0=>?_) (λh0=>?_)
  ·left
   refine y4 (λh1=>?_) (λh1=>?_)
   ·left
    exact ⟨by show 1<=sizeLine;decide,kx (.inr ())⟩
   ·left
    exact k h0 h1
  ·left
   refine vj ?_
   left
   exact ⟨by show 1<=sizeLine;decide,kx (.inl ())⟩
theorem IceAt.years {C p:Addr}{H H':Hp}{g:IceG}{kvs:List (Key×V)}(I:IceAt C H p g) (hn:∀x∈g.lds,x.1≠g.ye) (e:Ext g.ye H H') (h:H' g.ye=some (.dK kvs)):IceAt C H' p { g with kvs:=kvs }:=by
 have f:∀{c:Addr} {o:HO},H c=some o->o≠.dK g.kvs->H' c=some o:=λh n=>e _ _ h (jk h I.ye n)
 exact ⟨f I.ob (by walk_at "z"),f I.va (by walk_at "z"),I.rs.keep λ_ _ q=>f q (by walk_at "z"),f I.cy (by walk_at "z"),I.rows.imp λ_ _ q=>f q (by walk_at "z"),f I.sl (by walk_at "z"),Paired.mapP I.slopes λv w ⟨a,ea,q⟩=>⟨a,ea,f q (by walk_at "z")⟩,h,f I.le (by walk_at "z"),λx hx=>e _ _ (I.lds x hx) (hn x hx)⟩
noncomputable def VE (C CY CW:Addr):Sp:=λvs H Q E=>∃(p t:Addr) (g:IceG) (y:Int) (r:T3),vs=[.ref p,.int y,.ref t]/\IceAt C H p g/\(∀x∈g.lds,x.1≠g.ye)/\H t=some (yq r)/\g.kvs.length<=1000 /\
 (∀H',0<=y->y<=99->good r=true->Ext g.ye H H'->IceAt C H' p { g with kvs:=qJ g.kvs (.inl y) (.ref t) }->Q .non H')/\(y<0\/99<y->E (.ref CY) none H)/\(0<=y->y<=99->good r=false->E (.ref CW) none H)
theorem Jo:FnScope ["self","year","row"] ["self","year","row"] (j7 yZ):=by walk_at "s"
theorem Jm {f C CY CW:Addr}{fd:FuncData}(nb:Nb2 mg) (T:IceC K C) (e_BadWeather:mg "BadWeather" = some (.ref CW)) (x_BadWeather:dq K CW [.type "ValueError",.type "Exception",.type "BaseException",.type "object"] "ValueError.__new__" = true) (c_check_told:CalX P w K mg base 1 "check_told" ["year"] (yH CY)) (c_is_weather:Cal P w K mg base 1 "is_weather" ["row"] Xy) (F:Fun K "tell" "Ice.tell" yZ f fd):FnOk P w K mg base (CX1 P w) 2 f fd ["self","year","row"] (VE C CY CW):=by
 refine Fun.okX F Jo (λvs H Q E h=>?_) (λcdv A outer s H vs Q E hr h=>?_)
 ·obtain ⟨p,t,g,y,r,rfl,_⟩:=h
  rfl
 ·obtain ⟨p,t,g,y,r,rfl,I,hn,ht,hk,k,ky,kw⟩:=h
  refine ⟨_,(j6 (qa (yt c_check_told (hr.mono ⋯) qO rfl (j0 (pv 1) j2)))
   (j6 (qq (xw (yw (jf c_is_weather (hr.mono ⋯) rfl (j0 (pv 2) j2)))) (j9 (xu bD x_BadWeather e_BadWeather rfl zd rfl (j0 jJ j2))) jF)
   (j9 (yk (jQ hr) (qH K (pv 0)) (pv 1) (pv 2) rfl)))),?_⟩
  left
  refine ⟨λh0 h1=>?_,λhb=>ky hb⟩
  left
  refine ⟨t,r,rfl,ht,?_⟩
  cases eg:good r with
  | false =>
   left
   exact ⟨by show 1<=sizeLine;decide,kw h0 h1 eg⟩
  | true =>
   left
   refine ⟨p,C,g.dx,_,_,rfl,I.ob,T.cl,T.nY,yo _ _ _ _ _,?_⟩
   left
   refine ⟨g.ye,_,rfl,kT.k (k:=.inl y) I.ye (ja hk),?_⟩
   exact k _ h0 h1 eg Ext.put (I.years hn Ext.put j4)
noncomputable def yY (l:List (Addr×List (Key×V))) (n:Nat) (kvs:List (Key×V)):List (Addr×List (Key×V)):=l.set n ((l.getD n (0,[])).1,kvs)
theorem Zx (l:List (Addr×List (Key×V))) (n:Nat) (kvs:List (Key×V)):(yY l n kvs).map (λx=>V.ref x.1)=l.map λx=>V.ref x.1:=by
 unfold yY
 rw [List.map_set]
 by_cases h:n<l.length
 ·rw [ak,ae h]
  refine i5 λi=>?_
  rw [i9]
  by_cases e:n=i
  ·subst e
   rw [if_pos rfl,aa,if_pos h,aB,ae h]
   rfl
  ·rw [if_neg e]
 ·rw [List.set_eq_of_length_le (by rw [aa];omega)]
theorem IceAt.leap {C p:Addr}{H H':Hp}{g:IceG}{n:Nat}{a:Addr}{kvs kvs':List (Key×V)}(I:IceAt C H p g) (ha:g.lds[n]? = some (a,kvs)) (hn:∀x∈g.lds,x.1≠g.ye) (nd:(g.lds.map (·.1)).Nodup) (e:Ext a H H') (h:H' a=some (.dK kvs')):IceAt C H' p { g with lds:=yY g.lds n kvs' }:=by
 have hm:=ay ha
 have h0:=I.lds _ hm
 have f:∀{c:Addr} {o:HO},H c=some o->(∀z,o≠.dK z)->H' c=some o:=λh n=>e _ _ h (jk h h0 (n _))
 have hl:n<g.lds.length:=(List.getElem?_eq_some_iff.mp ha).1
 refine ⟨f I.ob (by walk_at "w"),f I.va (by walk_at "w"),I.rs.keep λ_ _ q=>f q (by walk_at "w"),f I.cy (by walk_at "w"),I.rows.imp λ_ _ q=>f q (by walk_at "w"),f I.sl (by walk_at "w"),Paired.mapP I.slopes λv w ⟨a,ea,q⟩=>⟨a,ea,f q (by walk_at "w")⟩,e _ _ I.ye (λz=>hn _ hm z.symm),(by show H' g.le=_;rw [Zx];exact f I.le (by walk_at "w")),λx hx=>?_⟩
 have hx':x∈yY g.lds n kvs':=hx
 obtain ⟨i,hi,ex⟩:=List.mem_iff_getElem.mp hx'
 have hi2:i<g.lds.length:=by unfold yY at hi;rw [iD] at hi;exact hi
 have ex2:(yY g.lds n kvs')[i]? = some x:=by rw [ae hi,ex]
 unfold yY at ex2
 rw [i9] at ex2
 by_cases en:n=i
 ·rw [if_pos en,if_pos ()] at ex2
  rw [<- aM ex2,ak,ha]
  exact h
 ·rw [if_neg en] at ex2
  refine e _ _ (I.lds x (ay ex2)) λz=>en ?_
  have h1:(g.lds.map (·.1))[n]? = some a:=by rw [aB,ha];rfl
  have h2:(g.lds.map (·.1))[i]? = some a:=by rw [aB,ex2,<- z];rfl
  have l1:=(List.getElem?_eq_some_iff.mp h1).1
  have l2:=(List.getElem?_eq_some_iff.mp h2).1
  exact (List.getElem?_inj l1 nd).mp (h1.trans h2.symm)
noncomputable def Zs (C CN CY CS:Addr):Sp:=λvs H Q E=>∃(p:Addr) (g:IceG) (l y m:Int),vs=[.ref p,.int l,.int y,.int m]/\IceAt C H p g/\g.lds.length=g.slopes.length/\(∀x∈g.lds,x.1≠g.ye)/\(g.lds.map (·.1)).Nodup/\(∀x∈g.lds,x.2.length<=1000) /\
 (∀H' a kvs,0<=l->l<(g.slopes.length:Int)->0<=y->y<=99->1<=m->m<=9->g.lds[l.toNat]? = some (a,kvs)->Ext a H H'->IceAt C H' p { g with lds:=yY g.lds l.toNat (qJ kvs (.inl y) (.int m)) }->Q .non H') /\
 (l<0\/(g.slopes.length:Int)<=l->E (.ref CN) none H)/\(0<=l->l<(g.slopes.length:Int)->y<0\/99<y->E (.ref CY) none H)/\(0<=l->l<(g.slopes.length:Int)->0<=y->y<=99->m<1\/9<m->E (.ref CS) none H)
theorem gk:FnScope ["self","lane","year","many"] ["self","lane","year","many"] (j7 yr):=by walk_at "s"
theorem hX {f C CN CY CS:Addr}{fd:FuncData}{u0:Tok}(nb:Nb2 mg) (T:IceC K C) (cl_Ice:Cls K C) (g_GREATEST_SURGE:mg "GREATEST_SURGE" = some (.int 9 u0)) (e_BadSurge:mg "BadSurge" = some (.ref CS)) (x_BadSurge:dq K CS [.type "ValueError",.type "Exception",.type "BaseException",.type "object"] "ValueError.__new__" = true) (c_Ice__check_lane:CalMX P w K mg base 1 C "check_lane" ["self","lane"] (xi C CN)) (c_check_told:CalX P w K mg base 1 "check_told" ["year"] (yH CY)) (F:Fun K "surge" "Ice.surge" yr f fd):FnOk P w K mg base (CX1 P w) 2 f fd ["self","lane","year","many"] (Zs C CN CY CS):=by
 refine Fun.okX F gk (λvs H Q E h=>?_) (λcdv A outer s H vs Q E hr h=>?_)
 ·obtain ⟨p,g,l,y,m,rfl,_⟩:=h
  rfl
 ·obtain ⟨p,g,l,y,m,rfl,I,hll,hn,nd,hk,k,kn,ky,ks⟩:=h
  refine ⟨_,(j6 (qa (zU (pv 0) cl_Ice c_Ice__check_lane (hr.mono ⋯) qO (j0 (pv 1) j2)))
   (j6 (qa (yt c_check_told (hr.mono ⋯) qO rfl (j0 (pv 2) j2)))
   (j6 (qq (xw (xW qy qy j8 (pv 3) (xc (v:=V.int 9) rfl g_GREATEST_SURGE ⟨_,rfl⟩))) (j9 (xu bD x_BadSurge e_BadSurge rfl zd rfl (j0 jJ j2))) jF)
   (j9 (yk (jQ hr) (jn (je K) (qH K (pv 0)) (pv 1) (λ_ _=>rfl)) (pv 2) (pv 3) rfl))))),?_⟩
  left
  refine ⟨p,g.dx,_,rfl,I.ob,qr ∅,?_⟩
  left
  refine ⟨p,g,l,rfl,I,λl0 l1=>?_,λhb=>kn hb⟩
  left
  refine ⟨λh0 h1=>?_,λhb=>ky l0 l1 hb⟩
  have hi:l.toNat<g.lds.length:=()
  left
  refine xo (λm0=>?_) (λm0=>?_)
  ·left
   refine y4 (λm1=>?_) (λm1=>?_)
   ·left
    exact ⟨by show 1<=sizeLine;decide,ks l0 l1 h0 h1 (.inr ())⟩
   ·left
    refine ⟨p,C,g.dx,_,_,rfl,I.ob,T.cl,T.nL,vL _ _ _ _ _,?_⟩
    left
    refine ⟨_,_,_,_,rfl,rfl,SqL.of I.le,xg l0 (v:=V.ref (g.lds[l.toNat]'hi).1) (by rw [aB,ae hi];rfl),?_⟩
    left
    have h0':=I.lds _ (bP hi)
    refine ⟨_,_,rfl,kT.k (k:=.inl y) h0' (ja (hk _ (bP hi))),?_⟩
    exact k _ _ _ l0 l1 h0 h1 m0 m1 (ae hi) Ext.put (I.leap (ae hi) hn nd Ext.put j4)
  ·left
   refine vj ?_
   left
   exact ⟨by show 1<=sizeLine;decide,ks l0 l1 h0 h1 (.inl ())⟩
noncomputable def kvI (q:Int×Int):Key×V:=(.inl q.1,.int q.2)
noncomputable def jH:List (Int×Int)->Int->Int
 | [],_=>0
 | q::r,y=>if q.1=y then q.2 else jH r y
theorem zj:∀(ns:List (Int×Int)) (y:Int),y∈ns.map (·.1)->qi (ns.map kvI) (.inl y)=some (.int (jH ns y))
 | [],y,h=>by cases h
 | q::r,y,h=>by
  rw [aO]
  unfold qi jH
  by_cases e:q.1=y
  ·subst e
   simp [kvI,oA]
  ·have h':y∈r.map (·.1):=by
    rcases List.mem_cons.mp h with z | z
    ·exact absurd z.symm e
    ·exact z
   have ih:=zj r y h'
   unfold qi at ih
   simp [kvI,oA,e] at ih ⊢
   exact ih
theorem Qk:∀(ns:List (Int×Int)),(ns.map (·.1)).Nodup->(ns.map (·.1)).map (λy=>(y,jH ns y))=ns
 | [],_=>rfl
 | q::r,nd=>by
  rw [aO] at nd ⊢
  obtain ⟨h1,h2⟩:=List.nodup_cons.mp nd
  rw [aO]
  have e:jH (q::r) q.1=q.2:=by unfold jH;rw [if_pos rfl]
  rw [e]
  refine congrArg (q :: ·) ?_
  conv=>rhs;rw [<- Qk r h2]
  refine dZ λy hy=>?_
  have hne:¬q.1=y:=λz=>h1 (z ▸ hy)
  show (y,jH (q::r) y)=_
  conv=>lhs;unfold jH
  rw [if_neg hne]
noncomputable def uA (C CN:Addr):Sp:=λvs H Q E=>∃(p:Addr) (g:IceG) (l:Int),vs=[.ref p,.int l]/\IceAt C H p g/\g.lds.length=g.slopes.length/\(l<0\/(g.slopes.length:Int)<=l->E (.ref CN) none H) /\
 (0<=l->l<(g.slopes.length:Int)->∃(a:Addr) (ns:List (Int×Int)),g.lds[l.toNat]? = some (a,ns.map kvI)/\(ns.map (·.1)).Nodup/\ns.length<64 /\
  ∀o H' out (ms:List (Int×Int)),H o=none->H' o=some (.lst out)->ck (λv (m:Int×Int)=>∃b,v=V.ref b/\H' b=some (.tup [.int m.1,.int m.2])) out ms->jg H H'->ms.Perm ns->(ms.map (·.1)).Pairwise (· <= ·)->Q (.ref o) H')
theorem km:FnScope ["self","lane"] ["self","lane"] (j7 xO):=by walk_at "s"
theorem ko {f C CN:Addr}{fd:FuncData}(nb:Nb2 mg) (T:IceC K C) (cl_Ice:Cls K C) (c_Ice__check_lane:CalMX P w K mg base 1 C "check_lane" ["self","lane"] (xi C CN)) (F:Fun K "surges" "Ice.surges" xO f fd):FnOk P w K mg base (CX1 P w) 2 f fd ["self","lane"] (uA C CN):=by
 refine Fun.okX F km (λvs H Q E h=>?_) (λcdv A outer s H vs Q E hr h=>?_)
 ·obtain ⟨p,g,l,rfl,_⟩:=h
  rfl
 ·obtain ⟨p,g,l,rfl,I,hll,kx,k⟩:=h
  refine ⟨_,(j6 (qa (zU (pv 0) cl_Ice c_Ice__check_lane (hr.mono ⋯) qO (j0 (pv 1) j2)))
   (j9 (jj (jA (osc:=(j7 xO)) (ON:=["self","lane"]) (N:=["year","lane","self"]) (own:=1) (caps:=[1,0]) ⟨rfl,∅,∅,∅,rfl,∅⟩ rfl rfl rfl (jL K (jc (ua K rfl) rfl nb.b_sorted n5 (j0 (jn (je K) (qH K (pv 0)) (pv 1) (λ_ _=>rfl)) j2))) (λ_ _ _ _ _=>(jd (i:=0) (show aR (["year","lane","self"]:List Str) by decide +kernel) rfl (aW rfl))) (λ_ _ _ _ _=>jq) (λ_ _ _ _ _=>(xN (j0 (pv 0) (j0 (jE (jQ hr) (jn (je K) (qH K (pv 2)) (pv 1) (λ_ _=>rfl)) (pv 0) (λ_ _=>rfl)) j2)))))))),?_⟩
  left
  refine ⟨p,g.dx,_,rfl,I.ob,qr ∅,?_⟩
  left
  refine ⟨p,g,l,rfl,I,λl0 l1=>?_,λhb=>kx hb⟩
  obtain ⟨a,ns,ha,nd,h64,k⟩:=k l0 l1
  have hi:=(List.getElem?_eq_some_iff.mp ha).1
  have hm:=I.lds _ (ay ha)
  have hat:atI (g.lds.map λx=>V.ref x.1) l=some (.ref a):=xg l0 (by rw [aB,ha];rfl)
  left
  refine ⟨p,C,g.dx,_,_,rfl,I.ob,T.cl,T.nL,vL _ _ _ _ _,?_⟩
  left
  refine ⟨_,_,_,_,rfl,rfl,SqL.of I.le,hat,?_⟩
  refine ⟨a,ns.map kvI,ns.map (·.1),rfl,hm,by rw [bz,bz];rfl,by rw [aa];exact h64,λo H1 ks ho ho1 s1 hp hs=>?_⟩
  have hkl:ks.length<64:=by rw [hp.length_eq,aa];exact h64
  refine ⟨o,rfl,⟨_,SqL.of ho1⟩,λacc hacc=>?_⟩
  refine jK (K:=K) (a:=o) (xs:=ks.map V.int) (acc:=acc) (λi σ H2=>∃(x:Option V) (out:List V),σ=[x,some (.int l),some (.ref p)]/\H2 acc=some (.lst out)/\out.length=i/\ck (λv (m:Int×Int)=>∃b,v=V.ref b/\H2 b=some (.tup [.int m.1,.int m.2])) out ((ks.take i).map λy=>(y,jH ns y))/\Ext acc H1 H2) ?_ ?_ ?_ ?_
  ·exact ⟨none,[],rfl,j4,rfl,.nil,Ext.put⟩
  ·rintro i σ H2 hi ⟨x,out,rfl,h2,hz,r2,e2⟩
   exact SqL.of (e2 _ _ ho1 (j1 ho1 hacc))
  ·rintro i v σ H2 hv ⟨x,out,rfl,h2,hz,r2,e2⟩
   obtain ⟨y,rfl,hy⟩:=xq hv
   have hiy:=(List.getElem?_eq_some_iff.mp hy).1
   have hyn:y∈ns.map (·.1):=hp.mem_iff.mp (ay hy)
   have t2:jg H H2:=λc o hc=>e2 _ _ (s1 _ _ hc) (j1 (s1 _ _ hc) hacc)
   have I2:=I.same t2
   left
   refine ⟨p,C,g.dx,_,_,rfl,I2.ob,T.cl,T.nL,vL _ _ _ _ _,?_⟩
   left
   refine ⟨_,_,_,_,rfl,rfl,SqL.of I2.le,hat,?_⟩
   left
   refine ⟨a,.int (jH ns y),rfl,by rw [<- zj ns y hyn];exact qK.k (k:=.inl y) (t2 _ _ hm),?_⟩
   left
   refine ⟨by show 2<=sizeLine;decide,λb H3 hb hb3 s3=>?_⟩
   have h3:=s3 _ _ h2
   have bacc:b≠acc:=(j1 h2 hb).symm
   refine ⟨out,h3,ja (),some (.int y),out++[.ref b],rfl,j4,by rw [aw,hz];rfl,?_,λc o hc n=>by rw [j5 n];exact s3 _ _ (e2 c o hc n)⟩
   rw [qz (λy=>(y,jH ns y)) ks i y hy]
   exact cU (Paired.mapP r2 λv m ⟨c,e,q⟩=>⟨c,e,by rw [j5 (jk (s3 _ _ q) h3 (by walk_at "z"))];exact s3 _ _ q⟩) ⟨b,rfl,by rw [j5 bacc];exact hb3⟩
  ·rintro σ H2 ⟨x,out,rfl,h2,hz,r2,e2⟩
   rw [aa,aS] at r2
   have t2:jg H H2:=λc o hc=>e2 _ _ (s1 _ _ hc) (j1 (s1 _ _ hc) hacc)
   refine k acc H2 out _ (s1.free hacc) h2 r2 t2 ?_ ?_
   ·have:=hp.map λy=>(y,jH ns y)
    rw [Qk ns nd] at this
    exact this
   ·rw [bz]
    have:((λx:Int×Int=>x.1) ∘ λy=>(y,jH ns y))=id:=rfl
    rw [this,n9]
    exact hs
noncomputable def Vq:Sp:=λvs H Q _=>∃(L b:Addr),vs=[.ref b]/\qh L H b/\∀(y:Int) (H':Hp),0<=y->y<=99->qh L H' b->Ext b H H'->Q (.int y) H'
theorem Q5:FnScope ["_law_box_here"] ["_law_box_here"] (j7 vw):=by walk_at "s"
theorem Uw {v a b c:Int}(h0:0<=v) (h1:v<5) (ha:0<=a/\a<=99) (hb:0<=b/\b<=99) (hc:0<=c/\c<=99):∃n,atI [V.int a,V.int b,V.int c,V.int 99,V.int 0] v=some (V.int n)/\0<=n/\n<=99:=by
 have h:v=0\/v=1\/v=2\/v=3\/v=4:=()
 rcases h with rfl | rfl | rfl | rfl | rfl
 ·exact ⟨a,rfl,ha.1,ha.2⟩
 ·exact ⟨b,rfl,hb.1,hb.2⟩
 ·exact ⟨c,rfl,hc.1,hc.2⟩
 ·exact ⟨99,rfl,⋯,⋯⟩
 ·exact ⟨0,rfl,⋯,⋯⟩
theorem UC {f:Addr}{fd:FuncData}(c_law_take:Cal P w K mg base 2 "_law_take" ["_law_box_here","_law_size"] zy) (F:Fun K "_law_year" "_law_year" vw f fd):FnOk P w K mg base CX0 3 f fd ["_law_box_here"] Vq:=by
 refine F.ok Q5 (λvs H Q E h=>?_) (λcdv A outer s H vs Q E hr h=>?_)
 ·obtain ⟨L,b,rfl,_⟩:=h
  rfl
 ·obtain ⟨L,b,rfl,B,k⟩:=h
  refine ⟨_,(j9 (jj (jn (je K) (jU (j0 (jf c_law_take (hr.mono ⋯) rfl (j0 (pv 0) (j0 j8 j2))) (j0 (jf c_law_take (hr.mono ⋯) rfl (j0 (pv 0) (j0 j8 j2))) (j0 (jf c_law_take (hr.mono ⋯) rfl (j0 (pv 0) (j0 j8 j2))) (j0 j8 (j0 j8 j2)))))) (jf c_law_take (hr.mono ⋯) rfl (j0 (pv 0) (j0 j8 j2))) (λ_ _=>rfl)))),?_⟩
  left
  refine ⟨L,b,_,rfl,B,⟨⋯,⋯⟩,λv1 H1 p1 q1 B1 X1=>?_⟩
  left
  refine ⟨L,b,_,rfl,B1,⟨⋯,⋯⟩,λv2 H2 p2 q2 B2 X2=>?_⟩
  left
  refine ⟨L,b,_,rfl,B2,⟨⋯,⋯⟩,λv3 H3 p3 q3 B3 X3=>?_⟩
  left
  refine ⟨by show 5<=sizeLine;decide,λl H4 hl hl4 s4=>?_⟩
  left
  refine ⟨L,b,_,rfl,B3.same s4,⟨⋯,⋯⟩,λv5 H5 p5 q5 B5 X5=>?_⟩
  obtain ⟨n,en,n0,n1⟩:=Uw p5 q5 (a:=v1) (b:=v2) (c:=v3) ⟨p1,()⟩ ⟨p2,()⟩ ⟨p3,()⟩
  refine ⟨_,_,_,_,rfl,rfl,SqL.of (X5 _ _ hl4 (B3.ne hl)),en,?_⟩
  exact k n H5 n0 n1 B5 ((((X1.trans X2).trans X3).trans (Ext.of_same s4)).trans X5)
noncomputable def scK (p q sg gl ll:Addr):List (Key×V):=[(.inr "reaches",.ref p),(.inr "rows",.ref q),(.inr "single",.ref sg),(.inr "grounds",.ref gl),(.inr "leaps",.ref ll)]
theorem xz {k:Key}{v:V}{r:List (Key×V)}:qi ((k,v)::r) k=some v:=by
 unfold qi
 rw [mj (p:=λkv:Key×V=>decide (kv.1=k)) (a:=(k,v)) (decide_eq_true rfl)]
 rfl
theorem jr {k k':Key}{v:V}{r:List (Key×V)}(h:k'≠k):qi ((k',v)::r) k=qi r k:=by
 unfold qi
 rw [ml (p:=λkv:Key×V=>decide (kv.1=k)) (a:=(k',v)) (λz=>h (of_decide_eq_true z))]
theorem Xq (p q sg gl ll:Addr):qi (scK p q sg gl ll) (.inr "reaches")=some (.ref p):=xz
theorem Jp (p q sg gl ll:Addr):qi (scK p q sg gl ll) (.inr "rows")=some (.ref q):=(jr (show (bo (ao "reaches"):Key)≠bo (ao "rows") by decide +kernel)).trans (xz)
theorem zg (p q sg gl ll:Addr):qi (scK p q sg gl ll) (.inr "single")=some (.ref sg):=(jr (show (bo (ao "reaches"):Key)≠bo (ao "single") by decide +kernel)).trans ((jr (show (bo (ao "rows"):Key)≠bo (ao "single") by decide +kernel)).trans (xz))
theorem ym (p q sg gl ll:Addr):qi (scK p q sg gl ll) (.inr "grounds")=some (.ref gl):=(jr (show (bo (ao "reaches"):Key)≠bo (ao "grounds") by decide +kernel)).trans ((jr (show (bo (ao "rows"):Key)≠bo (ao "grounds") by decide +kernel)).trans ((jr (show (bo (ao "single"):Key)≠bo (ao "grounds") by decide +kernel)).trans (xz)))
theorem vY (p q sg gl ll:Addr):qi (scK p q sg gl ll) (.inr "leaps")=some (.ref ll):=(jr (show (bo (ao "reaches"):Key)≠bo (ao "leaps") by decide +kernel)).trans ((jr (show (bo (ao "rows"):Key)≠bo (ao "leaps") by decide +kernel)).trans ((jr (show (bo (ao "single"):Key)≠bo (ao "leaps") by decide +kernel)).trans ((jr (show (bo (ao "grounds"):Key)≠bo (ao "leaps") by decide +kernel)).trans (xz))))
noncomputable def FrM (M:Addr->Prop) (H H':Hp):Prop:=∀c o,H c=some o->H' c=some o\/(M c/\∃ob kvs,o = .dK kvs/\H' c=some (.frz ob (.dK kvs)))
theorem FrM.of_same {M:Addr->Prop}{H H':Hp}(s:jg H H'):FrM M H H':=λc o h=>.inl (s c o h)
theorem FrM.trans {M:Addr->Prop}{H H1 H2:Hp}(a:FrM M H H1) (b:FrM M H1 H2):FrM M H H2:=λc o h=>by
 rcases a c o h with h1 | ⟨m,ob,kvs,e,h1⟩
 ·exact b c o h1
 ·rcases b c _ h1 with h2 | ⟨_,_,_,e2,_⟩
  ·exact .inr ⟨m,ob,kvs,e,h2⟩
  ·cases e2
theorem FrM.at {M:Addr->Prop}{H H':Hp}(f:FrM M H H') {c:Addr}{o:HO}(h:H c=some o) (n:∀kvs,o≠.dK kvs):H' c=some o:=by
 rcases f c o h with h1 | ⟨_,ob,kvs,e,_⟩
 ·exact h1
 ·exact absurd e (n kvs)
noncomputable def qC (ns:List (Int×Int)) (y:Int):Int:=((ns.filter λq=>decide (q.1<=y)).map (·.2)).sum
theorem ve:∀{ns:List (Int×Int)},(ns.map (·.1)).Nodup->∀{z:Int×Int},z∈ns->jH ns z.1=z.2
 | [],_,z,h=>by cases h
 | q::r,nd,z,h=>by
  rw [aO] at nd
  obtain ⟨h1,h2⟩:=List.nodup_cons.mp nd
  unfold jH
  rcases List.mem_cons.mp h with e | e
  ·rw [e,if_pos rfl]
  ·have ne:¬q.1=z.1:=λw=>h1 (by rw [w];exact aX e)
   rw [if_neg ne]
   exact ve h2 e
theorem Xg {ns:List (Int×Int)}{i:Nat}{q:Key×V}(h:(ns.map kvI)[i]? = some q):∃z,ns[i]? = some z/\q=kvI z:=by
 rw [aB] at h
 cases e:ns[i]? with
 | none=>rw [e] at h;cases h
 | some z=>rw [e] at h;cases h;exact ⟨z,rfl,rfl⟩
theorem qP (q:Int×Int) (r:List (Int×Int)) (y:Int):qC (q::r) y=(if q.1<=y then q.2 else 0)+qC r y:=by
 unfold qC
 rw [lT]
 by_cases h:q.1<=y
 ·rw [decide_eq_true h,if_pos rfl,if_pos h,aO,cG]
 ·rw [decide_eq_false h,if_neg au,if_neg h,d5]
theorem XR {ms ns:List (Int×Int)}(p:ms.Perm ns) (y:Int):qC ms y=qC ns y:=by
 induction p with
 | nil=>rfl
 | cons q _ ih=>rw [qP,qP,ih]
 | swap a b r=>rw [qP,qP,qP,qP];omega
 | trans _ _ a b=>rw [a,b]
noncomputable def uo (CY:Addr):Sp:=λvs H Q E=>∃y:Int,vs=[.int y]/\(0<=y->y<=10 ^ 40->Q .non H)/\(y<0\/10 ^ 40<y->E (.ref CY) none H)
theorem kF:FnScope ["year"] ["year"] (j7 zP):=by walk_at "s"
theorem kz {f CY:Addr}{fd:FuncData}{u0:Tok}(g_LAST_ASKED:mg "LAST_ASKED" = some (.int 10000000000000000000000000000000000000000 u0)) (e_BadYear:mg "BadYear" = some (.ref CY)) (x_BadYear:dq K CY [.type "ValueError",.type "Exception",.type "BaseException",.type "object"] "ValueError.__new__" = true) (F:Fun K "check_asked" "check_asked" zP f fd):FnOk P w K mg base (CX1 P w) 1 f fd ["year"] (uo CY):=by
 refine Fun.okX F kF (λvs H Q E h=>?_) (λcdv A outer s H vs Q E hr h=>?_)
 ·obtain ⟨y,rfl,_⟩:=h
  rfl
 ·obtain ⟨y,rfl,k,kx⟩:=h
  refine ⟨_,(j9 (qq (xw (xW qy qy j8 (pv 0) (xc (v:=V.int 10000000000000000000000000000000000000000) rfl g_LAST_ASKED ⟨_,rfl⟩))) (j9 (xu bD x_BadYear e_BadYear rfl zd rfl (j0 jJ j2))) jF)),?_⟩
  left
  refine xo (λh0=>?_) (λh0=>?_)
  ·left
   refine y4 (λh1=>?_) (λh1=>?_)
   ·left
    exact ⟨by show 1<=sizeLine;decide,kx (.inr ())⟩
   ·left
    exact k h0 h1
  ·left
   refine vj ?_
   left
   exact ⟨by show 1<=sizeLine;decide,kx (.inl ())⟩
noncomputable def Ur (g:IceG) (l:Int) (ns:List (Int×Int)):Prop:=0<=l/\l<(g.slopes.length:Int)/\(∃a,g.lds[l.toNat]? = some (a,ns.map kvI))/\(ns.map (·.1)).Nodup/\ns.length<64/\∀q∈ns,0<=q.2/\q.2<=9
theorem J4 {a acc:Addr}{o:Obj}{ns:List (Int×Int)}{y:Int}{H:Hp}{R:Hp->Prop}(h:H a=some (.frz o (.dK (ns.map kvI)))) (nd:(ns.map (·.1)).Nodup) (hl:ns.length<=100) (hacc:H acc=none)
  (fin:∀H',H' acc=some (.lst (((ns.filter λq=>decide (q.1<=y)).map (·.2)).map V.int))->jg H H'->R H') :
  ∃W:Nat->Nat->L2.St->Hp->Prop,(∃m,W 0 m [none,some (.ref a),some (.int y)] (upd H acc (.lst [])))/\∀i m σ' H',W i m σ' H' ->
   ((Itd a o (ns.map kvI)).stop i H'/\R H')\/((Itd a o (ns.map kvI)).go i H'/\∃NX:L2.St->Hp->Prop,(∀σ2 H2,NX σ2 H2->∃m',m'<m/\W (i+1) m' σ2 H2) /\
    ∀x H2,(Itd a o (ns.map kvI)).yld i H' x H2->vo 0 x σ' H2 λσ3 H3=>QJ (tOp (rI0 λi j=>V.bl (decide (i<=j))) (Xl 0) (Xl 2)) σ3 H3 λok H4=>if ok=true then UR (Xl 1) (Xl 0) σ3 H4 λv H5=>∃ys,H5 acc=some (.lst ys)/\ys.length<sizeLine/\NX σ3 (upd H5 acc (.lst (ys++[v]))) else NX σ3 H4):=by
 refine gU (a:=a) (acc:=acc) (o:=o) (kvs:=ns.map kvI) (λi σ H'=>∃x:Option V,σ=[x,some (.ref a),some (.int y)]/\H' acc=some (.lst ((((ns.take i).filter λq=>decide (q.1<=y)).map (·.2)).map V.int))/\Ext acc H H') ⟨none,rfl,j4,Ext.put⟩ ?_ ?_ ?_
 ·rintro i σ H' hi ⟨x,rfl,h3,e3⟩
  exact e3 _ _ h (j1 h hacc)
 ·rintro i q σ H' hq ⟨x,rfl,h3,e3⟩
  obtain ⟨z,hz,rfl⟩:=Xg hq
  have hm:=ay hz
  have hi:i<ns.length:=(List.getElem?_eq_some_iff.mp hz).1
  have hl2:((((ns.take i).filter λq=>decide (q.1<=y)).map (·.2)).map V.int).length<=100:=by
   rw [aa,aa]
   exact aI (bG _ _) (by rw [aF];omega)
  have ha:=e3 _ _ h (j1 h hacc)
  show vo 0 (V.int z.1) _ _ _
  left
  refine xo (λle=>?_) (λle=>?_)
  ·refine ⟨_,rfl,_,rfl,a,V.int z.2,rfl,?_,_,h3,bS hl2 ⋯,_,rfl,?_,e3.trans Ext.put⟩
   ·have:=zj ns z.1 (aX hm)
    rw [ve nd hm] at this
    rw [<- this]
    exact .inl ⟨_,.inl z.1,.inr ⟨o,ha⟩,rfl,rfl⟩
   ·rw [j4,aT,hz,dw,bT,cN (by rw [decide_eq_true le]),aq,aq]
    rfl
  ·refine ⟨_,rfl,?_,e3⟩
   rw [aT,hz,dw,bT,cM (by rw [decide_eq_false le];exact au),mE,bc]
   exact h3
 ·rintro σ H' ⟨x,rfl,h3,e3⟩
  rw [aa,aS] at h3
  exact fin H' h3 λc u hc=>e3 c u hc (j1 hc hacc)
noncomputable def Xx:Sp:=λvs H Q _=>∃(M:Addr->Prop) (sd p q sg gl ll a:Addr) (lds:List Addr) (l y:Int) (ns:List (Int×Int)),vs=[.ref sd,.int l,.int y]/\H sd=some (.dK (scK p q sg gl ll))/\H ll=some (.lst (lds.map V.ref))/\0<=l/\lds[l.toNat]? = some a/\Rd H a (.dK (ns.map kvI))/\M a/\¬M sd/\ns.length<=100/\(ns.map (·.1)).Nodup/\(∀q∈ns,0<=q.2/\q.2<=9) /\
 ∀H',FrM M H H'->Q (.int (y+qC ns y)) H'
theorem w5:FnScope ["_law_scene_here","_law_lane","_law_year_here","_law_leaps"] ["_law_scene_here","_law_lane","_law_year_here"] (j7 yb):=by walk_at "s"
theorem Ui {f:Addr}{fd:FuncData}(nb:Nb2 mg) (F:Fun K "_law_ride" "_law_ride" yb f fd):FnOk P w K mg base CX0 1 f fd ["_law_scene_here","_law_lane","_law_year_here"] Xx:=by
 refine F.ok w5 (λvs H Q E h=>?_) (λcdv A outer s H vs Q E hr h=>?_)
 ·obtain ⟨M,sd,p,q,sg,gl,ll,a,lds,l,y,ns,rfl,_⟩:=h
  rfl
 ·obtain ⟨M,sd,p,q,sg,gl,ll,a,lds,l,y,ns,rfl,hsd,hll,l0,ha,hra,hM,nsd,h100,nd,h9,k⟩:=h
  refine ⟨_,(j6 (qW (i:=3) w5.nd rfl (dz rfl) (jn (je K) (jE (jQ hr) (pv 0) jJ (λ_ _=>rfl)) (pv 1) (λ_ _=>rfl)))
   (j9 (jj (ji jy (pv 2) (jc (Qq K rfl) rfl nb.b_sum i7 (j0 (jA (osc:=(j7 yb)) (ON:=["_law_scene_here","_law_lane","_law_year_here","_law_leaps"]) (N:=["_law_when","_law_leaps","_law_year_here"]) (own:=1) (caps:=[3,2]) ⟨rfl,∅,∅,∅,rfl,∅⟩ rfl rfl rfl (wx (pv 3)) (λ_ _ _ _ _=>(jd (i:=0) (show aR (["_law_when","_law_leaps","_law_year_here"]:List Str) by decide +kernel) rfl (aW rfl))) (λ_ _ _ _ _=>(yJ (jX qy (pv 0) (pv 2) (qd _)))) (λ_ _ _ _ _=>(jE (jQ hr) (pv 1) (pv 0) (λ_ _=>rfl)))) j2)))))),?_⟩
  left
  refine ⟨sd,.ref ll,rfl,by rw [<- vY p q sg gl ll];exact qK.k (k:=.inr "leaps") hsd,?_⟩
  left
  refine ⟨_,_,_,_,rfl,rfl,SqL.of hll,xg l0 (v:=V.ref a) (by rw [aB,ha];rfl),?_⟩
  left
  have fin:∀(H1:Hp),FrM M H H1->∀acc H2,H2 acc=some (.lst (((ns.filter λq=>decide (q.1<=y)).map (·.2)).map V.int))->jg H1 H2->kY [some (.ref sd),some (.int l),some (.int y),some (.ref a)] H2 λxs H3=>(∃(p:Addr) (ms:List Int),V.ref acc::xs=[V.ref p]/\SqL K H3 p (ms.map V.int)/\ms.length<=1000/\(∀n∈ms,0<=n/\n<=2 ^ 20)/\rI0 (λi j=>V.int (i+j)) (V.int y) (V.int ms.sum) H3 Q):=λH1 f1 acc H2 h2 s2=>by
   refine ⟨acc,_,rfl,SqL.of h2,?_,λn hn=>?_,?_⟩
   ·rw [aa]
    exact aI (bG _ _) ()
   ·obtain ⟨z,hz,rfl⟩:=List.mem_map.mp hn
    have:=h9 z (List.mem_filter.mp hz).1
    exact ⟨this.1,pe this.2 ⋯⟩
   ·exact ⟨_,_,rfl,rfl,k H2 (f1.trans (FrM.of_same s2))⟩
  rcases hra with h | ⟨o,h⟩
  ·refine ⟨a,_,rfl,.inl ⟨h,λo acc hacc=>?_⟩⟩
   have f1:FrM M H (upd H a (.frz o (.dK (ns.map kvI)))):=λc u hc=>by
    by_cases e:c=a
    ·subst e
     rw [h] at hc
     cases hc
     exact .inr ⟨hM,o,_,rfl,j4⟩
    ·exact .inl (by rw [j5 e];exact hc)
   exact J4 (a:=a) (o:=o) j4 nd h100 hacc λH2 h2 s2=>fin _ f1 acc H2 h2 s2
  ·refine ⟨a,_,rfl,.inr ⟨o,h,λacc hacc=>?_⟩⟩
   exact J4 (a:=a) (o:=o) h nd h100 hacc λH2 h2 s2=>fin _ (FrM.of_same (jg.refl H)) acc H2 h2 s2
noncomputable def kvA (z:Int×Addr):Key×V:=(.inl z.1,.ref z.2)
noncomputable def xJ {α:Type}(l:List (Int×α)) (y:Int) (a:α):List (Int×α):=if (l.any λz=>decide (z.1=y))=true then l.map (λz=>if z.1=y then (z.1,a) else z) else l++[(y,a)]
theorem k9 {α:Type}(f:α->V) (l:List (Int×α)) (y:Int) (a:α):qJ (l.map λz=>((.inl z.1,f z.2):Key×V)) (.inl y) (f a)=(xJ l y a).map λz=>((.inl z.1,f z.2):Key×V):=by
 have e:∀z:Int,decide ((dX z:Key)=dX y)=decide (z=y):=λz=>decide_eq_decide.mpr ⟨λh=>fh h,λh=>by rw [h]⟩
 have e1:((l.map λz=>((.inl z.1,f z.2):Key×V)).any λkv=>decide (kv.1=(dX y:Key)))=l.any λz=>decide (z.1=y):=by
  rw [List.any_map]
  congr 1
  funext z
  exact e z.1
 unfold qJ xJ
 rw [e1]
 by_cases h:(l.any λz=>decide (z.1=y))=true
 ·rw [if_pos h,if_pos h,bz,bz]
  refine dZ λz _=>?_
  show (if (dX z.1:Key)=dX y then _ else _)=_
  by_cases hz:z.1=y
  ·rw [if_pos (by rw [hz])]
   show _=(λz:Int×α=>((.inl z.1,f z.2):Key×V)) (if z.1=y then (z.1,a) else z)
   rw [if_pos hz]
  ·rw [if_neg (λw=>hz (fh w))]
   show _=(λz:Int×α=>((.inl z.1,f z.2):Key×V)) (if z.1=y then (z.1,a) else z)
   rw [if_neg hz]
 ·rw [if_neg h,if_neg h,aq]
  rfl
theorem kj {α:Type}{l:List (Int×α)}{y:Int}{a:α}{z:Int×α}(h:z∈xJ l y a):z∈l\/z=(y,a):=by
 unfold xJ at h
 by_cases c:(l.any λz=>decide (z.1=y))=true
 ·rw [if_pos c] at h
  obtain ⟨u,hu,e⟩:=List.mem_map.mp h
  by_cases q:u.1=y
  ·rw [if_pos q,q] at e
   exact .inr e.symm
  ·rw [if_neg q] at e
   exact .inl (e ▸ hu)
 ·rw [if_neg c] at h
  rcases List.mem_append.mp h with q | q
  ·exact .inl q
  ·exact .inr (by simpa using q)
theorem uw {α:Type}(l:List (Int×α)) (y:Int) (a:α):(xJ l y a).length<=l.length+1:=by
 unfold xJ
 split
 ·rw [aa];omega
 ·rw [aw];exact ar _
theorem kW {α:Type}{l:List (Int×α)}{y:Int}{a:α}(h:(l.map (·.1)).Nodup):((xJ l y a).map (·.1)).Nodup:=by
 unfold xJ
 by_cases c:(l.any λz=>decide (z.1=y))=true
 ·rw [if_pos c,bz]
  have:(l.map ((λx=>x.1) ∘ λz=>if z.1=y then (z.1,a) else z))=l.map (·.1):=dZ λz _=>by
   show (if z.1=y then (z.1,a) else z).1=z.1
   split <;> rfl
  rw [this]
  exact h
 ·rw [if_neg c,aq]
  refine wC h λz=>c ?_
  obtain ⟨u,hu,e⟩:=List.mem_map.mp z
  exact List.any_eq_true.mpr ⟨u,hu,decide_eq_true e⟩
structure ScN where
 p:Addr
 q:Addr
 sg:Addr
 gl:Addr
 ll:Addr
 xs:List V
 ys:List V
 zs:List V
 rs:List Rch
 ts:List T3
 ws:List (List Int)
 sk:List (Int×Addr)
 lds:List (Addr×List (Int×Int))
structure ScAt (H:Hp) (sd:Addr) (c:ScN):Prop where
 sd:H sd=some (.dK (scK c.p c.q c.sg c.gl c.ll))
 p:H c.p=some (.lst c.xs)
 rv:jV H c.xs c.rs
 q:H c.q=some (.lst c.ys)
 r3:qN H c.ys c.ts
 gl:H c.gl=some (.lst c.zs)
 gi:yx H c.zs (c.ws.map (jb c.rs))
 ll:H c.ll=some (.lst (c.lds.map λx=>V.ref x.1))
 sg:Rd H c.sg (.dK (c.sk.map kvA))
 sk:∀z∈c.sk,∃t,H z.2=some (yq t)/\good t=true
 ld:∀x∈c.lds,Rd H x.1 (.dK (x.2.map kvI))
structure ScOk (b:Addr) (c:ScN):Prop where
 gr:Grown c.rs
 l1:1<=c.rs.length
 l8:c.rs.length<=8
 t1:1<=c.ts.length
 t2:c.ts.length<=12
 tg:c.ts.all good=true
 ro:jY c.rs c.ws
 ldl:c.lds.length=c.ws.length
 nd:(c.lds.map (·.1)).Nodup
 ns:∀x∈c.lds,x.1≠c.sg
 pb:c.p≠b
 qb:c.q≠b
 gb:c.gl≠b
 lb:c.ll≠b
 zb:V.ref b∉c.zs
 k1:(c.sk.map (·.1)).Nodup
 k2:∀z∈c.sk,0<=z.1/\z.1<=99
 k3:c.sk.length<=10
 m1:∀x∈c.lds,(x.2.map (·.1)).Nodup
 m2:∀x∈c.lds,∀z∈x.2,0<=z.1/\z.1<=99/\1<=z.2/\z.2<=9
 m3:∀x∈c.lds,x.2.length<=10
noncomputable def Fr3 (N M:Addr->Prop) (H H':Hp):Prop:=∀c o,H c=some o->¬N c->H' c=some o\/(M c/\∃ob kvs,o = .dK kvs/\H' c=some (.frz ob (.dK kvs)))
theorem Fr3.at {N M:Addr->Prop}{H H':Hp}(f:Fr3 N M H H') {c:Addr}{o:HO}(h:H c=some o) (n:¬N c) (d:∀kvs,o≠.dK kvs):H' c=some o:=by
 rcases f c o h n with h1 | ⟨_,ob,kvs,e,_⟩
 ·exact h1
 ·exact absurd e (d kvs)
theorem Fr3.rd {N M:Addr->Prop}{H H':Hp}(f:Fr3 N M H H') {c:Addr}{kvs:List (Key×V)}(n:¬N c) (h:Rd H c (.dK kvs)):Rd H' c (.dK kvs):=by
 rcases h with h | ⟨o,h⟩
 ·rcases f c _ h n with h1 | ⟨_,ob,kvs',e,h1⟩
  ·exact .inl h1
  ·cases e
   exact .inr ⟨ob,h1⟩
 ·exact .inr ⟨o,f.at h n (by walk_at "w")⟩
theorem pmM {α β:Type}{F G:α->β->Prop}:∀{l₁:List α}{l₂:List β},ck F l₁ l₂->(∀v∈l₁,∀w,F v w->G v w)->ck G l₁ l₂
 | _,_,.nil,_=>.nil
 | _,_,.cons q r,h=>.cons (h _ (aG ..) _ q) (pmM r λv hv=>h v (az _ hv))
theorem ScAt.keep {N M:Addr->Prop}{H H':Hp}{sd:Addr}{c:ScN}(S:ScAt H sd c) (f:Fr3 N M H H') (nT:∀a xs,H a=some (.tup xs)->¬N a) (nsd:¬N sd) (msd:¬M sd) (np:¬N c.p) (nq:¬N c.q) (ng:¬N c.gl) (nl:¬N c.ll) (nz:∀a,V.ref a∈c.zs->¬N a) (ns:¬N c.sg) (nd:∀x∈c.lds,¬N x.1):ScAt H' sd c:=by
 have t:∀a xs,H a=some (.tup xs)->H' a=some (.tup xs):=λa xs h=>f.at h (nT a xs h) (by walk_at "w")
 refine ⟨?_,f.at S.p np (by walk_at "w"),S.rv.keep t,f.at S.q nq (by walk_at "w"),S.r3.imp λ_ _ h=>t _ _ h,f.at S.gl ng (by walk_at "w"),pmM S.gi λv hv w ⟨a,ea,q⟩=>⟨a,ea,f.at q (nz a (ea ▸ hv)) (by walk_at "w")⟩,f.at S.ll nl (by walk_at "w"),f.rd ns S.sg,λz hz=>?_,λx hx=>f.rd (nd x hx) (S.ld x hx)⟩
 ·rcases f _ _ S.sd nsd with z | ⟨z,_⟩
  ·exact z
  ·exact absurd z msd
 ·obtain ⟨u,hu,g⟩:=S.sk z hz
  exact ⟨u,t _ _ hu,g⟩
theorem ScAt.same {H H':Hp}{sd:Addr}{c:ScN}(S:ScAt H sd c) (s:jg H H'):ScAt H' sd c :=
 S.keep (N:=λ_=>False) (M:=λ_=>False) (λc o h _=>.inl (s c o h)) (λ_ _ _ z=>z) id id id id id id (λ_ _=>id) id (λ_ _=>id)
theorem ScAt.ext {L b:Addr}{H H':Hp}{sd:Addr}{c:ScN}(S:ScAt H sd c) (O:ScOk b c) (B:qh L H b) (e:Ext b H H'):ScAt H' sd c:=by
 obtain ⟨_,_,_,_,_,hb,_⟩:=B
 have nr:∀{a:Addr} {kvs:List (Key×V)},Rd H a (.dK kvs)->¬a=b:=λh z=>by
  rcases h with h | ⟨o,h⟩
  ·exact absurd z (jk h hb (by walk_at "z"))
  ·exact absurd z (jk h hb (by walk_at "z"))
 exact S.keep (N:=λa=>a=b) (M:=λ_=>False) (λc o h n=>.inl (e c o h n)) (λa xs h z=>absurd z (jk h hb (by walk_at "z"))) (jk S.sd hb (by walk_at "z")) id O.pb O.qb O.gb O.lb (λa h z=>O.zb (z ▸ h)) (nr S.sg) λx hx=>nr (S.ld x hx)
noncomputable def ScN.D (c:ScN) (a:Addr):Prop:=a=c.sg\/∃x∈c.lds,x.1=a
theorem Ww {p q sg gl ll:Addr}{α:Type}{f:α->V}{l:List (Int×α)}:scK p q sg gl ll≠l.map λz=>((.inl z.1,f z.2):Key×V):=λz=>by
 cases l with
 | nil=>cases z
 | cons u r =>
  have:=congrArg (λl=>l.head?.map (·.1)) z
  cases this
theorem Z6 {H:Hp}{sd a p q sg gl ll:Addr}{α:Type}{f:α->V}{l:List (Int×α)}(h:H sd=some (.dK (scK p q sg gl ll))) (r:Rd H a (.dK (l.map λz=>((.inl z.1,f z.2):Key×V)))):a≠sd:=λz=>by
 subst z
 rcases r with r | ⟨o,r⟩
 ·rw [r] at h
  have e:l.map (λz=>((.inl z.1,f z.2):Key×V))=scK p q sg gl ll:=by injection h with h;injection h
  exact Ww e.symm
 ·rw [r] at h
  cases h
theorem ScAt.nD {H:Hp}{sd:Addr}{c:ScN}(S:ScAt H sd c):¬c.D sd:=λz=>by
 rcases z with z | ⟨x,hx,e⟩
 ·exact Z6 (f:=V.ref) S.sd S.sg z.symm
 ·exact Z6 (f:=V.int) S.sd (S.ld x hx) e
structure ScB (L b:Addr) (H H2:Hp) (sd:Addr) (c:ScN):Prop where
 S:ScAt H2 sd c
 O:ScOk b c
 r1:H2 c.sg=some (.dK (c.sk.map kvA))
 r2:∀x∈c.lds,H2 x.1=some (.dK (x.2.map kvI))
 B:qh L H2 b
 X:Ext b H H2
 f1:H c.sg=none
 f2:∀x∈c.lds,H x.1=none
theorem ScB.take {L b:Addr}{H H2 H3:Hp}{sd:Addr}{c:ScN}(S:ScB L b H H2 sd c) (B:qh L H3 b) (X:Ext b H2 H3):ScB L b H H3 sd c:=by
 have hb:∃xs,H2 b=some (.lst xs):=by
  obtain ⟨_,_,_,_,_,hb,_⟩:=S.B
  exact ⟨_,hb⟩
 obtain ⟨_,hb⟩:=hb
 exact ⟨S.S.ext S.O S.B X,S.O,X _ _ S.r1 (jk S.r1 hb (by walk_at "z")),λx hx=>X _ _ (S.r2 x hx) (jk (S.r2 x hx) hb (by walk_at "z")),B,S.X.trans X,S.f1,S.f2⟩
theorem ScB.same {L b:Addr}{H H2 H3:Hp}{sd:Addr}{c:ScN}(S:ScB L b H H2 sd c) (s:jg H2 H3):ScB L b H H3 sd c:=S.take (S.B.same s) (Ext.of_same s)
theorem zf {L b:Addr}{Ha Hb:Hp}(B:qh L Ha b) (e:Ext b Ha Hb):jm Ha Hb:=by
 obtain ⟨ns,a,r,c,d,h1,_⟩:=B
 exact jm.lst e h1
theorem ScB.single {L b:Addr}{H H2:Hp}{sd t:Addr}{c:ScN}{y:Int}{r:T3}(S:ScB L b H H2 sd c) (y0:0<=y) (y1:y<=99) (ht:H2 t=some (yq r)) (hg:good r=true) (hl:c.sk.length+1<=10) :
  ScB L b H (upd H2 c.sg (.dK (qJ (c.sk.map kvA) (.inl y) (.ref t)))) sd { c with sk:=xJ c.sk y t }:=by
 have e:qJ (c.sk.map kvA) (.inl y) (.ref t)=(xJ c.sk y t).map kvA:=k9 V.ref c.sk y t
 rw [e]
 have nT:∀{a:Addr} {o:HO},H2 a=some o->(∀kvs,o≠.dK kvs)->(upd H2 c.sg (.dK ((xJ c.sk y t).map kvA))) a=some o:=λh n=>by rw [j5 (jk h S.r1 (n _))];exact h
 have sdn:sd≠c.sg:=(Z6 (f:=V.ref) S.S.sd S.S.sg).symm
 have hb:∃xs,H2 b=some (.lst xs):=by
  obtain ⟨_,_,_,_,_,hb,_⟩:=S.B
  exact ⟨_,hb⟩
 obtain ⟨_,hb⟩:=hb
 have hL:∃xs,H2 L=some (.lst xs):=by
  obtain ⟨_,_,_,_,_,_,_,hL,_⟩:=S.B
  exact ⟨_,hL⟩
 obtain ⟨_,hL⟩:=hL
 refine ⟨⟨by rw [j5 sdn];exact S.S.sd,nT S.S.p (by walk_at "w"),S.S.rv.keep λ_ _ h=>nT h (by walk_at "w"),nT S.S.q (by walk_at "w"),S.S.r3.imp λ_ _ h=>nT h (by walk_at "w"),nT S.S.gl (by walk_at "w"),pmM S.S.gi λv hv w ⟨a,ea,q⟩=>⟨a,ea,nT q (by walk_at "w")⟩,nT S.S.ll (by walk_at "w"),.inl j4,λz hz=>?_,λx hx=>.inl (by rw [j5 (S.O.ns x hx)];exact S.r2 x hx)⟩,?_,j4,λx hx=>by rw [j5 (S.O.ns x hx)];exact S.r2 x hx,S.B.put (jk S.r1 hb (by walk_at "z")) (jk S.r1 hL (by walk_at "z")),λd o hd n=>?_,S.f1,S.f2⟩
 ·rcases kj hz with z | z
  ·obtain ⟨u,hu,g⟩:=S.S.sk _ z
   exact ⟨u,nT hu (by walk_at "w"),g⟩
  ·subst z
   exact ⟨r,nT ht (by walk_at "w"),hg⟩
 ·have O:=S.O
  exact ⟨O.gr,O.l1,O.l8,O.t1,O.t2,O.tg,O.ro,O.ldl,O.nd,O.ns,O.pb,O.qb,O.gb,O.lb,O.zb,kW O.k1,λz hz=>by
   rcases kj hz with q | q
   ·exact O.k2 z q
   ·subst q;exact ⟨y0,y1⟩,aI (uw _ _ _) hl,O.m1,O.m2,O.m3⟩
 ·rw [j5 (j1 hd S.f1)]
  exact S.X d o hd n
theorem uv {α β:Type}{l:List (α×β)}{n:Nat}{a:α}{u v:β}(nd:(l.map (·.1)).Nodup) (hn:l[n]? = some (a,u)) {x:α×β}(hx:x∈l.set n (a,v)):x=(a,v)\/(x∈l/\x.1≠a):=by
 obtain ⟨i,hi,e⟩:=List.mem_iff_getElem.mp hx
 have hi':i<l.length:=by rw [iD] at hi;exact hi
 obtain ⟨hn1,hn2⟩:=List.getElem?_eq_some_iff.mp hn
 by_cases q:n=i
 ·subst q
  rw [List.getElem_set_self] at e
  exact .inl e.symm
 ·rw [List.getElem_set_ne q] at e
  refine .inr ⟨e ▸ bP hi',λz=>q ?_⟩
  have h1:(l.map (·.1))[n]'(by rw [aa];exact hn1)=(l.map (·.1))[i]'(by rw [aa];exact hi'):=by
   rw [eG,eG,hn2,e,z]
  rcases Nat.lt_trichotomy n i with g | g | g
  ·exact absurd h1 (List.pairwise_iff_getElem.mp nd n i _ _ g)
  ·exact g
  ·exact absurd h1.symm (List.pairwise_iff_getElem.mp nd i n _ _ g)
theorem Zv {α β:Type}{l:List (α×β)}{n:Nat}{a:α}{u v:β}(hn:l[n]? = some (a,u)):(l.set n (a,v)).map (·.1)=l.map (·.1):=by
 obtain ⟨hn1,hn2⟩:=List.getElem?_eq_some_iff.mp hn
 rw [List.map_set]
 refine i5 λi=>?_
 rw [i9]
 by_cases q:n=i
 ·subst q
  rw [if_pos rfl,if_pos (by rw [aa];exact hn1),aB,hn]
  rfl
 ·rw [if_neg q]
theorem ScB.leap {L b:Addr}{H H2:Hp}{sd a:Addr}{c:ScN}{n:Nat}{y m:Int}{ns:List (Int×Int)}(S:ScB L b H H2 sd c) (hn:c.lds[n]? = some (a,ns)) (y0:0<=y) (y1:y<=99) (m0:1<=m) (m1:m<=9) (hl:ns.length+1<=10) :
  ScB L b H (upd H2 a (.dK (qJ (ns.map kvI) (.inl y) (.int m)))) sd { c with lds:=c.lds.set n (a,xJ ns y m) }:=by
 have e:qJ (ns.map kvI) (.inl y) (.int m)=(xJ ns y m).map kvI:=k9 V.int ns y m
 rw [e]
 have hm:=ay hn
 have ra:=S.r2 _ hm
 have nT:∀{d:Addr} {o:HO},H2 d=some o->(∀kvs,o≠.dK kvs)->(upd H2 a (.dK ((xJ ns y m).map kvI))) d=some o:=λh n=>by rw [j5 (jk h ra (n _))];exact h
 have sdn:sd≠a:=(Z6 (f:=V.int) S.S.sd (S.S.ld _ hm)).symm
 have hb:∃xs,H2 b=some (.lst xs):=by
  obtain ⟨_,_,_,_,_,hb,_⟩:=S.B
  exact ⟨_,hb⟩
 obtain ⟨_,hb⟩:=hb
 have hL:∃xs,H2 L=some (.lst xs):=by
  obtain ⟨_,_,_,_,_,_,_,hL,_⟩:=S.B
  exact ⟨_,hL⟩
 obtain ⟨_,hL⟩:=hL
 have fs:=Zv (v:=xJ ns y m) hn
 have fs2:(c.lds.set n (a,xJ ns y m)).map (λx=>V.ref x.1)=c.lds.map λx=>V.ref x.1:=by
  have:=congrArg (t6 V.ref) fs
  rw [bz,bz] at this
  exact this
 have sg:c.sg≠a:=(S.O.ns _ hm).symm
 have r2:∀x∈c.lds.set n (a,xJ ns y m),(upd H2 a (.dK ((xJ ns y m).map kvI))) x.1=some (.dK (x.2.map kvI)):=λx hx=>by
  rcases uv S.O.nd hn hx with z | ⟨z,w⟩
  ·subst z
   exact j4
  ·rw [j5 w]
   exact S.r2 x z
 have mem:∀x∈c.lds.set n (a,xJ ns y m),∃x'∈c.lds,x'.1=x.1:=λx hx=>by
  have:x.1∈(c.lds.set n (a,xJ ns y m)).map (·.1):=aX hx
  rw [fs] at this
  exact List.mem_map.mp this
 have O:=S.O
 refine ⟨⟨by rw [j5 sdn];exact S.S.sd,nT S.S.p (by walk_at "w"),S.S.rv.keep λ_ _ h=>nT h (by walk_at "w"),nT S.S.q (by walk_at "w"),S.S.r3.imp λ_ _ h=>nT h (by walk_at "w"),nT S.S.gl (by walk_at "w"),pmM S.S.gi λv hv w ⟨a,ea,q⟩=>⟨a,ea,nT q (by walk_at "w")⟩,?_,.inl (by show upd _ _ _ c.sg=_;rw [j5 sg];exact S.r1),λz hz=>?_,λx hx=>.inl (r2 x hx)⟩,⟨O.gr,O.l1,O.l8,O.t1,O.t2,O.tg,O.ro,?_,?_,?_,O.pb,O.qb,O.gb,O.lb,O.zb,O.k1,O.k2,O.k3,?_,?_,?_⟩,(by show upd _ _ _ c.sg=_;rw [j5 sg];exact S.r1),r2,S.B.put (jk ra hb (by walk_at "z")) (jk ra hL (by walk_at "z")),λd o hd n=>?_,S.f1,?_⟩
 ·show _=some (HO.lst ((c.lds.set n (a,xJ ns y m)).map λx=>V.ref x.1))
  rw [fs2]
  exact nT S.S.ll (by walk_at "w")
 ·obtain ⟨u,hu,g⟩:=S.S.sk _ hz
  exact ⟨u,nT hu (by walk_at "w"),g⟩
 ·show (c.lds.set n (a,xJ ns y m)).length=_
  rw [iD]
  exact O.ldl
 ·show ((c.lds.set n (a,xJ ns y m)).map (·.1)).Nodup
  rw [fs]
  exact O.nd
 ·intro x hx
  obtain ⟨x',h1,h2⟩:=mem x hx
  rw [<- h2]
  exact O.ns x' h1
 ·intro x hx
  rcases uv S.O.nd hn hx with z | ⟨z,w⟩
  ·subst z;exact kW (O.m1 _ hm)
  ·exact O.m1 x z
 ·intro x hx
  rcases uv S.O.nd hn hx with z | ⟨z,w⟩
  ·subst z
   intro u hu
   rcases kj hu with q | q
   ·exact O.m2 _ hm u q
   ·subst q;exact ⟨y0,y1,m0,m1⟩
  ·exact O.m2 x z
 ·intro x hx
  rcases uv S.O.nd hn hx with z | ⟨z,w⟩
  ·subst z;exact aI (uw _ _ _) hl
  ·exact O.m3 x z
 ·rw [j5 (j1 hd (S.f2 _ hm))]
  exact S.X d o hd n
 ·intro x hx
  obtain ⟨x',h1,h2⟩:=mem x hx
  rw [<- h2]
  exact S.f2 x' h1
theorem put4 {p q sg gl:Addr}:qJ (qY [] [(.inr "reaches",.ref p),(.inr "rows",.ref q),(.inr "single",.ref sg)]) (.inr "grounds") (.ref gl)=[((.inr "reaches",.ref p):Key×V),(.inr "rows",.ref q),(.inr "single",.ref sg),(.inr "grounds",.ref gl)]:=by
 have e1:(qJ [] (.inr "reaches") (.ref p):List (Key×V))=[(.inr "reaches",.ref p)]:=y3 _ yR
 have e2:qJ [((.inr "reaches",.ref p):Key×V)] (.inr "rows") (.ref q)=[(.inr "reaches",.ref p),(.inr "rows",.ref q)]:=y3 _ ((jr (show (bo (ao "reaches"):Key)≠bo (ao "rows") by decide +kernel)).trans yR)
 have e3:qJ [((.inr "reaches",.ref p):Key×V),(.inr "rows",.ref q)] (.inr "single") (.ref sg)=[(.inr "reaches",.ref p),(.inr "rows",.ref q),(.inr "single",.ref sg)]:=y3 _ ((jr (show (bo (ao "reaches"):Key)≠bo (ao "single") by decide +kernel)).trans ((jr (show (bo (ao "rows"):Key)≠bo (ao "single") by decide +kernel)).trans yR))
 have e4:qJ [((.inr "reaches",.ref p):Key×V),(.inr "rows",.ref q),(.inr "single",.ref sg)] (.inr "grounds") (.ref gl)=[((.inr "reaches",.ref p):Key×V),(.inr "rows",.ref q),(.inr "single",.ref sg),(.inr "grounds",.ref gl)]:=y3 _ ((jr (show (bo (ao "reaches"):Key)≠bo (ao "grounds") by decide +kernel)).trans ((jr (show (bo (ao "rows"):Key)≠bo (ao "grounds") by decide +kernel)).trans ((jr (show (bo (ao "single"):Key)≠bo (ao "grounds") by decide +kernel)).trans yR)))
 have e:qY [] [((.inr "reaches",.ref p):Key×V),(.inr "rows",.ref q),(.inr "single",.ref sg)]=[(.inr "reaches",.ref p),(.inr "rows",.ref q),(.inr "single",.ref sg)]:=by
  show qJ (qJ (qJ ([]:List (Key×V)) (.inr "reaches") (.ref p)) (.inr "rows") (.ref q)) (.inr "single") (.ref sg)=_
  rw [e1,e2,e3]
 rw [e,e4]
theorem put5 {p q sg gl ll:Addr}:qJ [((.inr "reaches",.ref p):Key×V),(.inr "rows",.ref q),(.inr "single",.ref sg),(.inr "grounds",.ref gl)] (.inr "leaps") (.ref ll)=scK p q sg gl ll :=
 y3 _ ((jr (show (bo (ao "reaches"):Key)≠bo (ao "leaps") by decide +kernel)).trans ((jr (show (bo (ao "rows"):Key)≠bo (ao "leaps") by decide +kernel)).trans ((jr (show (bo (ao "single"):Key)≠bo (ao "leaps") by decide +kernel)).trans ((jr (show (bo (ao "grounds"):Key)≠bo (ao "leaps") by decide +kernel)).trans yR))))
theorem QX (p q sg gl:Addr):qi [((.inr "reaches",.ref p):Key×V),(.inr "rows",.ref q),(.inr "single",.ref sg),(.inr "grounds",.ref gl)] (.inr "grounds")=some (.ref gl):=(jr (show (bo (ao "reaches"):Key)≠bo (ao "grounds") by decide +kernel)).trans ((jr (show (bo (ao "rows"):Key)≠bo (ao "grounds") by decide +kernel)).trans ((jr (show (bo (ao "single"):Key)≠bo (ao "grounds") by decide +kernel)).trans xz))
theorem Zr {rs:List Rch}(G:Grown rs):∀r∈rs,r.2.length<=12:=λr hr=>by
 obtain ⟨i,hi,e⟩:=List.mem_iff_getElem.mp hr
 have:=Jg G.ok (ae hi)
 rw [e] at this
 unfold okR at this
 rw [bh,bh] at this
 have:=of_decide_eq_true this.1.2
 omega
theorem UJ {v:Int}(a:0<=v) (b:v<3):∃n,atI [V.int 1,V.int 4,V.int 9] v=some (V.int n)/\0<n/\n<=9:=by
 have h:v=0\/v=1\/v=2:=()
 rcases h with rfl | rfl | rfl
 ·exact ⟨1,rfl,(),()⟩
 ·exact ⟨4,rfl,(),()⟩
 ·exact ⟨9,rfl,(),()⟩
theorem Um {v:Int}(a:0<=v) (b:v<3):∃n,atI [V.int 1,V.int 3,V.int 7] v=some (V.int n)/\0<n/\n<=7:=by
 have h:v=0\/v=1\/v=2:=()
 rcases h with rfl | rfl | rfl
 ·exact ⟨1,rfl,(),()⟩
 ·exact ⟨3,rfl,(),()⟩
 ·exact ⟨7,rfl,(),()⟩
theorem Gy {v:Int}(a:0<=v) (b:v<2):∃n,atI [V.int 2,V.int 9] v=some (V.int n)/\0<n/\n<=9:=by
 have h:v=0\/v=1:=()
 rcases h with rfl | rfl
 ·exact ⟨2,rfl,(),()⟩
 ·exact ⟨9,rfl,(),()⟩
theorem gW {rs:List Rch}(L:xl rs) (h:1<=rs.length):1<=(jp rs).length:=by
 have:(rs.length-1)∈jp rs:=by
  refine List.mem_filter.mpr ⟨List.mem_range.mpr (),?_⟩
  unfold jO
  rw [decide_eq_false]
  ·rfl
  ·intro z
   have:=Xi L z
   omega
 exact i0 this
noncomputable def Zh:Sp:=λvs H Q _=>∃(L b:Addr),vs=[.ref b]/\qh L H b/\∀sd H' c,qh L H' b->Ext b H H'->ScAt H' sd c->ScOk b c->Q (.ref sd) H'
theorem qV:FnScope ["_law_box_here","_law_reaches_here","_law_scene_here","_law_turn","_law_lane"] ["_law_box_here"] (j7 xV):=by walk_at "s"
theorem VO {f:Addr}{fd:FuncData}(nb:Nb2 mg) (c_law_take:Cal P w K mg base 2 "_law_take" ["_law_box_here","_law_size"] zy) (c_law_reaches:Cal P w K mg base 4 "_law_reaches" ["_law_box_here"] wF) (c_law_round:Cal P w K mg base 4 "_law_round" ["_law_box_here"] uU) (c_law_ground:Cal P w K mg base 1 "_law_ground" ["_law_reaches_here","_law_road"] (Qs K)) (c_law_roads:Cal P w K mg base 1 "_law_roads" ["_law_reaches_here"] (Qa K)) (c_law_year:Cal P w K mg base 3 "_law_year" ["_law_box_here"] Vq) (c_law_weather:Cal P w K mg base 3 "_law_weather" ["_law_box_here"] uD)
  (F:Fun K "_law_scene" "_law_scene" xV f fd):FnOk P w K mg base CX0 5 f fd ["_law_box_here"] Zh:=by
 refine F.ok qV (λvs H Q E h=>?_) (λcdv A outer s H vs Q E hr h=>?_)
 ·obtain ⟨L,b,rfl,_⟩:=h
  rfl
 ·obtain ⟨L,b,rfl,B,k⟩:=h
  refine ⟨_,(j6 (qW (i:=1) qV.nd rfl (dz rfl) (jf c_law_reaches (hr.mono ⋯) rfl (j0 (pv 0) j2)))
   (j6 (jG 2 qV.nd (Uz (wT jJ (pv 1) (wT jJ (jf c_law_round (hr.mono ⋯) rfl (j0 (pv 0) j2)) (wT jJ y8 U4))) rfl rfl (λz=>by cases z) ⋯))
   (j6 (yk (jQ hr) (pv 2) jJ (jA (osc:=(j7 xV)) (ON:=["_law_box_here","_law_reaches_here","_law_scene_here","_law_turn","_law_lane"]) (N:=["_law_road","_law_reaches_here"]) (own:=1) (caps:=[1]) ⟨rfl,∅,∅,∅,rfl,∅⟩ rfl rfl rfl (jL K (jf c_law_roads (hr.mono ⋯) rfl (j0 (pv 1) j2))) (λ_ _ _ _ _=>(jd (i:=0) (show aR (["_law_road","_law_reaches_here"]:List Str) by decide +kernel) rfl (aW rfl))) (λ_ _ _ _ _=>jq) (λ_ _ _ _ _=>(jf c_law_ground (hr.mono ⋯) rfl (j0 (pv 1) (j0 (pv 0) j2))))) rfl)
   (wA (yk (jQ hr) (pv 2) jJ (jA (osc:=(j7 xV)) (ON:=["_law_box_here","_law_reaches_here","_law_scene_here","_law_turn","_law_lane"]) (N:=["_law_ground_here"]) (own:=1) (caps:=[]) ⟨rfl,∅,∅,∅,rfl,∅⟩ rfl rfl rfl (jL K (jE (jQ hr) (pv 2) jJ (λ_ _=>rfl))) (λ_ _ _ _ _=>(jd (i:=0) (show aR (["_law_ground_here"]:List Str) by decide +kernel) rfl (aW rfl))) (λ_ _ _ _ _=>jq) (λ_ _ _ _ _=>y8)) rfl)
   (wA (xD bI rfl (jZ rfl nb.b_range (j0 (jf c_law_take (hr.mono ⋯) rfl (j0 (pv 0) (j0 (jn (je K) (jU (j0 j8 (j0 j8 (j0 j8 j2)))) (jf c_law_take (hr.mono ⋯) rfl (j0 (pv 0) (j0 j8 j2))) (λ_ _=>rfl)) j2))) j2)) (jd (i:=3) qV.nd rfl (aW rfl)) (j9 (yk (jQ hr) (jE (jQ hr) (pv 2) jJ (λ_ _=>rfl)) (jf c_law_year (hr.mono ⋯) rfl (j0 (pv 0) j2)) (jf c_law_weather (hr.mono ⋯) rfl (j0 (pv 0) j2)) rfl)))
   (j6 (xD bI rfl (jZ rfl nb.b_range (j0 (jf c_law_take (hr.mono ⋯) rfl (j0 (pv 0) (j0 (jn (je K) (jU (j0 j8 (j0 j8 (j0 j8 j2)))) (jf c_law_take (hr.mono ⋯) rfl (j0 (pv 0) (j0 j8 j2))) (λ_ _=>rfl)) j2))) j2)) (jd (i:=3) qV.nd rfl (aW rfl)) (j6 (jG 4 qV.nd (jf c_law_take (hr.mono ⋯) rfl (j0 (pv 0) (j0 (jc (jh K) rfl nb.b_len ba (j0 (jE (jQ hr) (pv 2) jJ (λ_ _=>rfl)) j2)) j2))))
   (j9 (yk (jQ hr) (jn (je K) (jE (jQ hr) (pv 2) jJ (λ_ _=>rfl)) (pv 4) (λ_ _=>rfl)) (jf c_law_year (hr.mono ⋯) rfl (j0 (pv 0) j2)) (ji jy j8 (jf c_law_take (hr.mono ⋯) rfl (j0 (pv 0) (j0 (jn (je K) (jU (j0 j8 (j0 j8 j2))) (jf c_law_take (hr.mono ⋯) rfl (j0 (pv 0) (j0 j8 j2))) (λ_ _=>rfl)) j2)))) rfl))))
   (j9 (jj (pv 2))))))))),?_⟩
  left
  refine ⟨L,b,rfl,B,λp H1 xs rs B1 X1 hp hp1 r1 g1 l1 l8=>?_⟩
  have pb:p≠b:=B.ne hp
  left
  intro sd hsd
  have sdb:sd≠b:=B1.ne hsd
  have sd0:H sd=none:=X1.free hsd sdb
  left
  have Ba:qh L (upd H1 sd (.dK [])) b:=B1.put sdb (B1.neL hsd)
  refine ⟨L,b,rfl,Ba,λq Hb ys ts Bb Xb hq hqb r3b ht12 htg=>?_⟩
  have qb:q≠b:=Ba.ne hq
  have qsd:q≠sd:=λz=>by rw [z,j4] at hq;cases hq
  have sdB:Hb sd=some (.dK []):=Xb _ _ j4 sdb
  have pB:Hb p=some (.lst xs):=Xb _ _ (by rw [j5 (j1 hp1 hsd)];exact hp1) pb
  have rB:jV Hb xs rs:=(r1.keep (jm.same (jg.new hsd))).keep (zf Ba Xb)
  have XB:Ext b H Hb:=(X1.trans (Ext.new hsd)).trans Xb
  left
  intro sg hsg
  have sgb:sg≠b:=Bb.ne hsg
  have sg0:H sg=none:=XB.free hsg sgb
  have sgsd:sg≠sd:=(j1 sdB hsg).symm
  left
  refine ⟨by rw [j5 sgsd.symm];exact sdB,[(.inr "reaches",.ref p),(.inr "rows",.ref q),(.inr "single",.ref sg)],rfl,by show 3<=15;decide,?_⟩
  have sC:jg Hb (upd Hb sg (.dK [])):=jg.new hsg
  have nD:∀{a:Addr} {o:HO},Hb a=some o->a≠sd->(upd (upd Hb sg (.dK [])) sd (.dK (qY [] [(.inr "reaches",.ref p),(.inr "rows",.ref q),(.inr "single",.ref sg)]))) a=some o:=λh n=>by rw [j5 n];exact sC _ _ h
  have dD:(upd (upd Hb sg (.dK [])) sd (.dK (qY [] [(.inr "reaches",.ref p),(.inr "rows",.ref q),(.inr "single",.ref sg)]))) sd=some (.dK (qY [] [(.inr "reaches",.ref p),(.inr "rows",.ref q),(.inr "single",.ref sg)])):=j4
  have pD:=nD pB (jk pB sdB (by walk_at "z"))
  have rD:jV (upd (upd Hb sg (.dK [])) sd (.dK (qY [] [(.inr "reaches",.ref p),(.inr "rows",.ref q),(.inr "single",.ref sg)]))) xs rs:=rB.keep λ_ _ h=>nD h (jk h sdB (by walk_at "z"))
  have qD:=nD hqb qsd
  have r3D:qN (upd (upd Hb sg (.dK [])) sd (.dK (qY [] [(.inr "reaches",.ref p),(.inr "rows",.ref q),(.inr "single",.ref sg)]))) ys ts:=r3b.imp λ_ _ h=>nD h (jk h sdB (by walk_at "z"))
  have sgD:(upd (upd Hb sg (.dK [])) sd (.dK (qY [] [(.inr "reaches",.ref p),(.inr "rows",.ref q),(.inr "single",.ref sg)]))) sg=some (.dK []):=by rw [j5 sgsd];exact j4
  have BD:qh L (upd (upd Hb sg (.dK [])) sd (.dK (qY [] [(.inr "reaches",.ref p),(.inr "rows",.ref q),(.inr "single",.ref sg)]))) b:=(Bb.same sC).put sdb (B1.neL hsd)
  have XD:Ext b H (upd (upd Hb sg (.dK [])) sd (.dK (qY [] [(.inr "reaches",.ref p),(.inr "rows",.ref q),(.inr "single",.ref sg)]))):=λc o h n=>nD (XB c o h n) (j1 h sd0)
  clear nD sC hsg sdB pB rB XB hqb r3b Bb Xb hq Ba
  generalize (upd (upd Hb sg (.dK [])) sd (.dK (qY [] [(.inr "reaches",.ref p),(.inr "rows",.ref q),(.inr "single",.ref sg)])))=Hd at *
  have Ld:=qe g1.ok
  left
  refine ⟨p,xs,rs,rfl,pD,rD,Ld,(),λl He out ws hl hle w1 hR s1=>?_⟩
  left
  refine ⟨⟨_,SqL.of hle⟩,λgl hgl=>?_⟩
  have hlw:out.length=ws.length:=aY w1
  have hws:ws.length<=6:=by rw [hR.length];exact g1.heads
  have h100:∀r∈rs,r.2.length<=100:=λr hr=>aI (Zr g1 r hr) ⋯
  have BE:=BD.same s1
  have glb:gl≠b:=BE.ne hgl
  refine jK (K:=K) (a:=l) (xs:=out) (acc:=gl) (λi σ H2=>∃(x:Option V) (zs:List V),σ=[x,some (.ref p)]/\H2 gl=some (.lst zs)/\zs.length=i/\ck (λv (w:List Int)=>∃a,v=V.ref a/\H2 a=some (.lst (w.map V.int))/\He a=none/\a≠gl) zs ((ws.take i).map (jb rs))/\Ext gl He H2) ?_ ?_ ?_ ?_
  ·exact ⟨none,[],rfl,j4,rfl,.nil,Ext.put⟩
  ·rintro i σ H2 hi ⟨x,zs,rfl,h2,hz,r2,e2⟩
   exact SqL.of (e2 _ _ hle (j1 hle hgl))
  ·rintro i v σ H2 hv ⟨x,zs,rfl,h2,hz,r2,e2⟩
   obtain ⟨wy,hwy,a,rfl,ha1⟩:=Paired.get w1 hv
   have hi:=(List.getElem?_eq_some_iff.mp hwy).1
   obtain ⟨x',hx',ewy⟩:=hR.mem (ay hwy)
   have ha2:=e2 _ _ ha1 (j1 ha1 hgl)
   have hr1:=s1 _ _ pD
   have hl':=uk Ld x' (xF hx')
   have:=xF hx'
   left
   refine ⟨p,a,xs,rs,wy,rfl,e2 _ _ hr1 (j1 hr1 hgl),(rD.keep (jm.same s1)).keep (jm.new e2 hgl),h100,ha2,by rw [ewy];exact xS Ld x' (xF hx'),by rw [ewy];omega,λt H3 ht ht3 s3=>?_⟩
   have ta:t≠gl:=(j1 h2 ht).symm
   refine ⟨zs,s3 _ _ h2,ja (),some (.ref a),zs++[.ref t],rfl,j4,by rw [aw,hz];rfl,?_,λc o hc n=>by rw [j5 n];exact s3 _ _ (e2 c o hc n)⟩
   rw [qz (jb rs) ws i wy hwy]
   exact cU (Paired.mapP r2 λv wy ⟨a,e,ha,h0,na⟩=>⟨a,e,by rw [j5 na];exact s3 _ _ ha,h0,na⟩) ⟨t,rfl,by rw [j5 ta];exact ht3,e2.free ht ta,ta⟩
  rintro σ H2 ⟨x,zs,rfl,h2,hz,r2,e2⟩
  rw [hlw,aS] at r2
  have gi2:yx H2 zs (ws.map (jb rs)):=Paired.mapP r2 λv wy ⟨a,e,ha,h0,na⟩=>⟨a,e,ha⟩
  have zb:V.ref b∉zs:=λz=>by
   obtain ⟨_,a,e,_,h0,_⟩:=pm r2 _ z
   cases e
   exact absurd rfl (BE.ne h0)
  have s2:jg Hd H2:=λc o hc=>e2 _ _ (s1 _ _ hc) (j1 (s1 _ _ hc) hgl)
  have gl0:Hd gl=none:=s1.free hgl
  left
  refine ⟨sd,_,rfl,kT.k (k:=.inr "grounds") (s2 _ _ dD) (ja (aI (zR _ _) (by show 0+3<=1000;decide))),?_⟩
  rw [put4]
  have nF:∀{a:Addr} {o:HO},H2 a=some o->(∀kvs,o≠.dK kvs)->(upd H2 sd (.dK [((.inr "reaches",.ref p):Key×V),(.inr "rows",.ref q),(.inr "single",.ref sg),(.inr "grounds",.ref gl)])) a=some o:=λh n=>by rw [j5 (jk h (s2 _ _ dD) (n _))];exact h
  have dF:(upd H2 sd (.dK [((.inr "reaches",.ref p):Key×V),(.inr "rows",.ref q),(.inr "single",.ref sg),(.inr "grounds",.ref gl)])) sd=some (.dK [((.inr "reaches",.ref p):Key×V),(.inr "rows",.ref q),(.inr "single",.ref sg),(.inr "grounds",.ref gl)]):=j4
  have pF:=nF (s2 _ _ pD) (by walk_at "w")
  have qF:=nF (s2 _ _ qD) (by walk_at "w")
  have rF:jV (upd H2 sd (.dK [((.inr "reaches",.ref p):Key×V),(.inr "rows",.ref q),(.inr "single",.ref sg),(.inr "grounds",.ref gl)])) xs rs:=rD.keep λ_ _ h=>nF (s2 _ _ h) (by walk_at "w")
  have r3F:qN (upd H2 sd (.dK [((.inr "reaches",.ref p):Key×V),(.inr "rows",.ref q),(.inr "single",.ref sg),(.inr "grounds",.ref gl)])) ys ts:=r3D.imp λ_ _ h=>nF (s2 _ _ h) (by walk_at "w")
  have gF:=nF h2 (by walk_at "w")
  have giF:yx (upd H2 sd (.dK [((.inr "reaches",.ref p):Key×V),(.inr "rows",.ref q),(.inr "single",.ref sg),(.inr "grounds",.ref gl)])) zs (ws.map (jb rs)):=Paired.mapP gi2 λv wy ⟨a,e,ha⟩=>⟨a,e,nF ha (by walk_at "w")⟩
  have sgF:(upd H2 sd (.dK [((.inr "reaches",.ref p):Key×V),(.inr "rows",.ref q),(.inr "single",.ref sg),(.inr "grounds",.ref gl)])) sg=some (.dK []):=by rw [j5 sgsd];exact s2 _ _ sgD
  have BF:qh L (upd H2 sd (.dK [((.inr "reaches",.ref p):Key×V),(.inr "rows",.ref q),(.inr "single",.ref sg),(.inr "grounds",.ref gl)])) b:=(BD.same s2).put sdb (B1.neL hsd)
  have XF:Ext b H (upd H2 sd (.dK [((.inr "reaches",.ref p):Key×V),(.inr "rows",.ref q),(.inr "single",.ref sg),(.inr "grounds",.ref gl)])):=λc o h n=>by rw [j5 (j1 h sd0)];exact s2 _ _ (XD c o h n)
  clear nF gi2 s2 h2 r2 e2 BE hgl s1 w1 hle hl pD rD qD r3D sgD BD XD dD h100
  generalize (upd H2 sd (.dK [((.inr "reaches",.ref p):Key×V),(.inr "rows",.ref q),(.inr "single",.ref sg),(.inr "grounds",.ref gl)]))=Hf at *
  have hzw:zs.length<=6:=()
  refine ⟨λσ H5=>∃c,σ=[some (.ref b),some (.ref p),some (.ref sd),none,none]/\ScB L b H H5 sd c/\c.sk=[]/\∀x∈c.lds,x.2=[],?_,?_⟩
  ·left
   refine ⟨sd,.ref gl,rfl,by rw [<- QX p q sg gl];exact qK.k (k:=.inr "grounds") dF,?_⟩
   left
   refine ⟨⟨_,SqL.of gF⟩,λle hle=>?_⟩
   have leb:le≠b:=BF.ne hle
   refine jK (K:=K) (a:=gl) (xs:=zs) (acc:=le) (λi σ He=>∃(x:Option V) (lds:List (Addr×List (Int×Int))),σ=[x]/\He le=some (.lst (lds.map λx=>V.ref x.1))/\lds.length=i/\(∀x∈lds,He x.1=some (.dK [])/\x.2=[]/\Hf x.1=none/\x.1≠le)/\(lds.map (·.1)).Nodup/\Ext le Hf He) ?_ ?_ ?_ ?_
   ·exact ⟨none,[],rfl,j4,rfl,(λx z=>by cases z),l3,Ext.put⟩
   ·rintro i σ He hi ⟨x,lds,rfl,he,hl,hd,nn,e⟩
    exact SqL.of (e _ _ gF (j1 gF hle))
   ·rintro i v σ He hv ⟨x,lds,rfl,he,hl,hd,nn,e⟩
    have hi:=(List.getElem?_eq_some_iff.mp hv).1
    left
    intro d hd0
    have dl:d≠le:=(j1 he hd0).symm
    refine ⟨_,(by rw [j5 (cA dl)];exact he),by rw [aa];exact ja (),some v,lds++[(d,[])],rfl,(by rw [j4,aq];rfl),(by rw [aw,hl];rfl),λy hy=>?_,?_,λc o hc n=>?_⟩
    ·rcases List.mem_append.mp hy with z | z
     ·obtain ⟨h1,h2,h3,h4⟩:=hd y z
      exact ⟨by rw [j5 h4,j5 (j1 h1 hd0)];exact h1,h2,h3,h4⟩
     ·obtain rfl:y=(d,[]):=by simpa using z
      exact ⟨by rw [j5 dl];exact j4,rfl,e.free hd0 dl,dl⟩
    ·rw [aq]
     refine wC nn λz=>?_
     obtain ⟨y,hy,ey⟩:=List.mem_map.mp z
     have:=(hd y hy).1
     rw [ey,hd0] at this
     cases this
    ·rw [j5 n,j5 (j1 (e c o hc n) hd0)]
     exact e c o hc n
   ·rintro σ He ⟨x,lds,rfl,he,hl,hd,nn,e⟩
    have sE:jg Hf He:=λc o h=>e c o h (j1 h hle)
    left
    refine ⟨sd,_,rfl,kT.k (k:=.inr "leaps") (sE _ _ dF) (by show 4<sizeLine;decide),?_⟩
    rw [put5]
    have nG:∀{a:Addr} {o:HO},He a=some o->(∀kvs,o≠.dK kvs)->(upd He sd (.dK (scK p q sg gl le))) a=some o:=λh n=>by rw [j5 (jk h (sE _ _ dF) (n _))];exact h
    have lG:∀x∈lds,(upd He sd (.dK (scK p q sg gl le))) x.1=some (.dK (x.2.map kvI)):=λx hx=>by
     obtain ⟨h1,h2,h3,h4⟩:=hd x hx
     rw [j5 (j1 dF h3).symm,h2]
     exact h1
    have sgG:(upd He sd (.dK (scK p q sg gl le))) sg=some (.dK []):=by rw [j5 sgsd];exact sE _ _ sgF
    refine ⟨⟨p,q,sg,gl,le,xs,ys,zs,rs,ts,ws,[],lds⟩,rfl,⟨⟨j4,nG (sE _ _ pF) (by walk_at "w"),rF.keep λ_ _ h=>nG (sE _ _ h) (by walk_at "w"),nG (sE _ _ qF) (by walk_at "w"),r3F.imp λ_ _ h=>nG (sE _ _ h) (by walk_at "w"),nG (sE _ _ gF) (by walk_at "w"),Paired.mapP giF λv wy ⟨a,e,ha⟩=>⟨a,e,nG (sE _ _ ha) (by walk_at "w")⟩,nG he (by walk_at "w"),.inl sgG,(λz hz=>by cases hz),λx hx=>.inl (lG x hx)⟩,
     ⟨g1,l1,l8,ht12.1,ht12.2,htg,hR,hl.trans (hz.trans hlw),nn,λx hx=>(j1 sgF (hd x hx).2.2.1).symm,pb,qb,glb,leb,zb,l3,(λz hz=>by cases hz),aQ _,(λx hx=>by rw [(hd x hx).2.1];exact l3),(λx hx=>by rw [(hd x hx).2.1];intro z hz;cases hz),(λx hx=>by rw [(hd x hx).2.1];exact aQ _)⟩,sgG,lG,(BF.same sE).put sdb (B1.neL hsd),λc o h n=>?_,sg0,λx hx=>?_⟩,rfl,λx hx=>(hd x hx).2.1⟩
    ·rw [j5 (j1 h sd0)]
     exact sE _ _ (XF c o h n)
    ·exact XF.free (hd x hx).2.2.1 (BF.ne (hd x hx).2.2.1)
  rintro σ H5 ⟨c,rfl,S5,k5,l5⟩
  clear dF pF qF rF r3F gF giF sgF BF XF zb hlw hws hz hzw
  refine ⟨λσ H6=>∃(x:Option V) (c:ScN),σ=[some (.ref b),some (.ref p),some (.ref sd),x,none]/\ScB L b H H6 sd c/\∀x∈c.lds,x.2=[],?_,?_⟩
  ·left
   refine ⟨by show 3<=sizeLine;decide,λl6 H6 hl6 hl66 s6=>?_⟩
   have S6:=S5.same s6
   have l6b:l6≠b:=S5.B.ne hl6
   left
   refine ⟨L,b,_,rfl,S6.B,⟨⋯,⋯⟩,λv7 H7 p7 q7 B7 X7=>?_⟩
   have S7:=S6.take B7 X7
   obtain ⟨n,hn,n0,n1⟩:=UJ p7 q7
   refine ⟨_,_,_,_,rfl,rfl,SqL.of (X7 _ _ hl66 l6b),hn,?_⟩
   left
   refine ⟨L,b,_,rfl,S7.B,⟨n0,()⟩,λv8 H8 p8 q8 B8 X8=>?_⟩
   have S8:=S7.take B8 X8
   left
   refine ⟨(),(),?_⟩
   refine zh (λi σ H2=>∃(x:Option V) (c:ScN),σ=[some (.ref b),some (.ref p),some (.ref sd),x,none]/\ScB L b H H2 sd c/\c.sk.length<=i/\∀x∈c.lds,x.2=[]) ?_ ?_ ?_
   ·exact ⟨none,c,rfl,S8,by rw [k5];exact ar _,l5⟩
   ·rintro i σ H2 hi ⟨x,c,rfl,S,hk,hl⟩
    left
    refine ⟨L,b,rfl,S.B,λt H9 r B9 X9 ht hg=>?_⟩
    have S9:=S.take B9 X9
    left
    refine ⟨sd,.ref c.sg,rfl,by rw [<- zg c.p c.q c.sg c.gl c.ll];exact qK.k (k:=.inr "single") S9.S.sd,?_⟩
    left
    refine ⟨L,b,rfl,S9.B,λy H10 y0 y1 B10 X10=>?_⟩
    have S10:=S9.take B10 X10
    refine ⟨c.sg,_,rfl,kT.k (k:=.inl y) S10.r1 (by rw [aa];exact ja (by have:=S10.O.k3;omega)),?_⟩
    exact ⟨_,{ c with sk:=xJ c.sk y t },rfl,S10.single y0 y1 (X10 _ _ ht (S9.B.ne_tup ht)) hg (),aI (uw _ _ _) (),hl⟩
   ·rintro σ H2 ⟨x,c,rfl,S,hk,hl⟩
    exact ⟨x,c,rfl,S,hl⟩
  clear S5 k5 l5
  rintro σ H6 ⟨x,c,rfl,S6,l6⟩
  left
  refine ⟨by show 3<=sizeLine;decide,λl7 H7 hl7 hl77 s7=>?_⟩
  have S7:=S6.same s7
  have l7b:l7≠b:=S6.B.ne hl7
  left
  refine ⟨L,b,_,rfl,S7.B,⟨⋯,⋯⟩,λv8 H8 p8 q8 B8 X8=>?_⟩
  have S8:=S7.take B8 X8
  obtain ⟨n,hn,n0,n1⟩:=Um p8 q8
  refine ⟨_,_,_,_,rfl,rfl,SqL.of (X8 _ _ hl77 l7b),hn,?_⟩
  left
  refine ⟨L,b,_,rfl,S8.B,⟨n0,()⟩,λv9 H9 p9 q9 B9 X9=>?_⟩
  have S9:=S8.take B9 X9
  left
  refine ⟨(),(),?_⟩
  refine zh (λi σ H2=>∃(x y:Option V) (c:ScN),σ=[some (.ref b),some (.ref p),some (.ref sd),x,y]/\ScB L b H H2 sd c/\∀x∈c.lds,x.2.length<=i) ?_ ?_ ?_
  ·exact ⟨x,none,c,rfl,S9,λx hx=>by rw [l6 x hx];exact ar _⟩
  ·rintro i σ H2 hi ⟨x,y',c,rfl,S,hl⟩
   have hw1:1<=c.ws.length:=by
    rw [S.O.ro.length]
    exact gW (qe S.O.gr.ok) S.O.l1
   have hzl:c.zs.length=c.ws.length:=(aY S.S.gi).trans (aa _)
   have hw6:c.ws.length<=6:=by rw [S.O.ro.length];exact S.O.gr.heads
   left
   refine ⟨sd,.ref c.gl,rfl,by rw [<- ym c.p c.q c.sg c.gl c.ll];exact qK.k (k:=.inr "grounds") S.S.sd,?_⟩
   left
   refine ⟨c.gl,_,rfl,.inl (SqL.of S.S.gl),?_⟩
   left
   refine ⟨L,b,_,rfl,S.B,⟨(),()⟩,λln H10 ln0 ln1 B10 X10=>?_⟩
   have S10:=S.take B10 X10
   left
   refine ⟨by show 2<=sizeLine;decide,λl11 H11 hl11 hl11' s11=>?_⟩
   have S11:=S10.same s11
   have l11b:l11≠b:=S10.B.ne hl11
   left
   refine ⟨L,b,_,rfl,S11.B,⟨⋯,⋯⟩,λv12 H12 p12 q12 B12 X12=>?_⟩
   have S12:=S11.take B12 X12
   obtain ⟨n,hn,n0,n1⟩:=Gy p12 q12
   refine ⟨_,_,_,_,rfl,rfl,SqL.of (X12 _ _ hl11' l11b),hn,?_⟩
   left
   refine ⟨L,b,_,rfl,S12.B,⟨n0,()⟩,λv13 H13 p13 q13 B13 X13=>?_⟩
   have S13:=S12.take B13 X13
   left
   have hll:ln.toNat<c.lds.length:=by rw [S.O.ldl];omega
   obtain ⟨⟨a,ns⟩,ha⟩:∃z,c.lds[ln.toNat]? = some z:=⟨_,ae hll⟩
   refine ⟨sd,.ref c.ll,rfl,by rw [<- vY c.p c.q c.sg c.gl c.ll];exact qK.k (k:=.inr "leaps") S13.S.sd,?_⟩
   left
   refine ⟨_,_,_,_,rfl,rfl,SqL.of S13.S.ll,xg ln0 (v:=V.ref a) (by rw [aB,ha];rfl),?_⟩
   left
   refine ⟨L,b,rfl,S13.B,λy H14 y0 y1 B14 X14=>?_⟩
   have S14:=S13.take B14 X14
   have hns:=hl _ (ay ha)
   refine ⟨a,_,rfl,kT.k (k:=.inl y) (S14.r2 _ (ay ha)) (by rw [aa];exact ja (by have:ns.length<=i:=hns;omega)),?_⟩
   have hns:ns.length<=i:=hns
   refine ⟨_,_,{ c with lds:=c.lds.set ln.toNat (a,xJ ns y (1+v13)) },rfl,S14.leap ha y0 y1 () () (),λx hx=>?_⟩
   rcases uv S.O.nd ha hx with z | ⟨z,_⟩
   ·subst z
    exact aI (uw _ _ _) ()
   ·exact ly (hl x z)
  ·rintro σ H2 ⟨x,y',c,rfl,S,hl⟩
   left
   exact k sd H2 c S.B S.X S.S S.O
theorem IceNew.made {C Pt p dx:Addr}{H H':Hp}{g:IceG}{o o':HO}(hp:H p=none) (hd:H dx=none) (I:IceNew C Pt (upd (upd H dx o) p o') H' p g):IceNew C Pt H H' p g:=by
 have s:jg H (upd (upd H dx o) p o'):=λc u h=>by rw [j5 (j1 h hp),j5 (j1 h hd)];exact h
 exact ⟨I.at_,λc u h n m=>I.keep c u (s c u h) n m,s.free I.va,s.free I.cy,s.free I.sl,s.free I.ye,s.free I.le,λa z=>s.free (I.zs a z),I.kvs,λx hx=>⟨s.free (I.lds x hx).1,(I.lds x hx).2⟩,I.ll,I.nd,I.ny,I.sl2⟩
structure IceFr (H:Hp) (p:Addr) (g:IceG):Prop where
 p:H p=none
 va:H g.va=none
 cy:H g.cy=none
 sl:H g.sl=none
 ye:H g.ye=none
 le:H g.le=none
 zs:∀a,V.ref a∈g.zs->H a=none
 lds:∀x∈g.lds,H x.1=none
theorem IceAt.stay {C p:Addr}{H H2 H3:Hp}{g:IceG}(I:IceAt C H2 p g) (F:IceFr H p g) (f:∀a o,H2 a=some o->H a=none->H3 a=some o) (t:jm H2 H3):IceAt C H3 p g :=
 ⟨f _ _ I.ob F.p,f _ _ I.va F.va,I.rs.keep t,f _ _ I.cy F.cy,I.rows.imp λ_ _ q=>t _ _ q,f _ _ I.sl F.sl,pmM I.slopes λv hv w ⟨a,ea,q⟩=>⟨a,ea,f _ _ q (F.zs a (ea ▸ hv))⟩,f _ _ I.ye F.ye,f _ _ I.le F.le,λx hx=>f _ _ (I.lds x hx) (F.lds x hx)⟩
theorem Fr3.ext {N M:Addr->Prop}{H H2 H3:Hp}{a:Addr}(f:Fr3 N M H H2) (e:Ext a H2 H3) (ha:H a=none):Fr3 N M H H3:=λc o h n=>by
 have ca:c≠a:=j1 h ha
 rcases f c o h n with q | ⟨m,ob,kvs,eo,q⟩
 ·exact .inl (e _ _ q ca)
 ·exact .inr ⟨m,ob,kvs,eo,e _ _ q ca⟩
theorem Fr3.same {N M:Addr->Prop}{H H2 H3:Hp}(f:Fr3 N M H H2) (e:jg H2 H3):Fr3 N M H H3:=λc o h n=>by
 rcases f c o h n with q | ⟨m,ob,kvs,eo,q⟩
 ·exact .inl (e _ _ q)
 ·exact .inr ⟨m,ob,kvs,eo,e _ _ q⟩
theorem Fr3.frz {N M:Addr->Prop}{H H2:Hp}{a:Addr}{ob:Obj}{kvs:List (Key×V)}(f:Fr3 N M H H2) (h:H2 a=some (.dK kvs)) (m:M a):Fr3 N M H (upd H2 a (.frz ob (.dK kvs))):=λc o hc n=>by
 by_cases e:c=a
 ·subst e
  rcases f c o hc n with q | ⟨_,ob',kvs',eo,q⟩
  ·rw [h] at q
   cases q
   exact .inr ⟨m,ob,kvs,rfl,j4⟩
  ·rw [h] at q
   cases q
 ·rw [j5 e]
  exact f c o hc n
theorem Yr {H:Hp}{a:Addr}{ob:Obj}{kvs:List (Key×V)}(h:H a=some (.dK kvs)):jm H (upd H a (.frz ob (.dK kvs))):=λc xs q=>by rw [j5 (jk q h (by walk_at "z"))];exact q
theorem U0 {H:Hp}{a Pt:Addr}{ob:Obj}{kvs:List (Key×V)}(T:qB H Pt) (h:H a=some (.dK kvs)):qB (upd H a (.frz ob (.dK kvs))) Pt:=by
 rcases T with q | ⟨c,q,q'⟩
 ·exact .inl (by rw [j5 (jk q h (by walk_at "z"))];exact q)
 ·exact .inr ⟨c,by rw [j5 (jk q h (by walk_at "z"))];exact q,by rw [j5 (jk q' h (by walk_at "z"))];exact q'⟩
theorem Qo {H H':Hp}{a Pt:Addr}{kvs:List (Key×V)}(T:qB H Pt) (h:H a=some (.dK kvs)) (e:Ext a H H'):qB H' Pt:=by
 rcases T with q | ⟨c,q,q'⟩
 ·exact .inl (e _ _ q (jk q h (by walk_at "z")))
 ·exact .inr ⟨c,e _ _ q (jk q h (by walk_at "z")),e _ _ q' (jk q' h (by walk_at "z"))⟩
theorem WK {ns:List (Int×Addr)}{i:Nat}{q:Key×V}(h:(ns.map kvA)[i]? = some q):∃z,ns[i]? = some z/\q=kvA z:=by
 rw [aB] at h
 cases e:ns[i]? with
 | none=>rw [e] at h;cases h
 | some z=>rw [e] at h;cases h;exact ⟨z,rfl,rfl⟩
theorem gL:∀{ns:List (Int×Addr)},(ns.map (·.1)).Nodup->∀{z:Int×Addr},z∈ns->qi (ns.map kvA) (.inl z.1)=some (.ref z.2)
 | [],_,z,h=>by cases h
 | q::r,nd,z,h=>by
  rw [aO] at nd
  obtain ⟨h1,h2⟩:=List.nodup_cons.mp nd
  rw [aO]
  rcases List.mem_cons.mp h with e | e
  ·subst e
   exact xz
  ·have ne:¬q.1=z.1:=λw=>h1 (by rw [w];exact aX e)
   show qi ((.inl q.1,.ref q.2)::r.map kvA) (.inl z.1)=_
   rw [jr (λw=>ne (fh w))]
   exact gL h2 e
theorem YV {α:Type}{l:List (Int×α)}{y:Int}{a:α}(h:y∉l.map (·.1)):xJ l y a=l++[(y,a)]:=by
 unfold xJ
 rw [if_neg]
 intro z
 obtain ⟨u,hu,e⟩:=List.any_eq_true.mp z
 exact h (of_decide_eq_true e ▸ aX hu)
theorem Xh {α:Type}{l:List (Int×α)}(nd:(l.map (·.1)).Nodup) {i:Nat}{z:Int×α}(h:l[i]? = some z):z.1∉(l.take i).map (·.1):=λm=>by
 obtain ⟨hi,e⟩:=List.getElem?_eq_some_iff.mp h
 obtain ⟨u,hu,eu⟩:=List.mem_map.mp m
 obtain ⟨j,hj,ej⟩:=List.mem_iff_getElem.mp hu
 rw [aF] at hj
 rw [oZ] at ej
 have h1:(l.map (·.1))[j]'(by rw [aa];omega)=(l.map (·.1))[i]'(by rw [aa];exact hi):=by rw [eG,eG,ej,e,eu]
 exact absurd h1 (List.pairwise_iff_getElem.mp nd j i _ _ ())
theorem QH {α:Type}{f:α->V}{l:List (Int×α)}(nd:(l.map (·.1)).Nodup) {i:Nat}{z:Int×α}(h:l[i]? = some z):qJ ((l.take i).map λz=>((.inl z.1,f z.2):Key×V)) (.inl z.1) (f z.2)=(l.take (i+1)).map λz=>((.inl z.1,f z.2):Key×V):=by
 rw [k9 f,YV (Xh nd h),aT,h]
 rfl
structure LdN (g0:List (Addr×List (Key×V))) (cl:List (Addr×List (Int×Int))) (i n:Nat) (lds:List (Addr×List (Key×V))):Prop where
 fst:lds.map (·.1)=g0.map (·.1)
 at_:∀j x,lds[j]? = some x->∃y,cl[j]? = some y/\x.2=(if j<i then y.2 else if j=i then y.2.take n else []).map kvI
theorem LdN.len {g0 lds:List (Addr×List (Key×V))}{cl:List (Addr×List (Int×Int))}{i n:Nat}(h:LdN g0 cl i n lds):lds.length=g0.length:=by
 have:=congrArg mS h.fst
 rwa [aa,aa] at this
theorem LdN.next {g0 lds:List (Addr×List (Key×V))}{cl:List (Addr×List (Int×Int))}{i n:Nat}{y:Addr×List (Int×Int)}(h:LdN g0 cl i n lds) (hy:cl[i]? = some y) (hn:y.2.length<=n):LdN g0 cl (i+1) 0 lds:=⟨h.fst,λj x hx=>by
 obtain ⟨u,hu,e⟩:=h.at_ j x hx
 refine ⟨u,hu,?_⟩
 rw [e]
 by_cases a:j<i
 ·rw [if_pos a,if_pos ()]
 ·rw [if_neg a]
  by_cases b:j=i
  ·subst b
   rw [hy] at hu
   cases hu
   rw [if_pos rfl,if_pos (),bp hn]
  ·rw [if_neg b,if_neg ()]
   split
   ·rfl
   ·rfl⟩
theorem LdN.put {g0 lds:List (Addr×List (Key×V))}{cl:List (Addr×List (Int×Int))}{i n:Nat}{y:Addr×List (Int×Int)}{z:Int×Int}{a:Addr}{kvs:List (Key×V)}(h:LdN g0 cl i n lds) (hy:cl[i]? = some y) (nd:(y.2.map (·.1)).Nodup) (hz:y.2[n]? = some z) (ha:lds[i]? = some (a,kvs)):LdN g0 cl i (n+1) (yY lds i (qJ kvs (.inl z.1) (.int z.2))):=by
 obtain ⟨u,hu,e⟩:=h.at_ i _ ha
 rw [hy] at hu
 cases hu
 rw [if_neg (cc i),if_pos rfl] at e
 have e2:qJ kvs (.inl z.1) (.int z.2)=(y.2.take (n+1)).map kvI:=by
  rw [show kvs=(y.2.take n).map kvI from e]
  exact QH (f:=V.int) nd hz
 refine ⟨?_,λj x hx=>?_⟩
 ·rw [<- h.fst]
  unfold yY
  rw [ak,ha]
  exact Zv ha
 ·unfold yY at hx
  rw [i9] at hx
  by_cases b:i=j
  ·subst b
   rw [if_pos rfl,if_pos (List.getElem?_eq_some_iff.mp ha).1] at hx
   cases hx
   exact ⟨y,hy,by rw [if_neg (cc i),if_pos rfl];exact e2⟩
  ·rw [if_neg b] at hx
   obtain ⟨u,hu,e⟩:=h.at_ j x hx
   refine ⟨u,hu,?_⟩
   rw [e]
   by_cases c:j<i
   ·rw [if_pos c,if_pos c]
   ·rw [if_neg c,if_neg c,if_neg (λq=>b q.symm),if_neg (λq=>b q.symm)]
theorem ScAt.fr {Pt sd:Addr}{H H':Hp}{c:ScN}(S:ScAt H sd c) (T:qB H Pt) (f:Fr3 (λa=>a=Pt) c.D H H'):ScAt H' sd c:=by
 obtain ⟨ps,hP⟩:=T.ne
 have n:∀{a:Addr} {o:HO},H a=some o->(∀ps,o≠.tbl ps)->¬a=Pt:=λh q=>jk h hP (q _)
 have nr:∀{a:Addr} {kvs:List (Key×V)},Rd H a (.dK kvs)->¬a=Pt:=λh=>by
  rcases h with h | ⟨o,h⟩
  ·exact n h (by walk_at "w")
  ·exact n h (by walk_at "w")
 exact S.keep f (λa xs h=>n h (by walk_at "w")) (n S.sd (by walk_at "w")) S.nD (n S.p (by walk_at "w")) (n S.q (by walk_at "w")) (n S.gl (by walk_at "w")) (n S.ll (by walk_at "w")) (λa h=>by
  obtain ⟨w,a',e,q⟩:=pm S.gi _ h
  cases e
  exact n q (by walk_at "w")) (nr S.sg) λx hx=>nr (S.ld x hx)
theorem ScAt.inD {H:Hp}{sd a:Addr}{c:ScN}(S:ScAt H sd c) (h:c.D a):∃o,H a=some o:=by
 have r:∃kvs,Rd H a (.dK kvs):=by
  rcases h with h | ⟨x,hx,e⟩
  ·exact ⟨_,h ▸ S.sg⟩
  ·exact ⟨_,e ▸ S.ld x hx⟩
 obtain ⟨_,r | ⟨o,r⟩⟩:=r
 ·exact ⟨_,r⟩
 ·exact ⟨_,r⟩
theorem VD {a:Addr}{kvs:List (Key×V)}{o:Obj}{H H4:Hp}(f:Fz a kvs o H H4):jm H H4:=λc xs q=>by
 rcases f.2 with rfl | ⟨h,rfl⟩
 ·exact q
 ·exact Yr h c xs q
theorem Gx {N M:Addr->Prop}{a:Addr}{kvs:List (Key×V)}{o:Obj}{H H2 H4:Hp}(f:Fz a kvs o H2 H4) (r:Fr3 N M H H2) (m:M a):Fr3 N M H H4:=by
 rcases f.2 with rfl | ⟨h,rfl⟩
 ·exact r
 ·exact r.frz h m
theorem G2 {a Pt:Addr}{kvs:List (Key×V)}{o:Obj}{H H4:Hp}(f:Fz a kvs o H H4) (T:qB H Pt):qB H4 Pt:=by
 rcases f.2 with rfl | ⟨h,rfl⟩
 ·exact T
 ·exact U0 T h
structure MdI (C Pt p:Addr) (c:ScN) (H H2:Hp) (g:IceG):Prop where
 I:IceAt C H2 p g
 F:IceFr H p g
 R:Fr3 (λa=>a=Pt) c.D H H2
 T:qB H2 Pt
theorem MdI.frz {C Pt p sd a:Addr}{c:ScN}{H H2 H4:Hp}{g:IceG}{kvs:List (Key×V)}{o:Obj}(M:MdI C Pt p c H H2 g) (S:ScAt H sd c) (h:c.D a) (f:Fz a kvs o H2 H4):MdI C Pt p c H H4 g:=by
 obtain ⟨_,ha⟩:=S.inD h
 exact ⟨M.I.stay M.F (λb u hb n=>f.at hb (j1 ha n).symm) (VD f),M.F,Gx f M.R h,G2 f M.T⟩
theorem MdI.same {C Pt p:Addr}{c:ScN}{H H2 H4:Hp}{g:IceG}(M:MdI C Pt p c H H2 g) (s:jg H2 H4):MdI C Pt p c H H4 g:=⟨M.I.same s,M.F,M.R.same s,M.T.same s⟩
theorem LdN.mem {g0 lds:List (Addr×List (Key×V))}{cl:List (Addr×List (Int×Int))}{i n:Nat}(h:LdN g0 cl i n lds) {x:Addr×List (Key×V)}(hx:x∈lds):∃y∈g0,y.1=x.1:=by
 have:x.1∈g0.map (·.1):=h.fst ▸ aX hx
 obtain ⟨y,hy,e⟩:=List.mem_map.mp this
 exact ⟨y,hy,e⟩
noncomputable def YO (C Pt:Addr):Sp:=λvs H Q _=>∃(sd b:Addr) (c:ScN),vs=[.ref sd]/\ScAt H sd c/\ScOk b c/\qB H Pt /\
 ∀p H' g,IceAt C H' p g->IceFr H p g->Fr3 (λa=>a=Pt) c.D H H'->qB H' Pt->g.rs=c.rs->g.rows=c.ts->g.slopes=c.ws.map (jb c.rs)->g.kvs=c.sk.map kvA->g.lds.length=c.lds.length->(∀(l:Nat) x,g.lds[l]? = some x->∃y,c.lds[l]? = some y/\x.2=y.2.map kvI)->(∀x∈g.lds,x.1≠g.ye)->(g.lds.map (·.1)).Nodup->Q (.ref p) H'
theorem xj:FnScope ["_law_scene_here","_law_ice","_law_year_here","_law_lane","_law_leaps"] ["_law_scene_here"] (j7 vK):=by walk_at "s"
theorem U6 {f C CV CR CN CY CW CS Pt:Addr}{fd:FuncData}(nb:Nb2 mg) (cl_Ice:Cls K C) (c_Ice:MakX P w K mg base 8 C "Ice" ["self","reaches","rows"] (YW C CV CR Pt)) (c_Ice__tell:CalMX P w K mg base 2 C "tell" ["self","year","row"] (VE C CY CW)) (c_Ice__surge:CalMX P w K mg base 2 C "surge" ["self","lane","year","many"] (Zs C CN CY CS)) (F:Fun K "_law_made" "_law_made" vK f fd):FnOk P w K mg base CX0 10 f fd ["_law_scene_here"] (YO C Pt):=by
 refine F.ok xj (λvs H Q E h=>?_) (λcdv A outer s H vs Q E hr h=>?_)
 ·obtain ⟨sd,b,c,rfl,_⟩:=h
  rfl
 ·obtain ⟨sd,b,c,rfl,S,O,T,k⟩:=h
  refine ⟨_,(j6 (jG 1 xj.nd (Uf c_Ice (hr.mono ⋯) Jj rfl (j0 (qk (qA K) rfl nb.b_list bM (j0 (jE (jQ hr) (pv 0) jJ (λ_ _=>rfl)) j2)) (j0 (qk (qA K) rfl nb.b_list bM (j0 (jE (jQ hr) (pv 0) jJ (λ_ _=>rfl)) j2)) j2))))
   (j6 (xD bI rfl (wx (jE (jQ hr) (pv 0) jJ (λ_ _=>rfl))) (jd (i:=2) xj.nd rfl (aW rfl)) (j9 (qa (zU (pv 1) cl_Ice c_Ice__tell (hr.mono ⋯) Jj (j0 (pv 2) (j0 (jE (jQ hr) (jE (jQ hr) (pv 0) jJ (λ_ _=>rfl)) (pv 2) (λ_ _=>rfl)) j2))))))
   (j6 (xD bI rfl (Jh K rfl nb.b_enumerate (j0 (jE (jQ hr) (pv 0) jJ (λ_ _=>rfl)) j2)) (qT (n:=2) K rfl (js (jd (i:=3) xj.nd rfl (aW rfl)) (js (jd (i:=4) xj.nd rfl (aW rfl)) qL))) (j9 (xD bI rfl (wx (pv 4)) (jd (i:=2) xj.nd rfl (aW rfl)) (j9 (qa (zU (pv 1) cl_Ice c_Ice__surge (hr.mono ⋯) Jj (j0 (pv 3) (j0 (pv 2) (j0 (jE (jQ hr) (pv 4) (pv 2) (λ_ _=>rfl)) j2)))))))))
   (j9 (jj (pv 1)))))),?_⟩
  left
  refine ⟨sd,.ref c.p,rfl,by rw [<- Xq c.p c.q c.sg c.gl c.ll];exact qK.k (k:=.inr "reaches") S.sd,?_⟩
  refine ⟨_,_,rfl,.inl (SqL.of S.p),λl1 H1 hl1 hl11 s1=>?_⟩
  have S1:=S.same s1
  left
  refine ⟨sd,.ref c.q,rfl,by rw [<- Jp c.p c.q c.sg c.gl c.ll];exact qK.k (k:=.inr "rows") S1.sd,?_⟩
  refine ⟨_,_,rfl,.inl (SqL.of S1.q),λl2 H2 hl2 hl22 s2=>?_⟩
  have S2:=S1.same s2
  have s12:=s1.trans s2
  left
  intro p dx hp hd hdp
  have s3:jg H2 (upd (upd H2 dx (.own p)) p (.ins C dx [])):=λc u h=>by rw [j5 (j1 h hp),j5 (j1 h hd)];exact h
  have S3:=S2.same s3
  have egr:gr c.ts=true:=by
   have:=O.t1
   have:=O.t2
   unfold gr
   rw [decide_eq_true (),O.tg]
   rfl
  have eg:=O.gr.good O.l1 O.l8
  refine ⟨p,dx,l1,l2,c.xs,c.ys,c.rs,c.ts,rfl,j4,s3 _ _ (s2 _ _ hl11),S3.rv,s3 _ _ hl22,S3.r3,λr hr=>aI (Zr O.gr r hr) ⋯,aI O.l8 ⋯,aI O.t2 ⋯,(T.same s12).same s3,λH4 g _ _ I e1 e2 e3 e4 T4=>?_,(λH' z _ _=>by rw [eg] at z;cases z),(λH' _ z _ _=>by rw [egr] at z;cases z)⟩
  have I:=I.made hp hd
  obtain ⟨ws,hR,esl⟩:=I.sl2
  rw [e1] at hR esl
  obtain rfl:=hR.unique O.ro
  have F4:IceFr H p g:=⟨s12.free hp,s12.free I.va,s12.free I.cy,s12.free I.sl,s12.free I.ye,s12.free I.le,λa z=>s12.free (I.zs a z),λx hx=>s12.free (I.lds x hx).1⟩
  have M4:MdI C Pt p c H H4 g:=⟨I.at_,F4,λa o h n=>.inl (I.keep a o (s12 _ _ h) (j1 h F4.p) n),T4⟩
  have ll4:g.lds.length=c.lds.length:=by rw [I.ll,esl,aa,O.ldl]
  have nd4:=I.nd
  have ny4:=I.ny
  have kv4:=I.kvs
  have ld4:∀x∈g.lds,x.2=[]:=λx hx=>(I.lds x hx).2
  clear I S3 s3 S2 hl22 hl11 S1 T4
  refine ⟨rfl,?_⟩
  have S4:=S.fr T M4.R
  left
  refine ⟨sd,.ref c.sg,rfl,by rw [<- zg c.p c.q c.sg c.gl c.ll];exact qK.k (k:=.inr "single") S4.sd,?_⟩
  have hsgD:c.D c.sg:=.inl rfl
  refine Jf (kvs:=c.sk.map kvA) S4.sg (λo i σ H5=>∃x:Option V,σ=[some (.ref sd),some (.ref p),x,none,none]/\H5 c.sg=some (.frz o (.dK (c.sk.map kvA)))/\MdI C Pt p c H H5 { g with kvs:=(c.sk.take i).map kvA }) ?_ ?_ ?_ ?_
  ·intro o H5 f5
   refine ⟨none,rfl,f5.1,?_⟩
   have:=M4.frz S hsgD f5
   have e:g={ g with kvs:=(c.sk.take 0).map kvA }:=by
    show g={ g with kvs:=[] }
    rw [<- kv4]
   rw [<- e]
   exact this
  ·rintro o i σ H5 hi ⟨x,rfl,h5,M5⟩
   exact h5
  ·rintro o i u σ H5 hq ⟨x,rfl,h5,M5⟩
   obtain ⟨z,hz,rfl⟩:=WK hq
   have hm:=ay hz
   have hi:i<c.sk.length:=(List.getElem?_eq_some_iff.mp hz).1
   have h10:=O.k3
   have S5:=S.fr T M5.R
   obtain ⟨r,hr3,hgr⟩:=S5.sk z hm
   obtain ⟨y0,y1⟩:=O.k2 z hm
   show vo 2 (V.int z.1) _ _ _
   left
   refine ⟨p,g.dx,_,rfl,M5.I.ob,qr ∅,?_⟩
   left
   refine ⟨sd,.ref c.sg,rfl,by rw [<- zg c.p c.q c.sg c.gl c.ll];exact qK.k (k:=.inr "single") S5.sd,?_⟩
   left
   refine ⟨c.sg,.ref z.2,rfl,(by rw [<- gL O.k1 hm];exact .inl ⟨_,.inl z.1,.inr ⟨o,h5⟩,rfl,rfl⟩),?_⟩
   refine ⟨p,z.2,_,z.1,r,rfl,M5.I,ny4,hr3,(by rw [aa,aF];omega),λH6 _ _ _ X6 I6=>?_,λhb=>absurd hb (),λ_ _ hb=>by rw [hgr] at hb;cases hb⟩
   have e:qJ ((c.sk.take i).map kvA) (.inl z.1) (.ref z.2)=(c.sk.take (i+1)).map kvA:=QH (f:=V.ref) O.k1 hz
   obtain ⟨_,hsg0⟩:=S.inD hsgD
   refine ⟨_,rfl,X6 _ _ h5 (j1 hsg0 F4.ye),?_⟩
   rw [<- e]
   exact ⟨I6,⟨F4.p,F4.va,F4.cy,F4.sl,F4.ye,F4.le,F4.zs,F4.lds⟩,M5.R.ext X6 F4.ye,Qo M5.T M5.I.ye X6⟩
  ·rintro o σ H5 ⟨x,rfl,h5,M5⟩
   rw [aa,aS] at M5
   have S5:=S.fr T M5.R
   left
   refine ⟨sd,.ref c.ll,rfl,by rw [<- vY c.p c.q c.sg c.gl c.ll];exact qK.k (k:=.inr "leaps") S5.sd,?_⟩
   left
   refine ⟨⟨_,SqL.of S5.ll⟩,?_⟩
   refine QO (K:=K) (a:=c.ll) (xs:=c.lds.map λx=>V.ref x.1) (λi σ H6=>∃(x y z:Option V) (lds:List (Addr×List (Key×V))),σ=[some (.ref sd),some (.ref p),x,y,z]/\MdI C Pt p c H H6 { g with kvs:=c.sk.map kvA,lds:=lds }/\LdN g.lds c.lds i 0 lds) ?_ ?_ ?_ ?_
   ·refine ⟨x,none,none,g.lds,rfl,M5,rfl,λj x hx=>?_⟩
    have hj:=(List.getElem?_eq_some_iff.mp hx).1
    obtain ⟨y,hy⟩:∃y,c.lds[j]? = some y:=⟨_,ae ()⟩
    refine ⟨y,hy,?_⟩
    rw [ld4 x (ay hx),if_neg (mB _)]
    split <;> rfl
   ·rintro i σ H6 hi ⟨x,y,z,lds,rfl,M6,L6⟩
    exact SqL.of (S.fr T M6.R).ll
   ·rintro i v σ H6 t hv ⟨x,y,z,lds,rfl,M6,L6⟩ ht
    rw [aB] at hv
    obtain ⟨⟨a,ns⟩,hy,ev⟩:=Option.map_eq_some_iff.mp hv
    subst ev
    have M7:=M6.same (jg.new (o:=.tup [.int i,.ref a]) ht)
    left
    refine ⟨t,_,rfl,SqT.of j4,rfl,?_⟩
    refine ⟨_,_,rfl,_,_,rfl,rfl,?_⟩
    left
    clear M6
    generalize upd H6 t (.tup [.int i,.ref a])=H7 at *
    have S7:=S.fr T M7.R
    have hm:=ay hy
    have haD:c.D a:=.inr ⟨_,hm,rfl⟩
    obtain ⟨_,ha0⟩:=S.inD haD
    refine Jf (kvs:=ns.map kvI) (S7.ld _ hm) (λo n σ H8=>∃(x:Option V) (lds:List (Addr×List (Key×V))),σ=[some (.ref sd),some (.ref p),x,some (.int i),some (.ref a)]/\H8 a=some (.frz o (.dK (ns.map kvI)))/\MdI C Pt p c H H8 { g with kvs:=c.sk.map kvA,lds:=lds }/\LdN g.lds c.lds i n lds) ?_ ?_ ?_ ?_
    ·intro o H8 f8
     exact ⟨x,lds,rfl,f8.1,M7.frz S haD f8,L6⟩
    ·rintro o n σ H8 hn ⟨x,lds,rfl,h8,M8,L8⟩
     exact h8
    ·clear L6 M7 S7
     rintro o n u σ H8 hq ⟨x,lds,rfl,h8,M8,L8⟩
     obtain ⟨z,hz,rfl⟩:=Xg hq
     have hzm:=ay hz
     obtain ⟨y0,y1,m0,m1⟩:=O.m2 _ hm z hzm
     have hl8:=L8.len
     have hi8:i<lds.length:=by
      have:=(List.getElem?_eq_some_iff.mp hy).1
      omega
     have hsl:g.slopes.length=lds.length:=by rw [esl,aa,hl8,ll4,O.ldl]
     show vo 2 (V.int z.1) _ _ _
     left
     refine ⟨p,g.dx,_,rfl,M8.I.ob,qr ∅,?_⟩
     left
     refine ⟨a,.int z.2,rfl,(by rw [<- ve (O.m1 _ hm) hzm,<- zj ns z.1 (aX hzm)];exact .inl ⟨_,.inl z.1,.inr ⟨o,h8⟩,rfl,rfl⟩),?_⟩
     refine ⟨p,_,(i:Int),z.1,z.2,rfl,M8.I,hsl.symm,(λx hx=>by obtain ⟨y,hy,e⟩:=L8.mem hx;rw [<- e];exact ny4 y hy),(by show (lds.map (·.1)).Nodup;rw [L8.fst];exact nd4),(λx hx=>?_),λH9 a9 kvs9 _ _ _ _ _ _ ha9 X9 I9=>?_,(λhb=>absurd hb (by show ¬((i:Int)<0\/(g.slopes.length:Int)<=i);omega)),(λ_ _ hb=>absurd hb ()),λ_ _ _ _ hb=>absurd hb ()⟩
     ·obtain ⟨j,hj,ex⟩:=List.mem_iff_getElem.mp hx
      obtain ⟨y,hy,e⟩:=L8.at_ j x (by rw [ae hj,ex])
      have h10:=O.m3 y (ay hy)
      rw [e,aa]
      split
      ·omega
      ·split
       ·rw [aF];omega
       ·exact aQ _
     ·have ha9:lds[i]? = some (a9,kvs9):=ha9
      have L9:=L8.put hy (O.m1 _ hm) hz ha9
      have a90:H a9=none:=M8.F.lds _ (ay ha9)
      refine ⟨_,_,rfl,X9 _ _ h8 (j1 ha0 a90),⟨I9,⟨F4.p,F4.va,F4.cy,F4.sl,F4.ye,F4.le,F4.zs,λx hx=>?_⟩,M8.R.ext X9 a90,Qo M8.T (M8.I.lds _ (ay ha9)) X9⟩,L9⟩
      obtain ⟨y,hy,e⟩:=L9.mem hx
      rw [<- e]
      exact F4.lds y hy
    ·rintro o σ H8 ⟨x,lds,rfl,h8,M8,L8⟩
     exact ⟨x,_,_,lds,rfl,M8,L8.next hy (by rw [aa];exact ar _)⟩
   ·rintro σ H6 ⟨x,y,z,lds,rfl,M6,L6⟩
    left
    refine k p H6 _ M6.I M6.F M6.R M6.T e1 e2 esl rfl (L6.len.trans ll4) (λl x hx=>?_) (λx hx=>?_) (by show (lds.map (·.1)).Nodup;rw [L6.fst];exact nd4)
    ·obtain ⟨y,hy,e⟩:=L6.at_ l x hx
     refine ⟨y,hy,?_⟩
     rw [e,if_pos (by rw [aa];exact (List.getElem?_eq_some_iff.mp hy).1)]
    ·obtain ⟨y,hy,e⟩:=L6.mem hx
     rw [<- e]
     exact ny4 y hy
theorem wd {rs:List Rch}(h:zx rs=true):1<=rs.length/\rs.length<=8/\uK rs=true/\∀ws,jY rs ws->∀w∈ws,(jb rs w).length<=30:=by
 unfold zx at h
 rw [bh,bh,bh] at h
 obtain ⟨h1,h2,_,h4⟩:=h
 have h1:=of_decide_eq_true h1
 refine ⟨(),(),h2,λws hR w hw=>?_⟩
 obtain ⟨x,hx,e⟩:=hR.mem hw
 have:=of_decide_eq_true (List.all_eq_true.mp h4 x hx)
 have g:=kh rs w
 rw [<- e] at this
 omega
theorem wY {rs:List Rch}(G:Grown rs) {ws:List (List Int)}(R:jY rs ws) {w:List Int}(hw:w∈ws):1<=(jb rs w).length:=by
 obtain ⟨x,hx,e⟩:=R.mem hw
 have hl:=xF hx
 have o:=Jg G.ok (ae hl)
 unfold okR at o
 rw [bh,bh] at o
 have o:=of_decide_eq_true o.1.2
 have eh:zO rs ((x:Int)).toNat=(rs[x]'hl).2:=by
  unfold zO
  rw [bb,ak,ae hl]
  rfl
 rw [e,zE (qe G.ok) hl]
 unfold jb
 rw [aO,lB,aw,eh]
 omega
theorem VU {L b Pt:Addr}{Ha Hb:Hp}(B:qh L Ha b) (e:Ext b Ha Hb) (T:qB Ha Pt):qB Hb Pt:=by
 obtain ⟨ns,a,r,c,d,h1,_⟩:=B
 exact T.ext h1 e
structure Lw (C L b sd p:Addr) (c:ScN) (g:IceG) (H0 H:Hp):Prop where
 B:qh L H b
 S:ScAt H sd c
 I:IceAt C H p g
 O:ScOk b c
 F:IceFr H0 p g
 B0:qh L H0 b
 S0:ScAt H0 sd c
theorem Lw.same {C L b sd p:Addr}{c:ScN}{g:IceG}{H0 H H':Hp}(W:Lw C L b sd p c g H0 H) (s:jg H H'):Lw C L b sd p c g H0 H':=⟨W.B.same s,W.S.same s,W.I.same s,W.O,W.F,W.B0,W.S0⟩
theorem Lw.take {C L b sd p:Addr}{c:ScN}{g:IceG}{H0 H H':Hp}(W:Lw C L b sd p c g H0 H) (B:qh L H' b) (X:Ext b H H'):Lw C L b sd p c g H0 H' :=
 ⟨B,W.S.ext W.O W.B X,W.I.stay W.F (λa o h n=>X a o h (W.B0.ne n)) (zf W.B X),W.O,W.F,W.B0,W.S0⟩
theorem Lw.fr {C L b sd p:Addr}{c:ScN}{g:IceG}{H0 H H':Hp}(W:Lw C L b sd p c g H0 H) (f:FrM c.D H H'):Lw C L b sd p c g H0 H':=by
 refine ⟨?_,?_,W.I.stay W.F (λa o h n=>?_) (λa xs h=>f.at h (by walk_at "w")),W.O,W.F,W.B0,W.S0⟩
 ·obtain ⟨ns,a,r,c,d,h1,h2,h3,h4⟩:=W.B
  exact ⟨ns,a,r,c,d,f.at h1 (by walk_at "w"),h2,f.at h3 (by walk_at "w"),h4⟩
 ·exact W.S.keep (N:=λ_=>False) (λc o h _=>f c o h) (λ_ _ _ z=>z) id W.S.nD id id id id (λ_ _=>id) id (λ_ _=>id)
 ·rcases f a o h with z | ⟨m,_⟩
  ·exact z
  ·obtain ⟨_,q⟩:=W.S0.inD m
   rw [n] at q
   cases q
theorem Lw.start {C L b sd p Pt:Addr}{c:ScN}{g:IceG}{H2 H3:Hp}(S2:ScAt H2 sd c) (O:ScOk b c) (B2:qh L H2 b) (T2:qB H2 Pt) (I3:IceAt C H3 p g) (F3:IceFr H2 p g) (R3:Fr3 (λa=>a=Pt) c.D H2 H3):Lw C L b sd p c g H2 H3:=by
 refine ⟨?_,S2.fr T2 R3,I3,O,F3,B2,S2⟩
 obtain ⟨ps,hP⟩:=T2.ne
 obtain ⟨ns,a,r,c,d,h1,h2,h3,h4⟩:=B2
 exact ⟨ns,a,r,c,d,R3.at h1 (jk h1 hP (by walk_at "z")) (by walk_at "w"),h2,R3.at h3 (jk h3 hP (by walk_at "z")) (by walk_at "w"),h4⟩
structure Lk (c:ScN) (g:IceG):Prop where
 rs:g.rs=c.rs
 rows:g.rows=c.ts
 sl:g.slopes=c.ws.map (jb c.rs)
 kv:g.kvs=c.sk.map kvA
 ll:g.lds.length=c.lds.length
 ld:∀(l:Nat) x,g.lds[l]? = some x->∃y,c.lds[l]? = some y/\x.2=y.2.map kvI
 ny:∀x∈g.lds,x.1≠g.ye
 nd:(g.lds.map (·.1)).Nodup
structure LaneF (c:ScN) (g:IceG) (ln:Int) (wy:List Int) (da:Addr) (dn:List (Int×Int)):Prop where
 way:c.ws[ln.toNat]? = some wy
 sl:g.slopes.getD ln.toNat []=jb c.rs wy
 g1:1<=(jb c.rs wy).length
 g30:(jb c.rs wy).length<=30
 cd:c.lds[ln.toNat]? = some (da,dn)
 D:c.D da
 nd:(dn.map (·.1)).Nodup
 b:∀q∈dn,0<=q.1/\q.1<=99/\1<=q.2/\q.2<=9
 l10:dn.length<=10
 at_:Ur g ln dn
 l0:0<=ln
 l1:ln<(g.slopes.length:Int)
theorem Lk.lane {b:Addr}{c:ScN}{g:IceG}(k:Lk c g) (O:ScOk b c) {ln:Int}(h0:0<=ln) (h1:ln<(c.ws.length:Int)):∃wy da dn,LaneF c g ln wy da dn:=by
 have hi:ln.toNat<c.ws.length:=()
 have hwy:=ae hi
 have hgs:g.slopes[ln.toNat]? = some (jb c.rs (c.ws[ln.toNat]'hi)):=by rw [k.sl,aB,hwy];rfl
 have hl:g.slopes.length=c.ws.length:=by rw [k.sl,aa]
 obtain ⟨⟨da,dn⟩,hda⟩:∃z,c.lds[ln.toNat]? = some z:=⟨_,ae (by rw [O.ldl];omega)⟩
 have hdm:=ay hda
 obtain ⟨⟨da2,dk⟩,hda2⟩:∃z,g.lds[ln.toNat]? = some z:=⟨_,ae (by rw [k.ll,O.ldl];omega)⟩
 obtain ⟨_,q1,q2⟩:=k.ld _ _ hda2
 rw [hda] at q1
 cases q1
 obtain rfl:dk=dn.map kvI:=q2
 have hm:=bP hi
 have h10:dn.length<=10:=O.m3 _ hdm
 exact ⟨_,da,dn,hwy,by rw [ak,hgs];rfl,wY O.gr O.ro hm,(wd (O.gr.good O.l1 O.l8)).2.2.2 c.ws O.ro _ hm,hda,.inr ⟨_,hdm,rfl⟩,O.m1 _ hdm,O.m2 _ hdm,h10,⟨h0,(),⟨da2,hda2⟩,O.m1 _ hdm,(),λq hq=>by have:=O.m2 _ hdm q hq;omega⟩,h0,()⟩
noncomputable def chg (t:T3) (h:Int):Int:=if t.1<=h then t.2.1 else-t.2.2
noncomputable def QD:Sp:=λvs H Q _=>∃(p:Addr) (t:T3) (h:Int),vs=[.ref p,.int h]/\H p=some (yq t)/\Q (.int (chg t h)) H
theorem vg:FnScope ["row","height","line","snow","sun"] ["row","height"] (j7 kM):=by walk_at "s"
theorem Yx {f:Addr}{fd:FuncData}(F:Fun K "change" "change" kM f fd):FnOk P w K mg base CX0 1 f fd ["row","height"] QD:=by
 refine F.ok vg (λvs H Q E h=>?_) (λcdv A outer s H vs Q E hr h=>?_)
 ·obtain ⟨p,t,h,rfl,_⟩:=h
  rfl
 ·obtain ⟨p,t,h,rfl,hp,k⟩:=h
  unfold chg at k
  refine ⟨_,(j6 (yD (pv 0) (qT (n:=3) K rfl (js (jd (i:=2) vg.nd rfl (aW rfl)) (js (jd (i:=3) vg.nd rfl (aW rfl)) (js (jd (i:=4) vg.nd rfl (aW rfl)) qL)))))
   (j6 (qq (jX VN (pv 1) (pv 2) (qd _)) (j9 (jj (pv 3))) jF)
   (j9 (jj (vq zM (pv 4)))))),?_⟩
  left
  refine ⟨p,_,rfl,SqT.of hp,rfl,?_⟩
  refine ⟨_,_,rfl,_,_,rfl,_,_,rfl,rfl,?_⟩
  left
  refine xo (λh1=>?_) (λh1=>?_)
  ·left
   rw [if_pos h1] at k
   exact k
  ·left
   rw [if_neg h1] at k
   exact k
noncomputable def YQ:Sp:=λvs H Q _=>∃(p:Addr) (t:T3) (h:Int),vs=[.ref p,.int h]/\H p=some (yq t)/\Q (.int (chg t h)) H
theorem QW:FnScope ["_law_row_here","_law_height"] ["_law_row_here","_law_height"] (j7 vN):=by walk_at "s"
theorem UK {f:Addr}{fd:FuncData}(F:Fun K "_law_wish" "_law_wish" vN f fd):FnOk P w K mg base CX0 1 f fd ["_law_row_here","_law_height"] YQ:=by
 refine F.ok QW (λvs H Q E h=>?_) (λcdv A outer s H vs Q E hr h=>?_)
 ·obtain ⟨p,t,h,rfl,_⟩:=h
  rfl
 ·obtain ⟨p,t,h,rfl,hp,k⟩:=h
  unfold chg at k
  have hp:H p=some (.tup [.int t.1,.int t.2.1,.int t.2.2]):=hp
  refine ⟨_,(j6 (qq (jX we (pv 1) (jn (qM K) (pv 0) j8 (λ_ _=>rfl)) (qd _)) (j9 (jj (ji xn j8 (jn (qM K) (pv 0) j8 (λ_ _=>rfl))))) jF)
   (j9 (jj (jn (qM K) (pv 0) j8 (λ_ _=>rfl))))),?_⟩
  left
  refine xo (λh1=>?_) (λh1=>?_)
  ·left
   rw [if_neg (),show-t.2.2=0-t.2.2 by omega] at k
   exact k
  ·left
   rw [if_pos ()] at k
   exact k
noncomputable def zJ (H:Hp) (sk:List (Int×Addr)) (wr:List (Int×T3)):Prop:=ck (λ(z:Int×Addr) (q:Int×T3)=>z.1=q.1/\H z.2=some (yq q.2)) sk wr
theorem zJ.keep {H H':Hp}{sk:List (Int×Addr)}{wr:List (Int×T3)}(h:zJ H sk wr) (t:jm H H'):zJ H' sk wr:=Paired.mapP h λ_ _ ⟨e,q⟩=>⟨e,t _ _ q⟩
theorem zJ.of {H:Hp}:∀{sk:List (Int×Addr)},(∀z∈sk,∃t,H z.2=some (yq t)/\good t=true)->∃wr,zJ H sk wr
 | [],_=>⟨[],.nil⟩
 | z::r,h=>by
  obtain ⟨t,ht,_⟩:=h z (aG ..)
  obtain ⟨wr,hw⟩:=zJ.of (sk:=r) λu hu=>h u (az _ hu)
  exact ⟨(z.1,t)::wr,.cons ⟨rfl,ht⟩ hw⟩
noncomputable def qc (wr:List (Int×T3)) (ts:List T3) (y:Int):T3 :=
 match wr.find? λq=>decide (q.1=y) with
 | some q=>q.2
 | none=>ts.getD (y % (ts.length:Int)).toNat (0,0,0)
theorem kO {H:Hp}:∀{sk:List (Int×Addr)}{wr:List (Int×T3)},zJ H sk wr->∀y:Int,
  (∃a q,qi (sk.map kvA) (.inl y)=some (.ref a)/\(wr.find? λq=>decide (q.1=y))=some q/\H a=some (yq q.2))\/(qi (sk.map kvA) (.inl y)=none/\(wr.find? λq=>decide (q.1=y))=none)
 | _,_,.nil,y=>.inr ⟨rfl,rfl⟩
 | z::sk,q::wr,.cons ⟨e,h⟩ r,y=>by
  rw [aO]
  by_cases c:z.1=y
  ·subst c
   exact .inl ⟨z.2,q,xz,by rw [mj (by rw [decide_eq_true e.symm])],h⟩
  ·have e1:qi (kvA z::sk.map kvA) (.inl y)=qi (sk.map kvA) (.inl y):=jr λw=>c (fh w)
   have e2:((q::wr).find? λq=>decide (q.1=y))=wr.find? λq=>decide (q.1=y):=ml (by rw [decide_eq_false (by rw [<- e];exact c)];exact au)
   rw [e1,e2]
   exact kO r y
theorem V3 {H:Hp}{ys:List V}{ts:List T3}(r:qN H ys ts) (h1:1<=ts.length) (y:Int):∃a,atI ys (y % (ys.length:Int))=some (.ref a)/\H a=some (yq (ts.getD (y % (ts.length:Int)).toNat (0,0,0))):=by
 have hl:ys.length=ts.length:=r.length
 have n0:(0:Int)<ts.length:=()
 have m0:=dH y (show (ts.length:Int)≠0 by omega)
 have m1:=cZ y n0
 have hi:(y % (ts.length:Int)).toNat<ys.length:=()
 obtain ⟨t,ht,a,ea,ha⟩:=r.get (ae hi)
 refine ⟨a,?_,?_⟩
 ·rw [hl]
  exact xg m0 (by rw [ae hi,ea])
 ·rw [ak,ht]
  exact ha
noncomputable def UV (C:Addr):Sp:=λvs H Q _=>∃(p:Addr) (g:IceG) (y:Int) (sk:List (Int×Addr)) (wr:List (Int×T3)),vs=[.ref p,.int y]/\IceAt C H p g/\g.kvs=sk.map kvA/\zJ H sk wr/\1<=g.rows.length/\g.rows.length<=1000/\∀t,H t=some (yq (qc wr g.rows y))->Q (.ref t) H
theorem JZ:FnScope ["self","year"] ["self","year"] (j7 vF):=by walk_at "s"
theorem JW {f C:Addr}{fd:FuncData}(nb:Nb2 mg) (T:IceC K C) (F:Fun K "sky" "Ice.sky" vF f fd):FnOk P w K mg base CX0 1 f fd ["self","year"] (UV C):=by
 refine F.ok JZ (λvs H Q E h=>?_) (λcdv A outer s H vs Q E hr h=>?_)
 ·obtain ⟨p,g,y,sk,wr,rfl,_⟩:=h
  rfl
 ·obtain ⟨p,g,y,sk,wr,rfl,I,ek,hw,h1,h2,k⟩:=h
  have hye:H g.ye=some (.dK (sk.map kvA)):=by rw [<- ek];exact I.ye
  obtain ⟨ra,hra,hrow⟩:=V3 I.rows h1 y
  refine ⟨_,(j9 (jj (kC (jQ hr) (qH K (pv 0)) (pv 1) (jn (je K) (qH K (pv 0)) (ji za (pv 1) (jc (jh K) rfl nb.b_len ba (j0 (qH K (pv 0)) j2))) (λ_ _=>rfl)) ⟨rfl,rfl,rfl,rfl⟩))),?_⟩
  left
  refine ⟨p,C,g.dx,_,_,rfl,I.ob,T.cl,T.nY,yo _ _ _ _ _,?_⟩
  left
  refine ⟨.inl ⟨_,.inl hye⟩,?_⟩
  left
  refine ⟨p,C,g.dx,_,_,rfl,I.ob,T.cl,T.nC,vG _ _ _ _ _,?_⟩
  left
  refine ⟨p,C,g.dx,_,_,rfl,I.ob,T.cl,T.nC,vG _ _ _ _ _,?_⟩
  left
  refine ⟨g.cy,_,rfl,.inl (SqL.of I.cy),?_⟩
  have hl:g.ys.length=g.rows.length:=I.rows.length
  left
  refine ⟨_,_,_,_,rfl,rfl,SqL.of I.cy,hra,?_⟩
  rcases kO hw y with ⟨a,q,e1,e2,h⟩ | ⟨e1,e2⟩
  ·refine ⟨some (.ref a),by rw [<- e1];exact qK.k (k:=.inl y) hye,?_⟩
   exact k a (by unfold qc;rw [e2];exact h)
  ·refine ⟨none,by rw [<- e1];exact qK.k (k:=.inl y) hye,?_⟩
   exact k ra (by unfold qc;rw [e2];exact hrow)
noncomputable def YH:Sp:=λvs H Q _=>∃(sd:Addr) (c:ScN) (y:Int) (wr:List (Int×T3)),vs=[.ref sd,.int y]/\ScAt H sd c/\zJ H c.sk wr/\1<=c.ts.length/\c.ts.length<=1000/\∀t,H t=some (yq (qc wr c.ts y))->Q (.ref t) H
theorem XV:FnScope ["_law_scene_here","_law_year_here"] ["_law_scene_here","_law_year_here"] (j7 uO):=by walk_at "s"
theorem WB {f:Addr}{fd:FuncData}(nb:Nb2 mg) (F:Fun K "_law_row" "_law_row" uO f fd):FnOk P w K mg base CX0 1 f fd ["_law_scene_here","_law_year_here"] YH:=by
 refine F.ok XV (λvs H Q E h=>?_) (λcdv A outer s H vs Q E hr h=>?_)
 ·obtain ⟨sd,c,y,wr,rfl,_⟩:=h
  rfl
 ·obtain ⟨sd,c,y,wr,rfl,S,hw,h1,h2,k⟩:=h
  refine ⟨_,(j6 (qq (WC (Wh (jQ hr) (pv 1) (jE (jQ hr) (pv 0) jJ (λ_ _=>rfl))) (by with_unfolding_all rfl)) (j9 (jj (jE (jQ hr) (jE (jQ hr) (pv 0) jJ (λ_ _=>rfl)) (pv 1) (λ_ _=>rfl)))) jF)
   (j9 (jj (jn (je K) (jE (jQ hr) (pv 0) jJ (λ_ _=>rfl)) (ji za (pv 1) (jc (jh K) rfl nb.b_len ba (j0 (jE (jQ hr) (pv 0) jJ (λ_ _=>rfl)) j2))) (λ_ _=>rfl))))),?_⟩
  obtain ⟨ra,hra,hrow⟩:=V3 S.r3 h1 y
  left
  refine ⟨sd,.ref c.sg,rfl,by rw [<- zg c.p c.q c.sg c.gl c.ll];exact qK.k (k:=.inr "single") S.sd,?_⟩
  rcases kO hw y with ⟨a,q,e1,e2,h⟩ | ⟨e1,e2⟩
  ·refine ⟨c.sg,some (.ref a),rfl,.inl ⟨_,.inl y,S.sg,rfl,e1.symm⟩,?_⟩
   left
   refine ⟨sd,.ref c.sg,rfl,by rw [<- zg c.p c.q c.sg c.gl c.ll];exact qK.k (k:=.inr "single") S.sd,?_⟩
   left
   refine ⟨c.sg,.ref a,rfl,.inl ⟨_,.inl y,S.sg,rfl,e1.symm⟩,?_⟩
   exact k a (by unfold qc;rw [e2];exact h)
  ·refine ⟨c.sg,none,rfl,.inl ⟨_,.inl y,S.sg,rfl,e1.symm⟩,?_⟩
   have hl:c.ys.length=c.ts.length:=S.r3.length
   left
   refine ⟨sd,.ref c.q,rfl,by rw [<- Jp c.p c.q c.sg c.gl c.ll];exact qK.k (k:=.inr "rows") S.sd,?_⟩
   left
   refine ⟨sd,.ref c.q,rfl,by rw [<- Jp c.p c.q c.sg c.gl c.ll];exact qK.k (k:=.inr "rows") S.sd,?_⟩
   left
   refine ⟨c.q,_,rfl,.inl (SqL.of S.q),?_⟩
   left
   refine ⟨_,_,_,_,rfl,rfl,SqL.of S.q,hra,?_⟩
   exact k ra (by unfold qc;rw [e2];exact hrow)
noncomputable def YS:Sp:=λvs H Q _=>∃(sd:Addr) (c:ScN) (l:Int) (da:Addr) (dn:List (Int×Int)),vs=[.ref sd,.int l]/\ScAt H sd c/\0<=l/\c.lds[l.toNat]? = some (da,dn)/\dn.length<=100/\c.sk.length<=100 /\
 ∀M H',-1<=M->(M = -1\/M∈c.sk.map (·.1)\/M∈dn.map (·.1))->(∀z∈c.sk,z.1<=M)->(∀q∈dn,q.1<=M)->jg H H'->Q (.int M) H'
theorem QR:FnScope ["_law_scene_here","_law_lane"] ["_law_scene_here","_law_lane"] (j7 vI):=by walk_at "s"
theorem U3 {f:Addr}{fd:FuncData}(nb:Nb2 mg) (F:Fun K "_law_news" "_law_news" vI f fd):FnOk P w K mg base CX0 1 f fd ["_law_scene_here","_law_lane"] YS:=by
 refine F.ok QR (λvs H Q E h=>?_) (λcdv A outer s H vs Q E hr h=>?_)
 ·obtain ⟨sd,c,l,da,dn,rfl,_⟩:=h
  rfl
 ·obtain ⟨sd,c,l,da,dn,rfl,S,l0,hda,hdn,hsk,k⟩:=h
  refine ⟨_,(j9 (jj (jc (ZH K rfl) rfl nb.b_max lS (j0 (ji ut (ji ut (jU (j0 (ji xn j8 j8) j2)) (qk (wK K rfl) rfl nb.b_list bM (j0 (jE (jQ hr) (pv 0) jJ (λ_ _=>rfl)) j2))) (qk (wK K rfl) rfl nb.b_list bM (j0 (jn (je K) (jE (jQ hr) (pv 0) jJ (λ_ _=>rfl)) (pv 1) (λ_ _=>rfl)) j2))) j2)))),?_⟩
  left
  refine ⟨by show 1<=sizeLine;decide,λa1 H1 ha1 ha11 s1=>?_⟩
  left
  refine ⟨sd,.ref c.sg,rfl,by rw [<- zg c.p c.q c.sg c.gl c.ll];exact qK.k (k:=.inr "single") (S.same s1).sd,?_⟩
  left
  refine ⟨c.sg,_,c.sk.map (·.1),rfl,(S.same s1).sg,by rw [bz,bz];rfl,by rw [aa];omega,λa2 H2 ha2 ha22 s2=>?_⟩
  left
  refine ⟨a1,a2,_,_,rfl,rfl,s2 _ _ ha11,ha22,by rw [aa,aa];show 1+_<=_;exact cJ (ja ()),λa3 H3 ha3 ha33 s3=>?_⟩
  have S3:=((S.same s1).same s2).same s3
  left
  refine ⟨sd,.ref c.ll,rfl,by rw [<- vY c.p c.q c.sg c.gl c.ll];exact qK.k (k:=.inr "leaps") S3.sd,?_⟩
  left
  refine ⟨_,_,_,_,rfl,rfl,SqL.of S3.ll,xg l0 (v:=V.ref da) (by rw [aB,hda];rfl),?_⟩
  left
  refine ⟨da,_,dn.map (·.1),rfl,S3.ld _ (ay hda),by rw [bz,bz];rfl,by rw [aa];omega,λa4 H4 ha4 ha44 s4=>?_⟩
  left
  refine ⟨a3,a4,_,_,rfl,rfl,s4 _ _ ha33,ha44,by simp only [aw,aa];show 1+_+_<=_;exact cJ (ja ()),λa5 H5 ha5 ha55 s5=>?_⟩
  have ha55:H5 a5=some (.lst ((-1::(c.sk.map (·.1)++dn.map (·.1))).map V.int)):=by rw [ha55,aO,aq];rfl
  left
  refine ⟨a5,_,rfl,SqL.of ha55,by simp,λM hM hle=>?_⟩
  have h1:=hle (-1) (aG ..)
  refine k M H5 h1 ?_ (λz hz=>hle _ (az _ (d6 _ (aX hz)))) (λq hq=>hle _ (az _ (aE _ (aX hq)))) (s1.trans (s2.trans (s3.trans (s4.trans s5))))
  rcases List.mem_cons.mp hM with h | h
  ·exact .inl h
  ·rcases List.mem_append.mp h with h | h
   ·exact .inr (.inl h)
   ·exact .inr (.inr h)
theorem gz:∀(sk:List (Int×Addr)) (y:Int),y∈sk.map (·.1)->∃r,qi (sk.map kvA) (.inl y)=some (.ref r)
 | [],y,h=>by cases h
 | q::r,y,h=>by
  rw [aO]
  unfold qi
  by_cases e:q.1=y
  ·subst e
   exact ⟨q.2,by simp [kvA,oA]⟩
  ·have h':y∈r.map (·.1):=by
    rcases List.mem_cons.mp h with z | z
    ·exact absurd z.symm e
    ·exact z
   obtain ⟨a,ih⟩:=gz r y h'
   unfold qi at ih
   refine ⟨a,?_⟩
   simp [kvA,oA,e] at ih ⊢
   exact ih
noncomputable def Z9 (C:Addr):Sp:=λvs H Q _=>∃(p:Addr) (g:IceG) (sk:List (Int×Addr)),vs=[.ref p]/\IceAt C H p g/\g.kvs=sk.map kvA/\sk.length<64 /\
 ∀o H' out (ks:List Int),H o=none->H' o=some (.lst out)->ck (λv (y:Int)=>∃b r,v=V.ref b/\H' b=some (.tup [.int y,.ref r])) out ks->jg H H'->ks.Perm (sk.map (·.1))->Q (.ref o) H'
theorem Jq:FnScope ["self"] ["self"] (j7 zG):=by walk_at "s"
theorem JD {f C:Addr}{fd:FuncData}(nb:Nb2 mg) (T:IceC K C) (F:Fun K "told" "Ice.told" zG f fd):FnOk P w K mg base CX0 2 f fd ["self"] (Z9 C):=by
 refine F.ok Jq (λvs H Q E h=>?_) (λcdv A outer s H vs Q E hr h=>?_)
 ·obtain ⟨p,g,sk,rfl,_⟩:=h
  rfl
 ·obtain ⟨p,g,sk,rfl,I,ek,h64,k⟩:=h
  have hm:H g.ye=some (.dK (sk.map kvA)):=by rw [<- ek];exact I.ye
  refine ⟨_,(j9 (jj (jA (osc:=(j7 zG)) (ON:=["self"]) (N:=["year","self"]) (own:=1) (caps:=[0]) ⟨rfl,∅,∅,∅,rfl,∅⟩ rfl rfl rfl (jL K (jc (ua K rfl) rfl nb.b_sorted n5 (j0 (qH K (pv 0)) j2))) (λ_ _ _ _ _=>(jd (i:=0) (show aR (["year","self"]:List Str) by decide +kernel) rfl (aW rfl))) (λ_ _ _ _ _=>jq) (λ_ _ _ _ _=>(xN (j0 (pv 0) (j0 (jE (jQ hr) (qH K (pv 1)) (pv 0) (λ_ _=>rfl)) j2))))))),?_⟩
  left
  refine ⟨p,C,g.dx,_,_,rfl,I.ob,T.cl,T.nY,yo _ _ _ _ _,?_⟩
  left
  refine ⟨g.ye,sk.map kvA,sk.map (·.1),rfl,hm,by rw [bz,bz];rfl,by rw [aa];exact h64,λo H1 ks ho ho1 s1 hp hs=>?_⟩
  have hkl:ks.length<64:=by rw [hp.length_eq,aa];exact h64
  refine ⟨o,rfl,⟨_,SqL.of ho1⟩,λacc hacc=>?_⟩
  refine jK (K:=K) (a:=o) (xs:=ks.map V.int) (acc:=acc) (λi σ H2=>∃(x:Option V) (out:List V),σ=[x,some (.ref p)]/\H2 acc=some (.lst out)/\out.length=i/\ck (λv (y:Int)=>∃b r,v=V.ref b/\H2 b=some (.tup [.int y,.ref r])) out (ks.take i)/\Ext acc H1 H2) ?_ ?_ ?_ ?_
  ·exact ⟨none,[],rfl,j4,rfl,.nil,Ext.put⟩
  ·rintro i σ H2 hi ⟨x,out,rfl,h2,hz,r2,e2⟩
   exact SqL.of (e2 _ _ ho1 (j1 ho1 hacc))
  ·rintro i v σ H2 hv ⟨x,out,rfl,h2,hz,r2,e2⟩
   obtain ⟨y,rfl,hy⟩:=xq hv
   have hiy:=(List.getElem?_eq_some_iff.mp hy).1
   have hyn:y∈sk.map (·.1):=hp.mem_iff.mp (ay hy)
   obtain ⟨rr,hrr⟩:=gz sk y hyn
   have t2:jg H H2:=λc o hc=>e2 _ _ (s1 _ _ hc) (j1 (s1 _ _ hc) hacc)
   have I2:=I.same t2
   left
   refine ⟨p,C,g.dx,_,_,rfl,I2.ob,T.cl,T.nY,yo _ _ _ _ _,?_⟩
   left
   refine ⟨g.ye,.ref rr,rfl,by rw [<- hrr];exact qK.k (k:=.inl y) (t2 _ _ hm),?_⟩
   left
   refine ⟨by show 2<=sizeLine;decide,λb H3 hb hb3 s3=>?_⟩
   have h3:=s3 _ _ h2
   have bacc:b≠acc:=(j1 h2 hb).symm
   refine ⟨out,h3,ja (),some (.int y),out++[.ref b],rfl,j4,by rw [aw,hz];rfl,?_,λc o hc n=>by rw [j5 n];exact s3 _ _ (e2 c o hc n)⟩
   rw [aT,hy]
   exact cU (Paired.mapP r2 λv m ⟨c,r,e,q⟩=>⟨c,r,e,by rw [j5 (jk (s3 _ _ q) h3 (by walk_at "z"))];exact s3 _ _ q⟩) ⟨b,rr,rfl,by rw [j5 bacc];exact hb3⟩
  ·rintro σ H2 ⟨x,out,rfl,h2,hz,r2,e2⟩
   rw [aa,aS] at r2
   exact k acc H2 out ks (s1.free hacc) h2 r2 (λc o hc=>e2 _ _ (s1 _ _ hc) (j1 (s1 _ _ hc) hacc)) hp
theorem zk:∀{l:List Int},l.Pairwise (· <= ·)->l.Nodup->l.Pairwise (· < ·)
 | [],_,_=>.nil
 | x::r,p,n=>by
  rw [oB] at p ⊢
  obtain ⟨n1,n2⟩:=List.nodup_cons.mp n
  refine ⟨λy hy=>?_,zk p.2 n2⟩
  have:=p.1 y hy
  have:x≠y:=λe=>n1 (e ▸ hy)
  omega
theorem uX:∀{xs ys:List (Int×Int)},xs.Perm ys->(xs.map (·.1)).Pairwise (· < ·)->(ys.map (·.1)).Pairwise (· < ·)->xs=ys
 | [],ys,p,_,_=>p.nil_eq
 | x::r,[],p,_,_=>absurd p.length_eq (by simp)
 | x::r,y::t,p,hx,hy=>by
  rw [aO,oB] at hx hy
  have e:x=y:=by
   rcases List.mem_cons.mp (p.mem_iff.mpr (aG (a:=y) (l:=t))) with e | e
   ·exact e.symm
   ·rcases List.mem_cons.mp (p.mem_iff.mp (aG (a:=x) (l:=r))) with e2 | e2
    ·exact e2
    ·have a:=hx.1 _ (aX e)
     have b:=hy.1 _ (aX e2)
     omega
  subst e
  rw [uX (ou p) hx.2 hy.2]
theorem kZ {ns ms os:List (Int×Int)}(nd:(ns.map (·.1)).Nodup) (p:ms.Perm ns) (s:(ms.map (·.1)).Pairwise (· <= ·)) (q:os.Perm ns) (t:(os.map (·.1)).Pairwise (· <= ·)):os=ms :=
 uX (q.trans p.symm) (zk t ((q.map (·.1)).nodup_iff.mpr nd)) (zk s ((p.map (·.1)).nodup_iff.mpr nd))
theorem uG:∀(ns:List (Int×Int)) (y:Int),(qi (ns.map kvI) (.inl y)).getD (.int 0) = .int (jH ns y)
 | [],y=>rfl
 | q::r,y=>by
  rw [aO]
  unfold jH
  by_cases e:q.1=y
  ·subst e
   rw [if_pos rfl,show qi (kvI q::r.map kvI) (.inl q.1)=some (.int q.2) from xz]
   rfl
  ·rw [if_neg e,show qi (kvI q::r.map kvI) (.inl y)=qi (r.map kvI) (.inl y) from jr λw=>e (fh w)]
   exact uG r y
noncomputable def J0 (C:Addr):Sp:=λvs H Q _=>∃(p:Addr) (g:IceG) (l:Int) (sk:List (Int×Addr)) (ns:List (Int×Int)),vs=[.ref p,.int l]/\IceAt C H p g/\g.lds.length=g.slopes.length/\g.kvs=sk.map kvA/\sk.length<64/\(∀z∈sk,0<=z.1)/\Ur g l ns/\(∀q∈ns,0<=q.1) /\
 ∀M H',-1<=M->(M = -1\/M∈sk.map (·.1)\/M∈ns.map (·.1))->(∀z∈sk,z.1<=M)->(∀q∈ns,q.1<=M)->jg H H'->Q (.int (M+1+((g.slopes.getD l.toNat []).length:Int))) H'
theorem kD:FnScope ["ice","lane","told"] ["ice","lane"] (j7 ya):=by walk_at "s"
theorem Xs {f C CN:Addr}{fd:FuncData}(nb:Nb2 mg) (cl_Ice:Cls K C) (c_Ice__told:CalM P w K mg base 2 C "told" ["self"] (Z9 C)) (c_Ice__surges:CalMX P w K mg base 2 C "surges" ["self","lane"] (uA C CN)) (c_Ice__length:CalMX P w K mg base 2 C "length" ["self","lane"] (uR C CN))
  (F:Fun K "settled" "settled" ya f fd):FnOk P w K mg base (CX1 P w) 3 f fd ["ice","lane"] (J0 C):=by
 refine Fun.okX F kD (λvs H Q E h=>?_) (λcdv A outer s H vs Q E hr h=>?_)
 ·obtain ⟨p,g,l,sk,ns,rfl,_⟩:=h
  rfl
 ·obtain ⟨p,g,l,sk,ns,rfl,I,hll,ek,hk64,hk0,⟨l0,l1,⟨a,ha⟩,nd,h64,h9⟩,hn0,k⟩:=h
  refine ⟨_,(j6 (jG 2 kD.nd (ji ut (jA (osc:=(j7 ya)) (ON:=["ice","lane","told"]) (N:=["year","row"]) (own:=2) (caps:=[]) ⟨rfl,∅,∅,∅,rfl,∅⟩ rfl rfl rfl (jL K (UP (pv 0) cl_Ice c_Ice__told (hr.mono ⋯))) (λ_ _ _ _ _=>(qT (n:=2) K rfl (js (jd (i:=0) (show aR (["year","row"]:List Str) by decide +kernel) rfl (aW rfl)) (js (jd (i:=1) (show aR (["year","row"]:List Str) by decide +kernel) rfl (aW rfl)) qL)))) (λ_ _ _ _ _=>jq) (λ_ _ _ _ _=>(pv 0))) (jA (osc:=(j7 ya)) (ON:=["ice","lane","told"]) (N:=["year","many"]) (own:=2) (caps:=[]) ⟨rfl,∅,∅,∅,rfl,∅⟩ rfl rfl rfl (jL K (zU (pv 0) cl_Ice c_Ice__surges (hr.mono ⋯) qO (j0 (pv 1) j2))) (λ_ _ _ _ _=>(qT (n:=2) K rfl (js (jd (i:=0) (show aR (["year","many"]:List Str) by decide +kernel) rfl (aW rfl)) (js (jd (i:=1) (show aR (["year","many"]:List Str) by decide +kernel) rfl (aW rfl)) qL)))) (λ_ _ _ _ _=>jq) (λ_ _ _ _ _=>(pv 0)))))
   (j9 (jj (ji jy (ji jy (VX K rfl rfl nb.b_max (j0 (pv 2) j2) (vq zM j8)) j8) (zU (pv 0) cl_Ice c_Ice__length (hr.mono ⋯) qO (j0 (pv 1) j2)))))),?_⟩
  left
  refine ⟨p,g.dx,_,rfl,I.ob,qr ∅,?_⟩
  left
  refine ⟨p,g,sk,rfl,I,ek,hk64,λo1 H1 out1 ks ho1 ho11 r1 s1 hks=>?_⟩
  have hol1:out1.length=ks.length:=aY r1
  have hkl:ks.length<64:=by rw [hks.length_eq,aa];exact hk64
  left
  refine ⟨⟨_,SqL.of ho11⟩,λacc hacc=>?_⟩
  refine jK (K:=K) (a:=o1) (xs:=out1) (acc:=acc) (λi σ H2=>∃x0 x1:Option V,σ=[x0,x1]/\H2 acc=some (.lst ((ks.take i).map V.int))/\Ext acc H1 H2) ?_ ?_ ?_ ?_
  ·exact ⟨none,none,rfl,j4,Ext.put⟩
  ·rintro i σ H2 hi ⟨x0,x1,rfl,h2,e2⟩
   exact SqL.of (e2 _ _ ho11 (j1 ho11 hacc))
  ·rintro i v σ H2 hv ⟨x0,x1,rfl,h2,e2⟩
   obtain ⟨y,hy,bq,rr,rfl,hbq⟩:=Paired.get r1 hv
   have hi:i<ks.length:=(List.getElem?_eq_some_iff.mp hy).1
   have hbq2:=e2 _ _ hbq (j1 hbq hacc)
   left
   refine ⟨bq,_,rfl,SqT.of hbq2,rfl,?_⟩
   refine ⟨_,_,rfl,_,_,rfl,rfl,?_⟩
   left
   refine ⟨_,h2,by rw [aa,aF];exact ja (),_,_,rfl,?_,e2.trans Ext.put⟩
   rw [j4,aT,hy,aq]
   rfl
  rintro σ H2 ⟨x0,x1,rfl,h2,e2⟩
  have s2:jg H1 H2:=λc o hc=>e2 c o hc (j1 hc hacc)
  rw [hol1,aS] at h2
  have t2:=s1.trans s2
  left
  refine ⟨p,g.dx,_,rfl,t2 _ _ I.ob,qr ∅,?_⟩
  left
  refine ⟨p,g,l,rfl,I.same t2,hll,(λhb=>absurd hb ()),λ_ _=>⟨a,ns,ha,nd,h64,λo3 H3 out3 ms ho3 ho33 r3 s3 hp hs=>?_⟩⟩
  have hol3:out3.length=ms.length:=aY r3
  have hml:ms.length<64:=by rw [hp.length_eq];exact h64
  left
  refine ⟨⟨_,SqL.of ho33⟩,λac2 hac2=>?_⟩
  refine jK (K:=K) (a:=o3) (xs:=out3) (acc:=ac2) (λi σ H4=>∃x0 x1:Option V,σ=[x0,x1]/\H4 ac2=some (.lst (((ms.take i).map (·.1)).map V.int))/\Ext ac2 H3 H4) ?_ ?_ ?_ ?_
  ·exact ⟨none,none,rfl,j4,Ext.put⟩
  ·rintro i σ H4 hi ⟨x0,x1,rfl,h4,e4⟩
   exact SqL.of (e4 _ _ ho33 (j1 ho33 hac2))
  ·rintro i v σ H4 hv ⟨x0,x1,rfl,h4,e4⟩
   obtain ⟨q,hq,bq,rfl,hbq⟩:=Paired.get r3 hv
   have hi:i<ms.length:=(List.getElem?_eq_some_iff.mp hq).1
   have hbq2:=e4 _ _ hbq (j1 hbq hac2)
   left
   refine ⟨bq,_,rfl,SqT.of hbq2,rfl,?_⟩
   refine ⟨_,_,rfl,_,_,rfl,rfl,?_⟩
   left
   refine ⟨_,h4,by rw [aa,aa,aF];exact ja (),_,_,rfl,?_,e4.trans Ext.put⟩
   rw [j4,aT,hq,aq,aq]
   rfl
  rintro σ H4 ⟨x0,x1,rfl,h4,e4⟩
  have s4:jg H3 H4:=λc o hc=>e4 c o hc (j1 hc hac2)
  rw [hol3,aS] at h4
  refine ⟨acc,ac2,_,_,rfl,rfl,s4 _ _ (s3 _ _ h2),h4,by rw [aa,aa,aa];exact cJ (ja ()),λa5 H5 ha5 ha55 s5=>?_⟩
  have ha55:H5 a5=some (.lst ((ks++ms.map (·.1)).map V.int)):=by rw [ha55,aq]
  have t5:jg H H5:=t2.trans (s3.trans (s4.trans s5))
  have mk1:∀y,y∈ks↔y∈sk.map (·.1):=λy=>hks.mem_iff
  have mk2:∀y,y∈ms.map (·.1)↔y∈ns.map (·.1):=λy=>(hp.map (·.1)).mem_iff
  left
  refine ⟨a5,ks++ms.map (·.1),_,rfl,rfl,SqL.of ha55,λhnil=>?_,λM hM hle=>?_⟩
  ·left
   refine ⟨p,g.dx,_,rfl,t5 _ _ I.ob,qr ∅,?_⟩
   left
   refine ⟨p,g,l,rfl,I.same t5,λ_ _=>?_,λhb=>absurd hb ()⟩
   left
   obtain ⟨h1,h2⟩:=List.append_eq_nil_iff.mp hnil
   refine k (-1) H5 (lA _) (.inl rfl) (λz hz=>?_) (λq hq=>?_) t5
   ·have:=(mk1 z.1).mpr (aX hz)
    rw [h1] at this
    cases this
   ·have:=(mk2 q.1).mpr (aX hq)
    rw [h2] at this
    cases this
  ·left
   refine ⟨p,g.dx,_,rfl,t5 _ _ I.ob,qr ∅,?_⟩
   left
   refine ⟨p,g,l,rfl,I.same t5,λ_ _=>?_,λhb=>absurd hb ()⟩
   left
   have hM':M∈sk.map (·.1)\/M∈ns.map (·.1):=(List.mem_append.mp hM).imp (mk1 M).mp (mk2 M).mp
   have hM0:0<=M:=by
    rcases hM' with h | h
    ·obtain ⟨z,hz,rfl⟩:=List.mem_map.mp h
     exact hk0 z hz
    ·obtain ⟨z,hz,rfl⟩:=List.mem_map.mp h
     exact hn0 z hz
   exact k M H5 () (.inr hM') (λz hz=>hle _ (d6 _ ((mk1 z.1).mpr (aX hz)))) (λq hq=>hle _ (aE _ ((mk2 q.1).mpr (aX hq)))) t5
theorem gh (ns:List (Int×Int)):∃ms:List (Int×Int),ms.Perm ns/\(ms.map (·.1)).Pairwise (· <= ·):=by
 refine ⟨ns.mergeSort (λa b=>decide (a.1<=b.1)),List.mergeSort_perm _ _,?_⟩
 rw [List.pairwise_map]
 exact (List.pairwise_mergeSort (λa b c h1 h2=>by simp at *;omega) (λa b=>by simp;omega) ns).imp λh=>by simpa using h
theorem zJ.good {H:Hp}:∀{sk:List (Int×Addr)}{wr:List (Int×T3)},zJ H sk wr->(∀z∈sk,∃t,H z.2=some (yq t)/\good t=true)->∀q∈wr,good q.2=true
 | _,_,.nil,_,q,hq=>by cases hq
 | z::r,x::t,.cons ⟨_,h⟩ tl,g,q,hq=>by
  rcases List.mem_cons.mp hq with e | e
  ·subst e
   obtain ⟨u,hu,gu⟩:=g z (aG ..)
   rw [h] at hu
   have:yq q.2=yq u:=aM hu
   have e1:q.2.1=u.1:=by injection this with this;injection this with a b;exact V.int.inj a
   have e2:q.2.2.1=u.2.1:=by injection this with this;injection this with a b;injection b with b c;exact V.int.inj b
   have e3:q.2.2.2=u.2.2:=by injection this with this;injection this with a b;injection b with b c;injection c with c d;exact V.int.inj c
   rw [show q.2=u from Prod.ext e1 (Prod.ext e2 e3)]
   exact gu
  ·exact zJ.good tl (λz hz=>g z (az _ hz)) q e
theorem Vo {wr:List (Int×T3)}{ts:List T3}(h1:∀q∈wr,good q.2=true) (h2:ts.all good=true) (h3:1<=ts.length) (y:Int):good (qc wr ts y)=true:=by
 unfold qc
 cases e:wr.find? λq=>decide (q.1=y) with
 | some q=>exact h1 q (List.mem_of_find?_eq_some e)
 | none =>
  have m0:=dH y (show (ts.length:Int)≠0 by omega)
  have m1:=cZ y (show (0:Int)<ts.length by omega)
  have hi:(y % (ts.length:Int)).toNat<ts.length:=()
  show good (ts.getD (y % (ts.length:Int)).toNat (0,0,0))=true
  rw [ak,ae hi]
  exact List.all_eq_true.mp h2 _ (bP hi)
theorem Vh {t:T3}(g:good t=true) (h:Int):chg t h<=9:=by
 unfold good at g
 have:=of_decide_eq_true g
 unfold chg
 split <;> omega
noncomputable abbrev QC:=Int×Int×Int×List Int
noncomputable def zw (t:T3) (d gd:List Int):List Int:=cK (λx h=>if chg t h > -x then chg t h else -x) d gd
noncomputable def jt (s:Nat) (d:List Int):List Int:=bX s 0++d.take (d.length-s)
noncomputable def xH (gd:List Int) (t:T3) (s:Nat) (d:List Int):QC :=
 (((zw t (jt s d) gd).filter λx=>decide (0<x)).sum,((zw t (jt s d) gd).filter λx=>decide (0<x)).sum-(zw t (jt s d) gd).sum,(d.drop (d.length-s)).sum,cK (· + ·) (jt s d) (zw t (jt s d) gd))
noncomputable def jz (ns:List (Int×Int)) (len:Nat) (y:Int):Nat:=(min (1+jH ns y) (len:Int)).toNat
noncomputable def qo (ns:List (Int×Int)) (gd:List Int) (wr:List (Int×T3)) (ts:List T3) (fst:Int):Nat->List Int
 | 0=>bX gd.length 0
 | i+1=>(xH gd (qc wr ts (fst+(i:Int))) (jz ns gd.length (fst+(i:Int))) (qo ns gd wr ts fst i)).2.2.2
noncomputable def jv (ns:List (Int×Int)) (gd:List Int) (wr:List (Int×T3)) (ts:List T3) (fst:Int) (i:Nat):QC:=xH gd (qc wr ts (fst+(i:Int))) (jz ns gd.length (fst+(i:Int))) (qo ns gd wr ts fst i)
noncomputable def jS (ns:List (Int×Int)) (gd:List Int) (wr:List (Int×T3)) (ts:List T3) (fst:Int) (n:Nat):List QC:=(aK n).map (jv ns gd wr ts fst)
theorem xG {s:Nat}{d:List Int}(h:s<=d.length):(jt s d).length=d.length:=by
 unfold jt
 rw [aw,bg,aF]
 omega
theorem yW {t:T3}{d gd:List Int}(h:d.length=gd.length):(zw t d gd).length=gd.length:=by
 unfold zw
 rw [ee]
 omega
theorem yO (ns:List (Int×Int)) (len:Nat) (y:Int):jz ns len y<=len:=by
 unfold jz
 omega
theorem qp (ns:List (Int×Int)) (gd:List Int) (wr:List (Int×T3)) (ts:List T3) (fst:Int):∀i,(qo ns gd wr ts fst i).length=gd.length
 | 0=>bg
 | i+1=>by
  have ih:=qp ns gd wr ts fst i
  have h1:=yO ns gd.length (fst+(i:Int))
  show (cK (· + ·) (jt _ _) (zw _ (jt _ _) gd)).length=_
  rw [ee,yW (by rw [xG (),ih]),xG (),ih,Nat.min_self]
theorem zY {s:Nat}{d:List Int}{x:Int}(h:x∈jt s d):x=0\/x∈d:=by
 rcases List.mem_append.mp h with z | z
 ·exact .inl (List.mem_replicate.mp z).2
 ·exact .inr (dN z)
theorem Ji {t:T3}(gt:good t=true) {B:Int}:∀{d gd:List Int},(∀x∈d,0<=x/\x<=B)->∀z∈zw t d gd,- B<=z/\z<=9\/(0<=z/\z<=9)
 | [],_,_,z,hz=>by cases hz
 | _::_,[],_,z,hz=>by cases hz
 | x::d,h::gd,hb,z,hz=>by
  have h0:=hb x (aG ..)
  have c9:=Vh gt h
  rcases List.mem_cons.mp (show z∈(if chg t h > -x then chg t h else -x)::zw t d gd from hz) with e | e
  ·rw [e]
   refine .inl ?_
   split <;> omega
  ·exact Ji gt (λy hy=>hb y (az _ hy)) z e
theorem Z7 {t:T3}(gt:good t=true) {B:Int}:∀{d gd:List Int},(∀x∈d,0<=x/\x<=B)->∀z∈cK (· + ·) d (zw t d gd),0<=z/\z<=B+9
 | [],_,_,z,hz=>by cases hz
 | _::_,[],_,z,hz=>by cases hz
 | x::d,h::gd,hb,z,hz=>by
  have h0:=hb x (aG ..)
  have c9:=Vh gt h
  rcases List.mem_cons.mp (show z∈(x+(if chg t h > -x then chg t h else -x))::cK (· + ·) d (zw t d gd) from hz) with e | e
  ·rw [e]
   split <;> omega
  ·exact Z7 gt (λy hy=>hb y (az _ hy)) z e
theorem vM {ns:List (Int×Int)}{gd:List Int}{wr:List (Int×T3)}{ts:List T3}{fst:Int}(sg:∀z,good (qc wr ts z)=true):∀i,∀x∈qo ns gd wr ts fst i,0<=x/\x<=9*(i:Int)
 | 0,x,hx=>by rw [(List.mem_replicate.mp hx).2];omega
 | i+1,x,hx=>by
  have ih:=vM (ns:=ns) (gd:=gd) (fst:=fst) sg i
  have:=Z7 (sg (fst+(i:Int))) (B:=9*(i:Int)) (gd:=gd) (d:=jt (jz ns gd.length (fst+(i:Int))) (qo ns gd wr ts fst i)) (λy hy=>by
   rcases zY hy with e | e
   ·omega
   ·exact ih y e) x hx
  omega
theorem yp (ns:List (Int×Int)) (gd:List Int) (wr:List (Int×T3)) (ts:List T3) (fst:Int) (n:Nat):jS ns gd wr ts fst (n+1)=jS ns gd wr ts fst n++[jv ns gd wr ts fst n]:=by
 unfold jS
 rw [cv,aq]
 rfl
theorem Vc {xs:List V}{s:Nat}(h:1<=s) (h2:s<=xs.length):uJ xs (some (- (s:Int))) none=xs.drop (xs.length-s):=by
 unfold uJ
 rw [HT.sIx_none,show HT.sIx xs.length 0 (some (- (s:Int)))=xs.length-s by show (if-(s:Int)<0 then (- (s:Int)+(xs.length:Int)).toNat else _)=_;rw [if_pos ()];omega]
 exact bp (by rw [eB];exact ar _)
theorem YG {xs:List V}{s:Nat}(h:1<=s) (h2:s<=xs.length):uJ xs none (some (- (s:Int)))=xs.take (xs.length-s):=by
 unfold uJ
 rw [HT.sIx_none,show HT.sIx xs.length xs.length (some (- (s:Int)))=xs.length-s by show (if-(s:Int)<0 then (- (s:Int)+(xs.length:Int)).toNat else _)=_;rw [if_pos ()];omega,rX,Nat.sub_zero]
noncomputable def ue (H:Hp) (out:List V) (qs:List QC):Prop:=ck (λv (q:QC)=>∃b dl,v=V.ref b/\H b=some (.tup [.int q.1,.int q.2.1,.int q.2.2.1,.ref dl])/\H dl=some (.lst (q.2.2.2.map V.int))) out qs
theorem wv:∀{ns:List (Int×Int)},(∀q∈ns,0<=q.2/\q.2<=9)->∀y,0<=jH ns y/\jH ns y<=9
 | [],_,y=>by unfold jH;omega
 | q::r,h,y=>by
  have h0:=h q (aG ..)
  have ih:=wv (λz hz=>h z (az _ hz)) y
  unfold jH
  split <;> omega
theorem Vw {α β γ:Type}(f:α->β->γ) {xs:List α}{ys:List β}{i:Nat}{x:α}{y:β}(h1:xs[i]? = some x) (h2:ys[i]? = some y):(cK f xs ys).take (i+1)=(cK f xs ys).take i++[f x y]:=by
 rw [aT,cE,h1,h2]
 rfl
noncomputable def Qw (C:Addr):Sp:=λvs H Q _=>∃(p:Addr) (g:IceG) (l fst last:Int) (sk:List (Int×Addr)) (wr:List (Int×T3)) (ns ms:List (Int×Int)) (gd:List Int),vs=[.ref p,.int l,.int fst,.int last]/\IceAt C H p g/\g.lds.length=g.slopes.length/\g.kvs=sk.map kvA/\zJ H sk wr/\1<=g.rows.length/\g.rows.length<=1000/\(∀z,good (qc wr g.rows z)=true)/\Ur g l ns/\ms.Perm ns/\(ms.map (·.1)).Pairwise (· <= ·)/\g.slopes.getD l.toNat []=gd/\1<=gd.length/\gd.length<=100/\(last+1-fst).toNat<=900 /\
 ∀o out H',H o=none->H' o=some (.lst out)->ue H' out (jS ms gd wr g.rows fst (last+1-fst).toNat)->jg H H'->Q (.ref o) H'
theorem qj:FnScope ["ice","lane","first","last","slope","leaps","depths","rows","year","steps","gone","weather","moved","fallen"] ["ice","lane","first","last"] (j7 xr):=by walk_at "s"
theorem Yh {f C CN CP:Addr}{fd:FuncData}(nb:Nb2 mg) (b_dict:mg "dict" = none) (cl_Ice:Cls K C) (c_Ice__surges:CalMX P w K mg base 2 C "surges" ["self","lane"] (uA C CN)) (c_Ice__length:CalMX P w K mg base 2 C "length" ["self","lane"] (uR C CN)) (c_change:Cal P w K mg base 1 "change" ["row","height"] QD) (c_Ice__sky:CalM P w K mg base 1 C "sky" ["self","year"] (UV C)) (c_Ice__height:CalMX P w K mg base 3 C "height" ["self","lane","place"] (gv C CN CP))
  (F:Fun K "course" "course" xr f fd):FnOk P w K mg base (CX1 P w) 4 f fd ["ice","lane","first","last"] (Qw C):=by
 refine Fun.okX F qj (λvs H Q E h=>?_) (λcdv A outer s H vs Q E hr h=>?_)
 ·obtain ⟨p,g,l,fst,last,sk,wr,ns,ms,gd,rfl,_⟩:=h
  rfl
 ·obtain ⟨p,g,l,fst,last,sk,wr,ns,ms,gd,rfl,I,hll,ek,hw,hr1,hr2,sg,⟨l0,l1,⟨a,ha⟩,nd,h64,h9⟩,hp,hs,hgd,g1,g100,hn,k⟩:=h
  have ndm:(ms.map (·.1)).Nodup:=(hp.map (·.1)).nodup_iff.mpr nd
  have hlm:ms.length<64:=by rw [hp.length_eq];exact h64
  refine ⟨_,(j6 (vh (j:=4) (osc:=(j7 xr)) (ON:=["ice","lane","first","last","slope","leaps","depths","rows","year","steps","gone","weather","moved","fallen"]) (N:=["place","lane","ice"]) (own:=1) (caps:=[1,0]) ⟨rfl,∅,∅,∅,rfl,∅⟩ qj.nd rfl (aW rfl) rfl rfl rfl (jZ rfl nb.b_range (j0 (zU (pv 0) cl_Ice c_Ice__length (hr.mono ⋯) qO (j0 (pv 1) j2)) j2)) (λ_ _ _ _ _=>(jd (i:=0) (show aR (["place","lane","ice"]:List Str) by decide +kernel) rfl (aW rfl))) (λ_ _ _ _ _=>jq) (λ_ _ _ _ _=>(zU (pv 2) cl_Ice c_Ice__height (hr.mono ⋯) Jj (j0 (pv 1) (j0 (pv 0) j2)))))
   (j6 (jG 5 qj.nd (qk (XI K rfl) rfl b_dict PyProof.Rows.boot_dict (j0 (zU (pv 0) cl_Ice c_Ice__surges (hr.mono ⋯) qO (j0 (pv 1) j2)) j2)))
   (j6 (vh (j:=6) (osc:=(j7 xr)) (ON:=["ice","lane","first","last","slope","leaps","depths","rows","year","steps","gone","weather","moved","fallen"]) (N:=["height"]) (own:=1) (caps:=[]) ⟨rfl,∅,∅,∅,rfl,∅⟩ qj.nd rfl (aW rfl) rfl rfl rfl (jL K (pv 4)) (λ_ _ _ _ _=>(jd (i:=0) (show aR (["height"]:List Str) by decide +kernel) rfl (aW rfl))) (λ_ _ _ _ _=>jq) (λ_ _ _ _ _=>j8))
   (j6 (jG 7 qj.nd (jU j2))
   (j6 (Ws (xD bI rfl (Y4 rfl nb.b_range (j0 (pv 2) (j0 (ji jy (pv 3) j8) j2))) (jd (i:=8) qj.nd rfl (aW rfl)) (j6 (jG 9 qj.nd (jc (uE rfl) rfl nb.b_min t9 (j0 (ji jy j8 (kC (jQ hr) (pv 5) (pv 8) j8 ⟨rfl,rfl,rfl,rfl⟩)) (j0 (jc (jh K) rfl nb.b_len ba (j0 (pv 4) j2)) j2))))
   (j6 (jG 10 qj.nd (jc (xk K rfl) rfl nb.b_sum i7 (j0 (yS (y6 K) (pv 6) (um (vq zM (pv 9))) ui) j2)))
   (j6 (jG 6 qj.nd (ji ut (jA (osc:=(j7 xr)) (ON:=["ice","lane","first","last","slope","leaps","depths","rows","year","steps","gone","weather","moved","fallen"]) (N:=["step"]) (own:=1) (caps:=[]) ⟨rfl,∅,∅,∅,rfl,∅⟩ rfl rfl rfl (jZ rfl nb.b_range (j0 (pv 9) j2)) (λ_ _ _ _ _=>(jd (i:=0) (show aR (["step"]:List Str) by decide +kernel) rfl (aW rfl))) (λ_ _ _ _ _=>jq) (λ_ _ _ _ _=>j8)) (yS (y6 K) (pv 6) ui (um (vq zM (pv 9))))))
   (j6 (qW (i:=11) qj.nd rfl (dz rfl) (pe_m (pv 0) cl_Ice c_Ice__sky (hr.mono ⋯) (j0 (pv 8) j2)))
   (j6 (vh (j:=12) (osc:=(j7 xr)) (ON:=["ice","lane","first","last","slope","leaps","depths","rows","year","steps","gone","weather","moved","fallen"]) (N:=["lying","height","weather"]) (own:=2) (caps:=[11]) ⟨rfl,∅,∅,∅,rfl,∅⟩ qj.nd rfl (aW rfl) rfl rfl rfl (JE K rfl nb.b_zip (j0 (pv 6) (j0 (pv 4) j2))) (λ_ _ _ _ _=>(qT (n:=2) K rfl (js (jd (i:=0) (show aR (["lying","height","weather"]:List Str) by decide +kernel) rfl (aW rfl)) (js (jd (i:=1) (show aR (["lying","height","weather"]:List Str) by decide +kernel) rfl (aW rfl)) qL)))) (λ_ _ _ _ _=>jq) (λ_ _ _ _ _=>(jc (zT rfl) rfl nb.b_max lS (j0 (vq zM (pv 0)) (j0 (jf c_change (hr.mono ⋯) rfl (j0 (pv 2) (j0 (pv 1) j2))) j2)))))
   (j6 (vh (j:=6) (osc:=(j7 xr)) (ON:=["ice","lane","first","last","slope","leaps","depths","rows","year","steps","gone","weather","moved","fallen"]) (N:=["lying","hands"]) (own:=2) (caps:=[]) ⟨rfl,∅,∅,∅,rfl,∅⟩ qj.nd rfl (aW rfl) rfl rfl rfl (JE K rfl nb.b_zip (j0 (pv 6) (j0 (pv 12) j2))) (λ_ _ _ _ _=>(qT (n:=2) K rfl (js (jd (i:=0) (show aR (["lying","hands"]:List Str) by decide +kernel) rfl (aW rfl)) (js (jd (i:=1) (show aR (["lying","hands"]:List Str) by decide +kernel) rfl (aW rfl)) qL)))) (λ_ _ _ _ _=>jq) (λ_ _ _ _ _=>(ji jy (pv 0) (pv 1))))
   (j6 (jG 13 qj.nd (jc (xk K rfl) rfl nb.b_sum i7 (j0 (jA (osc:=(j7 xr)) (ON:=["ice","lane","first","last","slope","leaps","depths","rows","year","steps","gone","weather","moved","fallen"]) (N:=["hands"]) (own:=1) (caps:=[]) ⟨rfl,∅,∅,∅,rfl,∅⟩ rfl rfl rfl (jL K (pv 12)) (λ_ _ _ _ _=>(jd (i:=0) (show aR (["hands"]:List Str) by decide +kernel) rfl (aW rfl))) (λ_ _ _ _ _=>(yJ (jX UX (pv 0) j8 (qd _)))) (λ_ _ _ _ _=>(pv 0))) j2)))
   (j9 (qa (yE K bZ bU bV qx (pv 7) (j0 (xN (j0 (pv 13) (j0 (ji xn (pv 13) (jc (xk K rfl) rfl nb.b_sum i7 (j0 (pv 12) j2))) (j0 (pv 10) (j0 (pv 6) j2))))) j2)))))))))))))
   (j9 (jj (pv 7)))))))),?_⟩
  left
  refine ⟨p,g.dx,_,rfl,I.ob,qr ∅,?_⟩
  left
  refine ⟨p,g,l,rfl,I,λ_ _=>?_,λhb=>absurd hb ()⟩
  rw [hgd]
  left
  refine ⟨(),(),λsl hsl=>?_⟩
  refine qu (lo:=0) (n:=((gd.length:Nat):Int).toNat) (acc:=sl) (λi σ H1=>∃x:Option V,σ=[x,some (.int l),some (.ref p)]/\H1 sl=some (.lst ((gd.take i).map V.int))/\Ext sl H H1) ?_ ?_ ?_
  ·exact ⟨none,rfl,j4,Ext.put⟩
  ·rintro i σ H1 hi ⟨x,rfl,h1,e1⟩
   have hi':i<gd.length:=by rw [bb] at hi;exact hi
   have s1:jg H H1:=λc o hc=>e1 c o hc (j1 hc hsl)
   left
   refine ⟨p,g.dx,_,rfl,s1 _ _ I.ob,qr ∅,?_⟩
   left
   refine ⟨p,g,l,0+(i:Int),rfl,I.same s1,λ_ _ _ _=>?_,(λhb=>absurd hb ()),λ_ _ hb=>absurd hb (by rw [hgd];omega)⟩
   rw [hgd]
   refine ⟨_,h1,by rw [aa,aF];exact ja (),_,rfl,?_,e1.trans Ext.put⟩
   rw [j4,aT,ae hi',aq,show (0+(i:Int)).toNat=i by omega,ak,ae hi']
   rfl
  rintro σ H1 ⟨x,rfl,h1,e1⟩
  have s1:jg H H1:=λc o hc=>e1 c o hc (j1 hc hsl)
  rw [bb,aS] at h1
  left
  refine ⟨p,g.dx,_,rfl,s1 _ _ I.ob,qr ∅,?_⟩
  left
  refine ⟨p,g,l,rfl,I.same s1,hll,(λhb=>absurd hb ()),λ_ _=>⟨a,ns,ha,nd,h64,λso H2 out ms2 hso hso2 hq2 s2 hp2 hs2=>?_⟩⟩
  obtain rfl:=kZ nd hp hs hp2 hs2
  left
  refine ⟨so,out,ms2,rfl,SqL.of hso2,hq2,ndm,(),λd H3 hd hd3 s3=>?_⟩
  have hd3:H3 d=some (.dK (ms2.map kvI)):=hd3
  have h3:=s3 _ _ (s2 _ _ h1)
  left
  refine ⟨⟨_,SqL.of h3⟩,λd0 hd0=>?_⟩
  refine jK (K:=K) (a:=sl) (xs:=gd.map V.int) (acc:=d0) (λi σ H4=>∃x:Option V,σ=[x]/\H4 d0=some (.lst ((bX i (0:Int)).map V.int))/\Ext d0 H3 H4) ?_ ?_ ?_ ?_
  ·exact ⟨none,rfl,j4,Ext.put⟩
  ·rintro i σ H4 hi ⟨x,rfl,h4,e4⟩
   exact SqL.of (e4 _ _ h3 (j1 h3 hd0))
  ·rintro i v σ H4 hv ⟨x,rfl,h4,e4⟩
   have hi:i<gd.length:=by have:=(List.getElem?_eq_some_iff.mp hv).1;rw [aa] at this;exact this
   left
   refine ⟨_,h4,by rw [aa,bg];exact ja (),_,rfl,?_,e4.trans Ext.put⟩
   rw [j4,fq,aq]
   rfl
  rintro σ H4 ⟨x,rfl,h4,e4⟩
  have s4:jg H3 H4:=λc o hc=>e4 c o hc (j1 hc hd0)
  rw [aa] at h4
  have t4:jg H H4:=s1.trans (s2.trans (s3.trans s4))
  have hsl4:=s4 _ _ h3
  have hdk4:=s4 _ _ hd3
  left
  refine ⟨aQ _,λrw_ H5 hrw hrw5 s5=>?_⟩
  have rw0:H rw_=none:=t4.free hrw
  left
  refine ⟨_,_,rfl,?_⟩
  refine zh (λi σ H6=>∃(x8 x9 x10 x11 x12 x13:Option V) (dl:Addr) (out6:List V),σ=[some (.ref p),some (.int l),some (.int fst),some (.int last),some (.ref sl),some (.ref d),some (.ref dl),some (.ref rw_),x8,x9,x10,x11,x12,x13]/\dl≠rw_/\H6 dl=some (.lst ((qo ms2 gd wr g.rows fst i).map V.int))/\H6 rw_=some (.lst out6)/\out6.length=i/\ck (λv (q:QC)=>∃b dl,v=V.ref b/\H6 b=some (.tup [.int q.1,.int q.2.1,.int q.2.2.1,.ref dl])/\H6 dl=some (.lst (q.2.2.2.map V.int))/\dl≠rw_) out6 (jS ms2 gd wr g.rows fst i)/\Ext rw_ H4 H6) ?_ ?_ ?_
  ·exact ⟨_,_,_,_,_,_,d0,[],rfl,j1 h4 hrw,s5 _ _ h4,hrw5,rfl,.nil,λc o hc _=>s5 _ _ hc⟩
  ·rintro i σ H6 hi ⟨x8,x9,x10,x11,x12,x13,dl,out6,rfl,dlr,hdl,h6,hl6,r6,e6⟩
   have hdlen:=qp ms2 gd wr g.rows fst i
   have hdb:=vM (ns:=ms2) (gd:=gd) (fst:=fst) sg i
   have s6:jg H4 H6:=λc o hc=>e6 c o hc (j1 hc hrw)
   have I6:=I.same (t4.trans s6)
   have hw6:zJ H6 sk wr:=hw.keep (jm.same (t4.trans s6))
   have hsl6:=s6 _ _ hsl4
   have hdk6:=s6 _ _ hdk4
   have h9m:∀q∈ms2,0<=q.2/\q.2<=9:=λq hq=>h9 q (hp.mem_iff.mp hq)
   have vb:=wv h9m (fst+(i:Int))
   have hcr:jv ms2 gd wr g.rows fst i=xH gd (qc wr g.rows (fst+(i:Int))) (jz ms2 gd.length (fst+(i:Int))) (qo ms2 gd wr g.rows fst i):=rfl
   have hdn:qo ms2 gd wr g.rows fst (i+1)=(xH gd (qc wr g.rows (fst+(i:Int))) (jz ms2 gd.length (fst+(i:Int))) (qo ms2 gd wr g.rows fst i)).2.2.2:=rfl
   have es:(if ((gd.length:Nat):Int)<1+jH ms2 (fst+(i:Int)) then ((gd.length:Nat):Int) else 1+jH ms2 (fst+(i:Int)))=((jz ms2 gd.length (fst+(i:Int)):Nat):Int):=by
    unfold jz
    split <;> omega
   have hs1:1<=jz ms2 gd.length (fst+(i:Int)):=by unfold jz;omega
   have hs2:=yO ms2 gd.length (fst+(i:Int))
   have sgi:=sg (fst+(i:Int))
   generalize jz ms2 gd.length (fst+(i:Int))=sN at *
   generalize qo ms2 gd wr g.rows fst i=dep at *
   have hi900:i<900:=()
   left
   refine ⟨.inl ⟨_,.inl hdk6⟩,?_⟩
   left
   refine ⟨_,qK.k (k:=.inl (fst+(i:Int))) hdk6,?_⟩
   rw [uG]
   left
   refine ⟨_,_,rfl,.inl (SqL.of hsl6),?_⟩
   rw [aa]
   left
   refine ⟨_,_,rfl,?_⟩
   rw [es]
   left
   refine ⟨_,_,rfl,SqL.of hdl,λa7 H7 ha7 ha77 s7=>?_⟩
   rw [Vc hs1 (by rw [aa,hdlen];exact hs2),aa,<- sx] at ha77
   left
   refine ⟨a7,_,rfl,SqL.of ha77,by rw [eB];omega,λn hn'=>by have:=hdb n (dO hn');omega,?_⟩
   left
   refine ⟨(),(),λz0 hz0=>?_⟩
   refine qu (lo:=0) (n:=((sN:Nat):Int).toNat) (acc:=z0) (λj σ H8=>∃x:Option V,σ=[x]/\H8 z0=some (.lst ((bX j (0:Int)).map V.int))/\Ext z0 H7 H8) ?_ ?_ ?_
   ·exact ⟨none,rfl,j4,Ext.put⟩
   ·rintro j σ H8 hj ⟨x,rfl,h8,e8⟩
    rw [bb] at hj
    left
    refine ⟨_,h8,by rw [aa,bg];exact ja (),_,rfl,?_,e8.trans Ext.put⟩
    rw [j4,fq,aq]
    rfl
   rintro σ H8 ⟨x,rfl,h8,e8⟩
   have s8:jg H7 H8:=λc o hc=>e8 c o hc (j1 hc hz0)
   rw [bb] at h8
   have hdl8:=s8 _ _ (s7 _ _ hdl)
   left
   refine ⟨_,_,rfl,SqL.of hdl8,λa9 H9 ha9 ha99 s9=>?_⟩
   rw [YG hs1 (by rw [aa,hdlen];exact hs2),aa,<- lI] at ha99
   refine ⟨z0,a9,_,_,rfl,rfl,s9 _ _ h8,ha99,by rw [aa,aa,bg,aF];exact cJ (ja ()),λd1 H10 hd1 hd10 s10=>?_⟩
   have hd10:H10 d1=some (.lst ((jt sN dep).map V.int)):=by rw [hd10,<- aq];rfl
   have s610:jg H6 H10:=s7.trans (s8.trans (s9.trans s10))
   have I10:=I6.same s610
   left
   refine ⟨p,g.dx,_,rfl,I10.ob,qr ∅,?_⟩
   left
   refine ⟨p,g,fst+(i:Int),sk,wr,rfl,I10,ek,hw6.keep (jm.same s610),hr1,hr2,λtr htr=>?_⟩
   have hsl10:=s610 _ _ hsl6
   have hshl:=xG (d:=dep) (s:=sN) ()
   have hshb:∀x∈jt sN dep,0<=x/\x<=9*(i:Int):=λx hx=>by
    rcases zY hx with e | e
    ·omega
    ·exact hdb x e
   have hmvl:=yW (t:=qc wr g.rows (fst+(i:Int))) (d:=jt sN dep) (gd:=gd) ()
   have hmvb:=Ji sgi (B:=9*(i:Int)) (gd:=gd) hshb
   have lmax:∀x h:Int,(if chg (qc wr g.rows (fst+(i:Int))) h > -x then chg (qc wr g.rows (fst+(i:Int))) h else -x)=(λx h=>if chg (qc wr g.rows (fst+(i:Int))) h > -x then chg (qc wr g.rows (fst+(i:Int))) h else -x) x h:=λ_ _=>rfl
   left
   refine ⟨false,false,_,_,rfl,⟨_,SqL.of hd10⟩,⟨_,SqL.of hsl10⟩,λmo hmo=>?_⟩
   refine vc (K:=K) (t0:=false) (u0:=false) (a:=d1) (b:=sl) (xs:=(jt sN dep).map V.int) (ys:=gd.map V.int) (acc:=mo) (by rw [aa,aa];omega) (λj σ H11=>∃x0 x1:Option V,σ=[x0,x1,some (.ref tr)]/\H11 mo=some (.lst (((zw (qc wr g.rows (fst+(i:Int))) (jt sN dep) gd).take j).map V.int))/\Ext mo H10 H11) ?_ ?_ ?_ ?_
   ·exact ⟨none,none,rfl,j4,Ext.put⟩
   ·rintro j σ H11 hj ⟨x0,x1,rfl,h11,e11⟩
    exact ⟨SqL.of (e11 _ _ hd10 (j1 hd10 hmo)),SqL.of (e11 _ _ hsl10 (j1 hsl10 hmo))⟩
   ·rintro j x y σ H11 tp hx hy ⟨x0,x1,rfl,h11,e11⟩ htp
    obtain ⟨xv,rfl,hxv⟩:=xq hx
    obtain ⟨yv,rfl,hyv⟩:=xq hy
    have hj:j<gd.length:=(List.getElem?_eq_some_iff.mp hyv).1
    have e12:Ext mo H10 (upd H11 tp (.tup [.int xv,.int yv])):=λc o hc n=>(jg.new htp) _ _ (e11 c o hc n)
    have h12:=(jg.new (o:=.tup [.int xv,.int yv]) htp) _ _ h11
    have htp':upd H11 tp (.tup [.int xv,.int yv]) tp=some (.tup [.int xv,.int yv]):=j4
    generalize upd H11 tp (.tup [.int xv,.int yv])=H12 at *
    have htr12:=e12 _ _ htr (j1 htr hmo)
    left
    refine ⟨tp,_,rfl,SqT.of htp',rfl,?_⟩
    refine ⟨_,_,rfl,_,_,rfl,rfl,?_⟩
    left
    refine ⟨tr,_,_,rfl,htr12,?_⟩
    left
    refine ⟨_,_,rfl,?_⟩
    refine ⟨_,h12,by rw [aa,aF];exact ja (),_,_,rfl,?_,e12.trans Ext.put⟩
    rw [j4]
    unfold zw
    rw [Vw _ hxv hyv,aq]
    rfl
   rintro σ H11 ⟨x0,x1,rfl,h11,e11⟩
   have s11:jg H10 H11:=λc o hc=>e11 c o hc (j1 hc hmo)
   rw [aa,bp ()] at h11
   generalize hmvg:zw (qc wr g.rows (fst+(i:Int))) (jt sN dep) gd=mvs at *
   have hd11:=s11 _ _ hd10
   left
   refine ⟨false,false,_,_,rfl,⟨_,SqL.of hd11⟩,⟨_,SqL.of h11⟩,λd2 hd2=>?_⟩
   refine vc (K:=K) (t0:=false) (u0:=false) (a:=d1) (b:=mo) (xs:=(jt sN dep).map V.int) (ys:=mvs.map V.int) (acc:=d2) (by rw [aa,aa];omega) (λj σ H12=>∃x0 x1:Option V,σ=[x0,x1]/\H12 d2=some (.lst (((cK (· + ·) (jt sN dep) mvs).take j).map V.int))/\Ext d2 H11 H12) ?_ ?_ ?_ ?_
   ·exact ⟨none,none,rfl,j4,Ext.put⟩
   ·rintro j σ H12 hj ⟨x0,x1,rfl,h12,e12⟩
    exact ⟨SqL.of (e12 _ _ hd11 (j1 hd11 hd2)),SqL.of (e12 _ _ h11 (j1 h11 hd2))⟩
   ·rintro j x y σ H12 tp hx hy ⟨x0,x1,rfl,h12,e12⟩ htp
    obtain ⟨xv,rfl,hxv⟩:=xq hx
    obtain ⟨yv,rfl,hyv⟩:=xq hy
    have hj:j<mvs.length:=(List.getElem?_eq_some_iff.mp hyv).1
    have e13:Ext d2 H11 (upd H12 tp (.tup [.int xv,.int yv])):=λc o hc n=>(jg.new htp) _ _ (e12 c o hc n)
    have h13:=(jg.new (o:=.tup [.int xv,.int yv]) htp) _ _ h12
    have htp':upd H12 tp (.tup [.int xv,.int yv]) tp=some (.tup [.int xv,.int yv]):=j4
    generalize upd H12 tp (.tup [.int xv,.int yv])=H13 at *
    left
    refine ⟨tp,_,rfl,SqT.of htp',rfl,?_⟩
    refine ⟨_,_,rfl,_,_,rfl,rfl,?_⟩
    left
    refine ⟨_,h13,by rw [aa,aF];exact ja (by rw [ee];omega),_,_,rfl,?_,e13.trans Ext.put⟩
    rw [j4,Vw _ hxv hyv,aq]
    rfl
   rintro σ H12 ⟨x0,x1,rfl,h12,e12⟩
   have s12:jg H11 H12:=λc o hc=>e12 c o hc (j1 hc hd2)
   rw [aa,bp (by rw [ee];omega)] at h12
   have hmo12:=s12 _ _ h11
   left
   refine ⟨⟨_,SqL.of hmo12⟩,λfa hfa=>?_⟩
   refine jK (K:=K) (a:=mo) (xs:=mvs.map V.int) (acc:=fa) (λj σ H13=>∃x:Option V,σ=[x]/\H13 fa=some (.lst (((mvs.take j).filter λx=>decide (0<x)).map V.int))/\Ext fa H12 H13) ?_ ?_ ?_ ?_
   ·exact ⟨none,rfl,j4,Ext.put⟩
   ·rintro j σ H13 hj ⟨x,rfl,h13,e13⟩
    exact SqL.of (e13 _ _ hmo12 (j1 hmo12 hfa))
   ·rintro j v σ H13 hv ⟨x,rfl,h13,e13⟩
    obtain ⟨mv,rfl,hmv⟩:=xq hv
    have hj:j<mvs.length:=(List.getElem?_eq_some_iff.mp hmv).1
    have etk:mvs.take (j+1)=mvs.take j++[mv]:=by rw [aT,hmv];rfl
    left
    refine xo (λhle=>?_) (λhle=>?_)
    ·left
     refine ⟨_,h13,by rw [aa];exact bS (bG _ _) (ja (by rw [aF];omega)),_,rfl,?_,e13.trans Ext.put⟩
     rw [j4,etk,bT,cN (by rw [decide_eq_true hle]),aq]
     rfl
    ·refine ⟨_,rfl,?_,e13⟩
     rw [etk,bT,cM (by rw [decide_eq_false hle];exact au),mE,bc]
     exact h13
   rintro σ H13 ⟨x,rfl,h13,e13⟩
   have s13:jg H12 H13:=λc o hc=>e13 c o hc (j1 hc hfa)
   rw [aa,bp (ar _)] at h13
   have mvb2:∀n∈mvs,-(2 ^ 20)<=n/\n<=2 ^ 20:=λn hn'=>by have:=hmvb n hn';omega
   left
   refine ⟨fa,_,rfl,SqL.of h13,aI (bG _ _) (),λn hn'=>mvb2 n (List.mem_filter.mp hn').1,?_⟩
   have s613:jg H6 H13:=s610.trans (s11.trans (s12.trans s13))
   have h613:=s613 _ _ h6
   left
   refine ⟨.inl ⟨rfl,_,SqL.of h613⟩,?_⟩
   left
   refine ⟨mo,mvs,rfl,SqL.of (s13 _ _ hmo12),(),mvb2,?_⟩
   left
   refine ⟨by show 4<=sizeLine;decide,λtq H14 htq htq4 s14=>?_⟩
   refine ⟨_,_,_,rfl,rfl,s14 _ _ h613,ja (),?_⟩
   have s614:=s613.trans s14
   have hd14:=s14 _ _ (s13 _ _ h12)
   have d2r:d2≠rw_:=(j1 (s11 _ _ (s610 _ _ h6)) hd2).symm
   have tqr:tq≠rw_:=(j1 h613 htq).symm
   have hrow:jv ms2 gd wr g.rows fst i=((mvs.filter λx=>decide (0<x)).sum,(mvs.filter λx=>decide (0<x)).sum-mvs.sum,(dep.drop (dep.length-sN)).sum,cK (· + ·) (jt sN dep) mvs):=by
    rw [hcr,<- hmvg]
    rfl
   refine ⟨_,_,_,_,_,_,d2,out6++[.ref tq],rfl,d2r,?_,j4,by rw [aw,hl6];rfl,?_,λc o hc n=>by rw [j5 n];exact s614 _ _ (e6 c o hc n)⟩
   ·rw [j5 d2r,hd14,hdn,<- hmvg]
    rfl
   ·rw [yp,hrow]
    refine cU (Paired.mapP r6 λv q ⟨b',dl',e,q1,q2,q3⟩=>⟨b',dl',e,?_,?_,q3⟩) ⟨tq,d2,rfl,by rw [j5 tqr];exact htq4,by rw [j5 d2r];exact hd14,d2r⟩
    ·rw [j5 (jk q1 h6 (by walk_at "z"))]
     exact s614 _ _ q1
    ·rw [j5 q3]
     exact s614 _ _ q2
  ·rintro σ H6 ⟨x8,x9,x10,x11,x12,x13,dl,out6,rfl,dlr,hdl,h6,hl6,r6,e6⟩
   left
   exact k rw_ out6 H6 rw0 h6 (Paired.mapP r6 λv q ⟨b',dl',e,q1,q2,_⟩=>⟨b',dl',e,q1,q2⟩) (t4.trans λc o hc=>e6 c o hc (j1 hc hrw))
noncomputable def jM:Nat->QC->Int
 | 0,q=>q.1
 | 1,q=>q.2.1
 | _,q=>q.2.2.1
theorem Vx {k:Nat}(h:k<3) (q:QC) (dl:Addr):atI [.int q.1,.int q.2.1,.int q.2.2.1,.ref dl] (k:Int)=some (V.int (jM k q)):=by
 match k,h with
 | 0,_=>rfl
 | 1,_=>rfl
 | 2,_=>rfl
noncomputable def Z1:Sp:=λvs H Q _=>∃(a:Addr) (k:Nat) (out:List V) (qs:List QC),vs=[.ref a,.int (k:Int)]/\k<3/\H a=some (.lst out)/\ue H out qs/\qs.length<=1000/\(∀q∈qs,-(2 ^ 20)<=jM k q/\jM k q<=2 ^ 20)/\∀H',jg H H'->Q (.int (qs.map (jM k)).sum) H'
theorem YU:FnScope ["rows","part"] ["rows","part"] (j7 wB):=by walk_at "s"
theorem Ve {f:Addr}{fd:FuncData}(nb:Nb2 mg) (F:Fun K "total" "total" wB f fd):FnOk P w K mg base CX0 1 f fd ["rows","part"] Z1:=by
 refine F.ok YU (λvs H Q E h=>?_) (λcdv A outer s H vs Q E hr h=>?_)
 ·obtain ⟨a,k,out,qs,rfl,_⟩:=h
  rfl
 ·obtain ⟨a,k,out,qs,rfl,hk,ha,hq,hl,hb,kk⟩:=h
  have hol:out.length=qs.length:=aY hq
  refine ⟨_,(j9 (jj (jc (xk K rfl) rfl nb.b_sum i7 (j0 (jA (osc:=(j7 wB)) (ON:=["rows","part"]) (N:=["row","part"]) (own:=1) (caps:=[1]) ⟨rfl,∅,∅,∅,rfl,∅⟩ rfl rfl rfl (jL K (pv 0)) (λ_ _ _ _ _=>(jd (i:=0) (show aR (["row","part"]:List Str) by decide +kernel) rfl (aW rfl))) (λ_ _ _ _ _=>jq) (λ_ _ _ _ _=>(jn (qM K) (pv 0) (pv 1) (λ_ _=>rfl)))) j2)))),?_⟩
  left
  refine ⟨⟨_,SqL.of ha⟩,λacc hacc=>?_⟩
  refine jK (K:=K) (a:=a) (xs:=out) (acc:=acc) (λi σ H1=>∃x0:Option V,σ=[x0,some (.int (k:Int))]/\H1 acc=some (.lst (((qs.take i).map (jM k)).map V.int))/\Ext acc H H1) ?_ ?_ ?_ ?_
  ·exact ⟨none,rfl,j4,Ext.put⟩
  ·rintro i σ H1 hi ⟨x0,rfl,h1,e1⟩
   exact SqL.of (e1 _ _ ha (j1 ha hacc))
  ·rintro i v σ H1 hv ⟨x0,rfl,h1,e1⟩
   obtain ⟨q,hy,bq,dl,rfl,hbq,hdl⟩:=Paired.get hq hv
   have hi:i<qs.length:=(List.getElem?_eq_some_iff.mp hy).1
   have hbq1:=e1 _ _ hbq (j1 hbq hacc)
   left
   refine ⟨bq,_,(k:Int),_,rfl,rfl,SqT.of hbq1,Vx hk q dl,?_⟩
   refine ⟨_,h1,by rw [aa,aa,aF];exact ja (),_,rfl,?_,e1.trans Ext.put⟩
   rw [j4,aT,hy,aq,aq]
   rfl
  rintro σ H1 ⟨x0,rfl,h1,e1⟩
  have s1:jg H H1:=λc o hc=>e1 c o hc (j1 hc hacc)
  rw [hol,aS] at h1
  left
  refine ⟨acc,_,rfl,SqL.of h1,by rw [aa];exact hl,λn hn=>?_,?_⟩
  ·obtain ⟨q,hq',rfl⟩:=List.mem_map.mp hn
   exact hb q hq'
  exact kk _ s1
theorem QP:∀{xs:List Int}{a b:Int}{n:Nat},a<=0->0<=b->(∀x∈xs,a<=x/\x<=b)->xs.length<=n->a*(n:Int)<=xs.sum/\xs.sum<=b*(n:Int)
 | [],a,b,n,ha,hb,_,_=>⟨Int.mul_nonpos_of_nonpos_of_nonneg ha (oC n),ni hb (oC n)⟩
 | x::xs,a,b,0,_,_,_,hn=>absurd hn (Nat.not_succ_le_zero _)
 | x::xs,a,b,n+1,ha,hb,h,hn=>by
  have h0:=h x (aG ..)
  have ih:=QP (n:=n) ha hb (λz hz=>h z (az _ hz)) (by rw [b7] at hn;omega)
  rw [cG,show ((n+1:Nat):Int)=(n:Int)+1 from rfl,Int.mul_add,Int.mul_add,mR,mR]
  omega
theorem gS {ns:List (Int×Int)}{gd:List Int}{wr:List (Int×T3)}{ts:List T3}{fst:Int}(sg:∀z,good (qc wr ts z)=true) (hg:gd.length<=100) {i:Nat}(hi:i<900) {k:Nat} : -(2 ^ 20)<=jM k (jv ns gd wr ts fst i)/\jM k (jv ns gd wr ts fst i)<=2 ^ 20:=by
 have hd:=vM (ns:=ns) (gd:=gd) (fst:=fst) sg i
 have hdl:=qp ns gd wr ts fst i
 have hs:=yO ns gd.length (fst+(i:Int))
 unfold jv
 generalize qo ns gd wr ts fst i=d at *
 generalize jz ns gd.length (fst+(i:Int))=s at *
 have gt:=sg (fst+(i:Int))
 generalize qc wr ts (fst+(i:Int))=t at *
 have hsb:∀x∈jt s d,0<=x/\x<=9*(i:Int):=λx hx=>by
  rcases zY hx with e | e
  ·omega
  ·exact hd x e
 have hml:(zw t (jt s d) gd).length=gd.length:=yW (by rw [xG (),hdl])
 have hm:∀z∈zw t (jt s d) gd,-8100<=z/\z<=9:=λz hz=>by
  have:=Ji gt (gd:=gd) hsb z hz
  omega
 have b1:=QP (n:=100) (a:=-8100) (b:=9) () () hm ()
 have b2:=QP (n:=100) (a:=0) (b:=9) (xs:=(zw t (jt s d) gd).filter λx=>decide (0<x)) () () (λz hz=>by
  obtain ⟨h1,h2⟩:=List.mem_filter.mp hz
  have:=hm z h1
  have:=of_decide_eq_true h2
  omega) (aI (bG _ _) ())
 have b3:=QP (n:=100) (a:=0) (b:=8100) (xs:=d.drop (d.length-s)) () () (λz hz=>by
  have:=hd z (dO hz)
  omega) (by rw [eB];omega)
 match k with
 | 0=>show _<=(xH gd t s d).1/\(xH gd t s d).1<=_;unfold xH;dsimp only;omega
 | 1=>show _<=(xH gd t s d).2.1/\(xH gd t s d).2.1<=_;unfold xH;dsimp only;omega
 | k+2=>show _<=(xH gd t s d).2.2.1/\(xH gd t s d).2.2.1<=_;unfold xH;dsimp only;omega
theorem Za (xs:List V) (k:Nat):uJ xs none (some (k:Int))=xs.take k:=by
 unfold uJ
 rw [HT.sIx_none,HT.sIx_nat,rX,Nat.sub_zero]
 by_cases h:k<=xs.length
 ·rw [eX h]
 ·rw [pI (),bp (ar _)]
  exact (bp ()).symm
theorem Yp (xs:List V) (k:Nat):uJ xs (some (k:Int)) none=xs.drop k:=by
 unfold uJ
 rw [HT.sIx_none,HT.sIx_nat]
 by_cases h:k<=xs.length
 ·rw [eX h]
  exact bp (by rw [eB];omega)
 ·rw [pI (),mm (ar _),nQ]
  exact (mm ()).symm
theorem Paired.takeP {α β:Type}{R:α->β->Prop}:∀{xs:List α}{ys:List β}(n:Nat),ck R xs ys->ck R (xs.take n) (ys.take n)
 | _,_,0,_=>by rw [iZ,iZ];exact .nil
 | _,_,n+1,.nil=>by rw [nQ,nQ];exact .nil
 | _,_,n+1,.cons h r=>.cons h (Paired.takeP n r)
theorem Paired.dropP {α β:Type}{R:α->β->Prop}:∀{xs:List α}{ys:List β}(n:Nat),ck R xs ys->ck R (xs.drop n) (ys.drop n)
 | _,_,0,h=>h
 | _,_,n+1,.nil=>by rw [nR,nR];exact .nil
 | _,_,n+1,.cons h r=>Paired.dropP n r
theorem ue.same {H H':Hp}{out:List V}{qs:List QC}(h:ue H out qs) (s:jg H H'):ue H' out qs:=Paired.mapP h λ_ _ ⟨b,dl,e,q,d⟩=>⟨b,dl,e,s _ _ q,s _ _ d⟩
noncomputable def soR (st many y:Int):Int:=(if y-st > 0 then y-st else 0) / many
noncomputable def soU (st many y:Int):Int:=y-soR st many y*many
noncomputable def soP (rows:List QC) (st many y:Int) (k:Nat):Int:=((rows.take (soU st many y+1).toNat).map (jM k)).sum+soR st many y*((rows.drop st.toNat).map (jM k)).sum
noncomputable def soL (rows:List QC) (st many y:Int):Int:=((rows.getD (soU st many y).toNat (0,0,0,[])).2.2.2).sum
theorem GD {st many y:Int}(h0:0<=st) (hm:0<many) (hy:0<=y):0<=soR st many y/\soR st many y<=y/\0<=soU st many y/\soU st many y<st+many:=by
 unfold soU soR
 by_cases z:y-st > 0
 ·rw [if_pos z]
  have h1:=dH (y-st) (show many≠0 by omega)
  have h2:=cZ (y-st) hm
  have h3:=Int.mul_ediv_add_emod (y-st) many
  rw [Int.mul_comm] at h3
  have h4:(y-st) / many<=y-st:=Int.ediv_le_self _ ()
  have h5:0<=(y-st) / many:=Int.ediv_nonneg () ()
  omega
 ·rw [if_neg z,nU,mn]
  omega
theorem uZ {sk:List (Int×Addr)}{ns:List (Int×Int)}{M N:Int}(h1 : -1<=M) (h2:M = -1\/M∈sk.map (·.1)\/M∈ns.map (·.1)) (h3:∀z∈sk,z.1<=N) (h4:∀q∈ns,q.1<=N) (h5 : -1<=N):M<=N:=by
 rcases h2 with h | h | h
 ·omega
 ·obtain ⟨z,hz,rfl⟩:=List.mem_map.mp h
  exact h3 z hz
 ·obtain ⟨z,hz,rfl⟩:=List.mem_map.mp h
  exact h4 z hz
noncomputable def JS (C:Addr):Sp:=λvs H Q _=>∃(p:Addr) (g:IceG) (l y M:Int) (sk:List (Int×Addr)) (wr:List (Int×T3)) (ns ms:List (Int×Int)) (gd:List Int),vs=[.ref p,.int l,.int y]/\IceAt C H p g/\g.ys.length=g.rows.length/\g.lds.length=g.slopes.length/\g.kvs=sk.map kvA/\sk.length<64/\(∀z∈sk,0<=z.1)/\zJ H sk wr/\1<=g.rows.length/\g.rows.length<=600/\(∀z,good (qc wr g.rows z)=true)/\Ur g l ns/\(∀q∈ns,0<=q.1)/\ms.Perm ns/\(ms.map (·.1)).Pairwise (· <= ·)/\g.slopes.getD l.toNat []=gd/\1<=gd.length/\gd.length<=100 /\
 -1<=M/\(M = -1\/M∈sk.map (·.1)\/M∈ns.map (·.1))/\(∀z∈sk,z.1<=M)/\(∀q∈ns,q.1<=M)/\M<=99/\0<=y/\y<=10 ^ 40 /\
 ∀t H' st rows,st=M+1+(gd.length:Int)->rows=jS ms gd wr g.rows 0 (st+(g.rows.length:Int)).toNat->H t=none->H' t=some (.tup [.int (soP rows st (g.rows.length:Int) y 0),.int (soP rows st (g.rows.length:Int) y 1),.int (soP rows st (g.rows.length:Int) y 2),.int (soL rows st (g.rows.length:Int) y)])->jg H H'->Q (.ref t) H'
theorem qQ:FnScope ["ice","lane","year","start","many","rounds","rows","up_to","fallen","melted","gone"] ["ice","lane","year"] (j7 uy):=by walk_at "s"
theorem Y6 {f C CN CY:Addr}{fd:FuncData}(nb:Nb2 mg) (cl_Ice:Cls K C) (c_Ice__check_lane:CalMX P w K mg base 1 C "check_lane" ["self","lane"] (xi C CN)) (c_check_asked:CalX P w K mg base 1 "check_asked" ["year"] (uo CY)) (c_settled:CalX P w K mg base 3 "settled" ["ice","lane"] (J0 C)) (c_Ice__rows:CalM P w K mg base 1 C "rows" ["self"] (Zb C)) (c_course:CalX P w K mg base 4 "course" ["ice","lane","first","last"] (Qw C)) (c_total:Cal P w K mg base 1 "total" ["rows","part"] Z1)
  (F:Fun K "so_far" "so_far" uy f fd):FnOk P w K mg base (CX1 P w) 5 f fd ["ice","lane","year"] (JS C):=by
 refine Fun.okX F qQ (λvs H Q E h=>?_) (λcdv A outer s H vs Q E hr h=>?_)
 ·obtain ⟨p,g,l,y,M,sk,wr,ns,ms,gd,rfl,_⟩:=h
  rfl
 ·obtain ⟨p,g,l,y,M,sk,wr,ns,ms,gd,rfl,I,hyl,hll,ek,hk64,hk0,hw,hr1,hr2,sg,LD,hn0,hp,hs,hgd,g1,g100,hM1,hMi,hMs,hMn,hM99,y0,y1,k⟩:=h
  obtain ⟨l0,l1,_⟩:=id LD
  obtain ⟨st,est⟩:∃st,st=M+1+(gd.length:Int):=⟨_,rfl⟩
  obtain ⟨rows,erows⟩:∃rows,rows=jS ms gd wr g.rows 0 (st+(g.rows.length:Int)).toNat:=⟨_,rfl⟩
  have ub:=GD (st:=st) (many:=(g.rows.length:Int)) (y:=y) () () y0
  have k':=λt H'=>k t H' st rows est erows
  clear k
  have hrl:rows.length=(st+(g.rows.length:Int)).toNat:=by rw [erows];unfold jS;rw [aa,bF]
  have hrb:∀q∈rows,∀k,-(2 ^ 20)<=jM k q/\jM k q<=2 ^ 20:=λq hq k=>by
   rw [erows] at hq
   obtain ⟨i,hi,rfl⟩:=List.mem_map.mp hq
   exact gS sg g100 (by have:=List.mem_range.mp hi;omega)
  have hdb:∀q∈rows,q.2.2.2.length=gd.length/\∀x∈q.2.2.2,0<=x/\x<=9*900:=λq hq=>by
   rw [erows] at hq
   obtain ⟨i,hi,rfl⟩:=List.mem_map.mp hq
   refine ⟨qp ms gd wr g.rows 0 (i+1),λx hx=>?_⟩
   have:=vM (ns:=ms) (gd:=gd) (fst:=0) sg (i+1) x hx
   have:=List.mem_range.mp hi
   omega
  refine ⟨_,(j6 (qa (zU (pv 0) cl_Ice c_Ice__check_lane (hr.mono ⋯) qO (j0 (pv 1) j2)))
   (j6 (qa (yt c_check_asked (hr.mono ⋯) qO rfl (j0 (pv 2) j2)))
   (j6 (qW (i:=3) qQ.nd rfl (dz rfl) (yt c_settled (hr.mono ⋯) qO rfl (j0 (pv 0) (j0 (pv 1) j2))))
   (j6 (jG 4 qQ.nd (jc (jh K) rfl nb.b_len ba (j0 (UP (pv 0) cl_Ice c_Ice__rows (hr.mono ⋯)) j2)))
   (j6 (qW (i:=5) qQ.nd rfl (dz rfl) (ji yL (jc (zT rfl) rfl nb.b_max lS (j0 j8 (j0 (ji xn (pv 2) (pv 3)) j2))) (pv 4)))
   (j6 (qW (i:=6) qQ.nd rfl (dz rfl) (yt c_course (hr.mono ⋯) qO rfl (j0 (pv 0) (j0 (pv 1) (j0 j8 (j0 (ji xn (ji jy (pv 3) (pv 4)) j8) j2))))))
   (j6 (qW (i:=7) qQ.nd rfl (dz rfl) (yS (y6 K) (pv 6) ui (um (ji jy (ji xn (pv 2) (ji yN (pv 5) (pv 4))) j8))))
   (j6 (yD (jA (osc:=(j7 uy)) (ON:=["ice","lane","year","start","many","rounds","rows","up_to","fallen","melted","gone"]) (N:=["part","up_to","rounds","rows","start"]) (own:=1) (caps:=[7,5,6,3]) ⟨rfl,∅,∅,∅,rfl,∅⟩ rfl rfl rfl (jZ rfl nb.b_range (j0 j8 j2)) (λ_ _ _ _ _=>(jd (i:=0) (show aR (["part","up_to","rounds","rows","start"]:List Str) by decide +kernel) rfl (aW rfl))) (λ_ _ _ _ _=>jq) (λ_ _ _ _ _=>(ji jy (jf c_total (hr.mono ⋯) rfl (j0 (pv 1) (j0 (pv 0) j2))) (ji yN (pv 2) (jf c_total (hr.mono ⋯) rfl (j0 (yS (y6 K) (pv 3) (um (pv 4)) ui) (j0 (pv 0) j2))))))) (U7 (n:=3) K rfl (js (jd (i:=8) qQ.nd rfl (aW rfl)) (js (jd (i:=9) qQ.nd rfl (aW rfl)) (js (jd (i:=10) qQ.nd rfl (aW rfl)) qL)))))
   (j9 (jj (xN (j0 (pv 8) (j0 (pv 9) (j0 (pv 10) (j0 (jc (xk K rfl) rfl nb.b_sum i7 (j0 (jn (qM K) (jn (je K) (pv 7) (vq zM j8) (λ_ _=>rfl)) j8 (λ_ _=>rfl)) j2)) j2))))))))))))))),?_⟩
  left
  refine ⟨p,g.dx,_,rfl,I.ob,qr ∅,?_⟩
  left
  refine ⟨p,g,l,rfl,I,λ_ _=>?_,λhb=>absurd hb ()⟩
  left
  refine ⟨λ_ _=>?_,λhb=>absurd hb ()⟩
  left
  refine ⟨p,g,l,sk,ns,rfl,I,hll,ek,hk64,hk0,LD,hn0,λN H1 hN1 hNi hNs hNn s1=>?_⟩
  obtain rfl:N=M:=Int.le_antisymm (uZ hN1 hNi hMs hMn hM1) (uZ hM1 hMi hNs hNn hN1)
  rw [hgd,<- est]
  have I1:=I.same s1
  left
  refine ⟨p,g.dx,_,rfl,I1.ob,qr ∅,?_⟩
  left
  refine ⟨p,g,rfl,I1,λlr H2 hlr hlr2 s2=>?_⟩
  have I2:=I1.same s2
  left
  refine ⟨lr,_,rfl,.inl (SqL.of hlr2),?_⟩
  rw [hyl]
  left
  refine ⟨_,_,rfl,?_⟩
  left
  simp only [kY,bc]
  rw [show (if y-st > 0 then y-st else 0) / (g.rows.length:Int)=soR st (g.rows.length:Int) y from rfl]
  have eU:y-soR st (g.rows.length:Int) y*(g.rows.length:Int)=soU st (g.rows.length:Int) y:=rfl
  unfold soP soL at k'
  generalize soU st (g.rows.length:Int) y=U at *
  generalize soR st (g.rows.length:Int) y=R at *
  refine ⟨p,g,l,0,st+(g.rows.length:Int)-1,sk,wr,ns,ms,gd,rfl,I2,hll,ek,hw.keep (jm.same (s1.trans s2)),hr1,(),sg,LD,hp,hs,hgd,g1,g100,(),λo out H3 ho ho3 r3 s3=>?_⟩
  rw [show (st+(g.rows.length:Int)-1+1-0).toNat=(st+(g.rows.length:Int)).toNat by omega,<- erows] at r3
  have hol:out.length=rows.length:=aY r3
  left
  refine ⟨_,_,rfl,SqL.of ho3,λa4 H4 ha4 ha44 s4=>?_⟩
  rw [eU,show U+1=(((U+1).toNat:Nat):Int) by omega,Za] at ha44
  have r4:=ue.same r3 s4
  have ho4:=s4 _ _ ho3
  left
  refine ⟨⋯,⋯,λacc hacc=>?_⟩
  have htl:(rows.take (U+1).toNat).length<=1000:=by rw [aF];omega
  have hdl:(rows.drop st.toNat).length<=900:=by rw [eB];omega
  refine qu (lo:=0) (n:=(3:Int).toNat) (acc:=acc) (λj σ H5=>∃x:Option V,σ=[x,some (.ref a4),some (.int R),some (.ref o),some (.int st)]/\H5 acc=some (.lst ((aK j).map λk=>V.int (((rows.take (U+1).toNat).map (jM k)).sum+R*((rows.drop st.toNat).map (jM k)).sum)))/\Ext acc H4 H5) ?_ ?_ ?_
  ·exact ⟨none,rfl,j4,Ext.put⟩
  ·rintro j σ H5 hj ⟨x,rfl,h5,e5⟩
   have hj3:j<3:=hj
   have s5:jg H4 H5:=λc o hc=>e5 c o hc (j1 hc hacc)
   left
   refine ⟨a4,j,_,_,by rw [d5];rfl,hj3,s5 _ _ ha44,Paired.takeP _ (ue.same r4 s5),htl,λq hq=>hrb q (dN hq) j,λH6 s6=>?_⟩
   have s46:=s5.trans s6
   left
   refine ⟨_,_,rfl,SqL.of (s46 _ _ ho4),λa7 H7 ha7 ha77 s7=>?_⟩
   rw [show st=((st.toNat:Nat):Int) by omega,Yp] at ha77
   have s47:=s46.trans s7
   left
   refine ⟨a7,j,_,_,by rw [d5];rfl,hj3,ha77,Paired.dropP _ (ue.same r4 s47),(),λq hq=>hrb q (dO hq) j,λH8 s8=>?_⟩
   have sb:=QP (n:=900) (a:=-(2 ^ 20)) (b:=2 ^ 20) (xs:=(rows.drop st.toNat).map (jM j)) ⋯ ⋯ (λx hx=>by
    obtain ⟨q,hq,rfl⟩:=List.mem_map.mp hx
    exact hrb q (dO hq) j) (by rw [aa];exact hdl)
   have s58:=s6.trans (s7.trans s8)
   left
   refine ⟨_,s58 _ _ h5,by rw [aa,bF];exact ja (),_,rfl,?_,λc o hc n=>by rw [j5 n];exact s58 _ _ (e5 c o hc n)⟩
   rw [j4,cv,aq]
   rfl
  rintro σ H5 ⟨x,rfl,h5,e5⟩
  have s5:jg H4 H5:=λc o hc=>e5 c o hc (j1 hc hacc)
  refine ⟨acc,_,rfl,SqL.of h5,rfl,?_⟩
  refine ⟨_,_,rfl,_,_,rfl,_,_,rfl,rfl,?_⟩
  left
  have hi:U.toNat<out.length:=()
  obtain ⟨q,hq,b,dl,eb,hb,hd⟩:=Paired.get (ue.same r4 s5) (ae hi)
  have hqm:q∈rows:=ay hq
  obtain ⟨hq1,hq2⟩:=hdb q hqm
  rw [show rows.getD U.toNat (0,0,0,[])=q by rw [ak,hq];rfl] at k'
  refine ⟨_,_,_,_,rfl,rfl,SqL.of (s5 _ _ ha44),(by rw [show (U+1).toNat=U.toNat+1 by omega,aT,ae hi,eb];exact Qn _ _),?_⟩
  left
  refine ⟨dl,_,rfl,SqL.of hd,(),λn hn=>by have:=hq2 n hn;omega,?_⟩
  left
  refine ⟨by show 4<=sizeLine;decide,λt H6 ht ht6 s6=>?_⟩
  have sA:=s1.trans (s2.trans (s3.trans (s4.trans s5)))
  exact k' t H6 (sA.free ht) ht6 (sA.trans s6)
theorem Q7 {st many y k:Int}(hm:0<many) (h:st<=y) (hk:0<=k):soR st many (y+k*many)=soR st many y+k:=by
 have h1:∀z,st<=z->soR st many z=(z-st) / many:=λz hz=>by
  unfold soR
  by_cases q:z-st > 0
  ·rw [if_pos q]
  ·rw [if_neg q,show z-st=0 by omega]
 have h2:0<=k*many:=ni hk ()
 rw [h1 _ (),h1 _ h,show y+k*many-st=y-st+k*many by omega,Int.add_mul_ediv_right _ _ ()]
theorem Q3 {st many y k:Int}(hm:0<many) (h:st<=y) (hk:0<=k):soU st many (y+k*many)=soU st many y:=by
 unfold soU
 rw [Q7 hm h hk,Int.add_mul]
 omega
noncomputable def soS (rows:List QC) (st:Int) (j:Nat):Int:=((rows.drop st.toNat).map (jM j)).sum
theorem VP {rows:List QC}{st many y k:Int}{j:Nat}(hm:0<many) (h:st<=y) (hk:0<=k):soP rows st many (y+k*many) j=soP rows st many y j+k*soS rows st j:=by
 unfold soP soS
 rw [Q3 hm h hk,Q7 hm h hk,Int.add_mul]
 omega
theorem VH {rows:List QC}{st many y k:Int}(hm:0<many) (h:st<=y) (hk:0<=k):soL rows st many (y+k*many)=soL rows st many y:=by
 unfold soL
 rw [Q3 hm h hk]
theorem uW:∀{xs ys:List Int},xs.length=ys.length->(cK (· + ·) xs ys).sum=xs.sum+ys.sum
 | [],[],_=>rfl
 | [],_::_,h=>by cases h
 | _::_,[],h=>by cases h
 | x::xs,y::ys,h=>by
  have ih:=uW (xs:=xs) (ys:=ys) (Nat.succ.inj h)
  rw [List.zipWith_cons_cons,cG,cG,cG,ih]
  omega
theorem gJ (n:Nat):(bX n (0:Int)).sum=0:=by
 induction n with
 | zero=>rfl
 | succ n ih=>rw [List.replicate_succ,cG,ih];rfl
theorem ZK {gd:List Int}{t:T3}{s:Nat}{d:List Int}(hl:d.length=gd.length) (hs:s<=d.length):(xH gd t s d).1+d.sum=(xH gd t s d).2.1+(xH gd t s d).2.2.1+(xH gd t s d).2.2.2.sum:=by
 have hsl:=xG hs
 have hm:=yW (t:=t) (d:=jt s d) (gd:=gd) ()
 have e1:(jt s d).sum=(d.take (d.length-s)).sum:=by
  unfold jt
  rw [cV,gJ,d5]
 have e2:d.sum=(d.take (d.length-s)).sum+(d.drop (d.length-s)).sum:=by rw [<- cV,mL]
 unfold xH
 dsimp only
 rw [uW (),e1]
 omega
theorem Jx (ns:List (Int×Int)) (gd:List Int) (wr:List (Int×T3)) (ts:List T3) (fst:Int):∀n,((jS ns gd wr ts fst n).map (jM 0)).sum=((jS ns gd wr ts fst n).map (jM 1)).sum+((jS ns gd wr ts fst n).map (jM 2)).sum+(qo ns gd wr ts fst n).sum
 | 0=>by show (0:Int)=0+0+(bX gd.length (0:Int)).sum;rw [gJ];rfl
 | n+1=>by
  have ih:=Jx ns gd wr ts fst n
  have hd:=qp ns gd wr ts fst n
  have rk:=ZK (t:=qc wr ts (fst+(n:Int))) (s:=jz ns gd.length (fst+(n:Int))) hd (by rw [hd];exact yO _ _ _)
  rw [yp,aq,aq,aq,cV,cV,cV]
  have e:∀k,(t6 (jM k) [jv ns gd wr ts fst n]).sum=jM k (jv ns gd wr ts fst n):=λk=>by rw [aO,fU,cG];exact Int.add_zero _
  rw [e,e,e]
  show _+(jv ns gd wr ts fst n).1=_+(jv ns gd wr ts fst n).2.1+(_+(jv ns gd wr ts fst n).2.2.1)+(jv ns gd wr ts fst n).2.2.2.sum
  unfold jv
  omega
theorem Y1 {ns:List (Int×Int)}{len:Nat}{y:Int}(h:0<=jH ns y) (hl:1<=len):1<=jz ns len y:=by
 unfold jz
 omega
theorem Vn {s:Nat}{d d':List Int}(hl:d.length=d'.length) (hs:1<=s) {i p:Nat}(hp:p<i+1) (h:∀q,q<i->d[q]? = d'[q]?):(jt s d)[p]? = (jt s d')[p]?:=by
 unfold jt
 rw [nj,nj,bg]
 by_cases z:p<s
 ·rw [if_pos z,if_pos z]
 ·rw [if_neg z,if_neg z,hl,l9,l9,h (p-s) ()]
theorem WH {gd:List Int}{t:T3}{s:Nat}{d d':List Int}(hl:d.length=d'.length) (hs:1<=s) {i p:Nat}(hp:p<i+1) (h:∀q,q<i->d[q]? = d'[q]?):(xH gd t s d).2.2.2[p]? = (xH gd t s d').2.2.2[p]?:=by
 have e:=Vn hl hs hp h
 show (cK (· + ·) (jt s d) (zw t (jt s d) gd))[p]? = (cK (· + ·) (jt s d') (zw t (jt s d') gd))[p]?
 unfold zw
 rw [cE,cE,cE,cE,e]
theorem kB {ns:List (Int×Int)}{gd:List Int}{wr:List (Int×T3)}{ts:List T3}(hv:∀y,0<=jH ns y) (h1:1<=gd.length) (fst:Int) (a:Nat):∀i p:Nat,p<i->(qo ns gd wr ts (fst+(a:Int)) i)[p]? = (qo ns gd wr ts fst (a+i))[p]?
 | 0,p,hp=>absurd hp (mB _)
 | i+1,p,hp=>by
  have ih:=kB (wr:=wr) (ts:=ts) hv h1 fst a i
  have e:fst+(a:Int)+(i:Int)=fst+((a+i:Nat):Int):=()
  show (xH gd (qc wr ts (fst+(a:Int)+(i:Int))) _ _).2.2.2[p]? = (xH gd (qc wr ts (fst+((a+i:Nat):Int))) _ _).2.2.2[p]?
  rw [e]
  exact WH (by rw [qp,qp]) (Y1 (hv _) h1) hp ih
theorem uY {ns:List (Int×Int)}{gd:List Int}{wr:List (Int×T3)}{ts:List T3}(hv:∀y,0<=jH ns y) (h1:1<=gd.length) (fst:Int) (a i:Nat) (hi:gd.length<=i):qo ns gd wr ts (fst+(a:Int)) i=qo ns gd wr ts fst (a+i):=by
 refine i5 λp=>?_
 by_cases z:p<i
 ·exact kB hv h1 fst a i p z
 ·rw [mM (by rw [qp];omega),mM (by rw [qp];omega)]
section
variable {ns:List (Int×Int)}{gd:List Int}{wr:List (Int×T3)}{ts:List T3}{M:Int}{c:Nat}
theorem zr:∀{ns:List (Int×Int)},(∀q∈ns,q.1<=M)->∀{y:Int},M<y->jH ns y=0
 | [],_,y,_=>rfl
 | q::r,h,y,hy=>by
  have h0:=h q (aG ..)
  have ih:=zr (λz hz=>h z (az _ hz)) hy
  unfold jH
  rw [if_neg (),ih]
theorem Jb (hn:∀q∈ns,q.1<=M) (sh:∀z,M<z->qc wr ts (z+(c:Int))=qc wr ts z) {fst:Int}(hf:M<fst):∀i,qo ns gd wr ts (fst+(c:Int)) i=qo ns gd wr ts fst i
 | 0=>rfl
 | i+1=>by
  have ih:=Jb hn sh hf i
  show (xH gd (qc wr ts (fst+(c:Int)+(i:Int))) (jz ns gd.length (fst+(c:Int)+(i:Int))) (qo ns gd wr ts (fst+(c:Int)) i)).2.2.2=(xH gd (qc wr ts (fst+(i:Int))) (jz ns gd.length (fst+(i:Int))) (qo ns gd wr ts fst i)).2.2.2
  unfold jz
  rw [ih,zr hn (show M<fst+(c:Int)+(i:Int) by omega),zr hn (show M<fst+(i:Int) by omega),show fst+(c:Int)+(i:Int)=fst+(i:Int)+(c:Int) by omega,sh _ ()]
theorem YA (hv:∀y,0<=jH ns y) (h1:1<=gd.length) (hn:∀q∈ns,q.1<=M) (sh:∀z,M<z->qc wr ts (z+(c:Int))=qc wr ts z) {i:Nat}(hi:M+1+(gd.length:Int)<=(i:Int)) (hM : -1<=M):qo ns gd wr ts 0 (i+c)=qo ns gd wr ts 0 i:=by
 have e1:=uY (wr:=wr) (ts:=ts) hv h1 0 (i-gd.length) gd.length (ar _)
 have e2:=uY (wr:=wr) (ts:=ts) hv h1 0 (i-gd.length+c) gd.length (ar _)
 rw [show i-gd.length+gd.length=i by omega] at e1
 rw [show i-gd.length+c+gd.length=i+c by omega] at e2
 rw [<- e1,<- e2,show (0:Int)+((i-gd.length+c:Nat):Int)=0+((i-gd.length:Nat):Int)+(c:Int) by omega]
 exact Jb hn sh () _
theorem Yv (hv:∀y,0<=jH ns y) (h1:1<=gd.length) (hn:∀q∈ns,q.1<=M) (sh:∀z,M<z->qc wr ts (z+(c:Int))=qc wr ts z) {i:Nat}(hi:M+1+(gd.length:Int)<=(i:Int)) (hM : -1<=M):jv ns gd wr ts 0 (i+c)=jv ns gd wr ts 0 i:=by
 unfold jv jz
 rw [YA hv h1 hn sh hi hM,zr hn (show M<0+((i+c:Nat):Int) by omega),zr hn (show M<0+(i:Int) by omega),show (0:Int)+((i+c:Nat):Int)=0+(i:Int)+(c:Int) by omega,sh _ ()]
end
noncomputable def xQ (f:Nat->Int) (n:Nat):Int:=((aK n).map f).sum
theorem gZ (f:Nat->Int) (n:Nat):xQ f (n+1)=xQ f n+f n:=by
 unfold xQ
 rw [cv,aq,cV,aO,fU,cG]
 show _+(f n+0)=_
 omega
theorem kS {f:Nat->Int}{s c:Nat}(h:∀i,s<=i->f (i+c)=f i):∀k,xQ f (s+k+c)-xQ f (s+k)=xQ f (s+c)-xQ f s
 | 0=>rfl
 | k+1=>by
  have ih:=kS h k
  have e:=h (s+k) ()
  rw [show s+(k+1)+c=s+k+c+1 by omega,show s+(k+1)=s+k+1 by omega,gZ,gZ,e]
  omega
theorem ZN (f:Nat->Int) (s n:Nat) (h:s<=n):(((aK n).map f).drop s).sum=xQ f n-xQ f s:=by
 have e:((aK n).map f).sum=(((aK n).map f).take s).sum+(((aK n).map f).drop s).sum:=by rw [<- cV,mL]
 have e2:((aK n).map f).take s=(aK s).map f:=by rw [<- lI,mF,eX h]
 unfold xQ
 rw [e2] at e
 omega
theorem XU {q:Nat->QC}{s c:Nat}(hc:0<c) (h:∀i,s<=i->q (i+c)=q i) (j:Nat):∀k y:Nat,y<s+c+k->soP ((aK (s+c)).map q) (s:Int) (c:Int) (y:Int) j=xQ (λi=>jM j (q i)) (y+1)
 | 0,y,hy=>by
  have eR:soR (s:Int) (c:Int) (y:Int)=0:=by
   unfold soR
   by_cases z:(y:Int)-(s:Int) > 0
   ·rw [if_pos z]
    exact mq () ()
   ·rw [if_neg z,nU]
  unfold soP soU
  rw [eR,mn,mn,Int.add_zero,Int.sub_zero,show ((y:Int)+1).toNat=y+1 by omega,<- lI,mF,eX (),bz]
  rfl
 | k+1,y,hy=>by
  by_cases z:y<s+c
  ·exact XU hc h j 0 y ()
  ·have ih:=XU hc h j k (y-c) ()
   have e:=VP (rows:=(aK (s+c)).map q) (st:=(s:Int)) (many:=(c:Int)) (y:=((y-c:Nat):Int)) (k:=1) (j:=j) () () ()
   rw [show ((y-c:Nat):Int)+1*(c:Int)=(y:Int) by omega,ih,Int.one_mul] at e
   rw [e]
   unfold soS
   rw [bb,sx,bz,ZN _ _ _ ()]
   have r:=kS (f:=λi=>jM j (q i)) (s:=s) (c:=c) (λi hi=>by show jM j (q (i+c))=_;rw [h i hi]) (y-c+1-s)
   rw [show s+(y-c+1-s)+c=y+1 by omega,show s+(y-c+1-s)=y-c+1 by omega] at r
   show _+(xQ (λi=>jM j (q i)) _-xQ (λi=>jM j (q i)) _)=_
   omega
theorem kR {q:Nat->QC}{s c:Nat}(hc:0<c) (h:∀i,s<=i->q (i+c)=q i):∀k y:Nat,y<s+c+k->soL ((aK (s+c)).map q) (s:Int) (c:Int) (y:Int)=(q y).2.2.2.sum
 | 0,y,hy=>by
  have eR:soR (s:Int) (c:Int) (y:Int)=0:=by
   unfold soR
   by_cases z:(y:Int)-(s:Int) > 0
   ·rw [if_pos z]
    exact mq () ()
   ·rw [if_neg z,nU]
  unfold soL soU
  rw [eR,mn,Int.sub_zero,bb,ak,aB,fD ()]
  rfl
 | k+1,y,hy=>by
  by_cases z:y<s+c
  ·exact kR hc h 0 y ()
  ·have ih:=kR hc h k (y-c) ()
   have e:=VH (rows:=(aK (s+c)).map q) (st:=(s:Int)) (many:=(c:Int)) (y:=((y-c:Nat):Int)) (k:=1) () () ()
   rw [show ((y-c:Nat):Int)+1*(c:Int)=(y:Int) by omega,ih] at e
   rw [e,show q y=q (y-c) by have:=h (y-c) ();rw [show y-c+c=y by omega] at this;exact this]
theorem Qx {wr:List (Int×T3)}{ts:List T3}{M y:Int}(hW:∀q∈wr,q.1<=M) (hy:M<y):qc wr ts y=ts.getD (y % (ts.length:Int)).toNat (0,0,0):=by
 unfold qc
 rw [List.find?_eq_none.mpr λq hq z=>by have:=hW q hq;have:=of_decide_eq_true z;omega]
theorem YC {wr:List (Int×T3)}{ts:List T3}{M y k:Int}(hW:∀q∈wr,q.1<=M) (hy:M<y) (hk:0<=k*(ts.length:Int)):qc wr ts (y+k*(ts.length:Int))=qc wr ts y:=by
 rw [Qx hW (),Qx hW hy,Int.add_mul_emod_self_right]
theorem zJ.keys {H:Hp}:∀{sk:List (Int×Addr)}{wr:List (Int×T3)},zJ H sk wr->wr.map (·.1)=sk.map (·.1)
 | _,_,.nil=>rfl
 | _,_,.cons ⟨h,_⟩ r=>by rw [aO,aO,zJ.keys r,h]
theorem vO:∀{ns:List (Int×Int)},(ns.map (·.1)).Nodup->∀y:Int,qC ns (y+1)=qC ns y+jH ns (y+1)
 | [],_,y=>rfl
 | q::r,nd,y=>by
  rw [aO] at nd
  obtain ⟨h1,h2⟩:=List.nodup_cons.mp nd
  have ih:=vO h2 y
  rw [qP,qP]
  unfold jH
  by_cases e:q.1=y+1
  ·have z:jH r (y+1)=0:=by
    have:∀{l:List (Int×Int)} {y:Int},y∉l.map (·.1)->jH l y=0:=λ{l}=>by
     induction l with
     | nil=>intro _ _;rfl
     | cons a t ih2 =>
      intro y hy
      rw [aO,dW,not_or] at hy
      unfold jH
      rw [if_neg (λz=>hy.1 z.symm)]
      exact ih2 hy.2
    exact this (by rw [<- e];exact h1)
   rw [if_pos e,if_pos (),if_neg ()]
   omega
  ·rw [if_neg e]
   by_cases l:q.1<=y
   ·rw [if_pos l,if_pos ()];omega
   ·rw [if_neg l,if_neg ()];omega
theorem Zk:∀(ks:List Int),(∀x∈ks,0<=x)->∃M,-1<=M/\(M = -1\/M∈ks)/\∀x∈ks,x<=M
 | [],_=>⟨-1,lA _,.inl rfl,λ_ h=>by cases h⟩
 | k::ks,h=>by
  obtain ⟨M,h1,h2,h3⟩:=Zk ks λx hx=>h x (az _ hx)
  have h0:=h k (aG ..)
  by_cases z:M<=k
  ·refine ⟨k,(),.inr (aG ..),λx hx=>?_⟩
   rcases List.mem_cons.mp hx with rfl | hx
   ·exact lA _
   ·exact pe (h3 x hx) z
  ·refine ⟨M,h1,h2.imp id (az _),λx hx=>?_⟩
   rcases List.mem_cons.mp hx with rfl | hx
   ·omega
   ·exact h3 x hx
theorem ZY {ms:List (Int×Int)}{gd:List Int}{wr:List (Int×T3)}{ts:List T3}{M:Int}(hv:∀y,0<=jH ms y) (h1:1<=gd.length) (hn:∀q∈ms,q.1<=M) (hW:∀q∈wr,q.1<=M) (hM : -1<=M) (ht:1<=ts.length) {st:Int}(est:st=M+1+(gd.length:Int)) (y:Nat) :
  (∀j,soP (jS ms gd wr ts 0 (st+(ts.length:Int)).toNat) st (ts.length:Int) (y:Int) j=xQ (λi=>jM j (jv ms gd wr ts 0 i)) (y+1))/\soL (jS ms gd wr ts 0 (st+(ts.length:Int)).toNat) st (ts.length:Int) (y:Int)=(qo ms gd wr ts 0 (y+1)).sum:=by
 obtain ⟨s,rfl⟩:∃s:Nat,st=(s:Int):=⟨st.toNat,()⟩
 have sh:∀z,M<z->qc wr ts (z+(ts.length:Int))=qc wr ts z:=λz hz=>by
  have:=YC (ts:=ts) (k:=1) hW hz ()
  rw [Int.one_mul] at this
  exact this
 have ag:∀i,s<=i->jv ms gd wr ts 0 (i+ts.length)=jv ms gd wr ts 0 i:=λi hi=>Yv hv h1 hn sh () hM
 rw [show ((s:Int)+(ts.length:Int)).toNat=s+ts.length by omega]
 exact ⟨λj=>XU () ag j (y+1) y (),kR () ag (y+1) y ()⟩
theorem ScAt.frM {H H':Hp}{sd:Addr}{c:ScN}(S:ScAt H sd c) (f:FrM c.D H H'):ScAt H' sd c:=S.keep (N:=λ_=>False) (λc o h _=>f c o h) (λ_ _ _ z=>z) id S.nD id id id id (λ_ _=>id) id (λ_ _=>id)
theorem FrM.keepT {M:Addr->Prop}{H H':Hp}(f:FrM M H H'):jm H H':=λa xs h=>f.at h (by walk_at "w")
theorem FrM.put {M:Addr->Prop}{H H':Hp}{c:Addr}{o:HO}(f:FrM M H H') (n:H c=none):FrM M H (upd H' c o):=λd u hd=>by
 have:d≠c:=λe=>by rw [e,n] at hd;cases hd
 rw [j5 this]
 exact f d u hd
theorem FrM.no {M:Addr->Prop}{H H':Hp}{c:Addr}(f:FrM M H H') (n:H' c=none):H c=none:=by
 cases e:H c with
 | none=>rfl
 | some o =>
  rcases f c o e with h | ⟨_,_,_,_,h⟩
  ·rw [n] at h;cases h
  ·rw [n] at h;cases h
theorem YK {H:Hp}{sd da:Addr}{c:ScN}{g:IceG}{l y:Int}{wy:List Int}{dn:List (Int×Int)}{Q:VK}{E:XK}(S:ScAt H sd c) (LF:LaneF c g l wy da dn) (k:∀H',FrM c.D H H'->Q (.int (y+qC dn y)) H'):Xx [.ref sd,.int l,.int y] H Q E:=by
 have hdm:=ay LF.cd
 have ell:c.lds.map (λx=>V.ref x.1)=(c.lds.map (·.1)).map V.ref:=by rw [bz];rfl
 have eda:(c.lds.map (·.1))[l.toNat]? = some da:=by rw [aB,LF.cd];rfl
 have l10:=LF.l10
 exact ⟨c.D,sd,c.p,c.q,c.sg,c.gl,c.ll,da,c.lds.map (·.1),l,_,dn,rfl,S.sd,(by rw [<- ell];exact S.ll),LF.l0,eda,S.ld _ hdm,LF.D,S.nD,(),LF.nd,λq hq=>by have:=LF.b q hq;omega,k⟩
theorem FrM.dk {M:Addr->Prop}{H H':Hp}(f:FrM M H H') {c:Addr}{o:HO}(h:H c=some o) (n:¬M c):H' c=some o:=by
 rcases f c o h with z | ⟨m,_⟩
 ·exact z
 ·exact absurd m n
theorem ScAt.D_none {H:Hp}{sd a:Addr}{c:ScN}(S:ScAt H sd c) (h:H a=none):¬c.D a:=by
 rintro (rfl | ⟨x,hx,rfl⟩)
 ·rcases S.sg with z | ⟨o,z⟩ <;> (rw [h] at z;cases z)
 ·rcases S.ld x hx with z | ⟨o,z⟩ <;> (rw [h] at z;cases z)
theorem ScAt.gnd {H:Hp}{sd da:Addr}{c:ScN}{g:IceG}{l:Int}{wy:List Int}{dn:List (Int×Int)}(S:ScAt H sd c) (LF:LaneF c g l wy da dn):∃ga,atI c.zs l=some (V.ref ga)/\H ga=some (.lst ((jb c.rs wy).map V.int)):=by
 have hzl:c.zs.length=c.ws.length:=(aY S.gi).trans (aa _)
 have hi:l.toNat<c.zs.length:=by rw [hzl];exact (List.getElem?_eq_some_iff.mp LF.way).1
 obtain ⟨gw,hgw,ga,ega,hga⟩:=Paired.get S.gi (ae hi)
 rw [aB,LF.way] at hgw
 have hgw:=aM hgw
 subst hgw
 exact ⟨ga,xg LF.l0 (by rw [ae hi,ega]),hga⟩
noncomputable def xf (R:Int) (n:Nat):List Int:=(aK n).map λp:Nat=>R-(p:Int)
theorem Yw {R k:Int}{n:Nat}:k∈xf R n↔R-(n:Int)<k/\k<=R:=by
 unfold xf
 rw [List.mem_map]
 constructor
 ·rintro ⟨p,hp,rfl⟩
  have:=List.mem_range.mp hp
  omega
 ·rintro ⟨a,b⟩
  exact ⟨(R-k).toNat,List.mem_range.mpr (),()⟩
theorem zi (R:Int) (n:Nat):(xf R n).length=n:=by
 unfold xf
 rw [aa,bF]
theorem Qd {R:Int}{n p:Nat}(h:p<n):(xf R n)[p]? = some (R-(p:Int)):=by
 unfold xf
 rw [aB,fD h]
 rfl
noncomputable def Zd:Sp:=λvs H Q _=>∃(sd:Addr) (c:ScN) (g:IceG) (l y:Int) (wy:List Int) (da:Addr) (dn:List (Int×Int)),vs=[.ref sd,.int l,.int y]/\ScAt H sd c/\LaneF c g l wy da dn /\
 ∀o H',H o=none->H' o=some (.lst ((xf (y+qC dn y) (jb c.rs wy).length).map V.int))->FrM c.D H H'->Q (.ref o) H'
theorem vR:FnScope ["_law_scene_here","_law_lane","_law_year_here","_law_ride_here"] ["_law_scene_here","_law_lane","_law_year_here"] (j7 zA):=by walk_at "s"
theorem Vj {f:Addr}{fd:FuncData}(nb:Nb2 mg) (c_law_ride:Cal P w K mg base 1 "_law_ride" ["_law_scene_here","_law_lane","_law_year_here"] Xx)
  (F:Fun K "_law_marks" "_law_marks" zA f fd):FnOk P w K mg base CX0 2 f fd ["_law_scene_here","_law_lane","_law_year_here"] Zd:=by
 refine F.ok vR (λvs H Q E h=>?_) (λcdv A outer s H vs Q E hr h=>?_)
 ·obtain ⟨sd,c,g,l,y,wy,da,dn,rfl,_⟩:=h
  rfl
 ·obtain ⟨sd,c,g,l,y,wy,da,dn,rfl,S,LF,k⟩:=h
  have g30:=LF.g30
  refine ⟨_,(j6 (qW (i:=3) vR.nd rfl (dz rfl) (jf c_law_ride (hr.mono ⋯) rfl (j0 (pv 0) (j0 (pv 1) (j0 (pv 2) j2)))))
   (j9 (jj (jA (osc:=(j7 zA)) (ON:=["_law_scene_here","_law_lane","_law_year_here","_law_ride_here"]) (N:=["_law_place","_law_ride_here"]) (own:=1) (caps:=[3]) ⟨rfl,∅,∅,∅,rfl,∅⟩ rfl rfl rfl (jZ rfl nb.b_range (j0 (jc (jh K) rfl nb.b_len ba (j0 (jn (je K) (jE (jQ hr) (pv 0) jJ (λ_ _=>rfl)) (pv 1) (λ_ _=>rfl)) j2)) j2)) (λ_ _ _ _ _=>(jd (i:=0) (show aR (["_law_place","_law_ride_here"]:List Str) by decide +kernel) rfl (aW rfl))) (λ_ _ _ _ _=>jq) (λ_ _ _ _ _=>(ji xn (pv 1) (pv 0))))))),?_⟩
  left
  simp only [kY,bc]
  refine YK S LF λH1 f1=>?_
  have S1:=S.frM f1
  obtain ⟨ga,ega,hga⟩:=S1.gnd LF
  left
  refine ⟨sd,.ref c.gl,rfl,by rw [<- ym c.p c.q c.sg c.gl c.ll];exact qK.k (k:=.inr "grounds") S1.sd,?_⟩
  left
  refine ⟨_,_,_,_,rfl,rfl,SqL.of S1.gl,ega,?_⟩
  left
  refine ⟨ga,_,rfl,.inl (SqL.of hga),?_⟩
  rw [aa]
  left
  refine ⟨(),(),λacc hacc=>?_⟩
  refine qu (lo:=0) (n:=(((jb c.rs wy).length:Nat):Int).toNat) (acc:=acc) (λi σ H2=>∃x:Option V,σ=[x,some (.int (y+qC dn y))]/\H2 acc=some (.lst ((xf (y+qC dn y) i).map V.int))/\Ext acc H1 H2) ?_ ?_ ?_
  ·exact ⟨none,rfl,j4,Ext.put⟩
  ·rintro i σ H2 hi ⟨x,rfl,h2,e2⟩
   left
   refine ⟨_,h2,by rw [aa,zi];exact ja (),_,rfl,?_,e2.trans Ext.put⟩
   unfold xf
   rw [j4,cv,aq,aq,d5]
   rfl
  ·rintro σ H2 ⟨x,rfl,h2,e2⟩
   rw [bb] at h2
   left
   exact k acc H2 (f1.no hacc) h2 (f1.trans (FrM.of_same λc o hc=>e2 c o hc (j1 hc hacc)))
noncomputable def kvD:Int->List Int->List (Int×Int)
 | _,[]=>[]
 | R,x::d=>(R,x)::kvD (R-1) d
theorem wu:∀(R:Int) (d:List Int),(kvD R d).length=d.length
 | _,[]=>rfl
 | R,x::d=>congrArg Nat.succ (wu (R-1) d)
theorem JU:∀(R:Int) (d:List Int) (p:Nat),(kvD R d)[p]? = d[p]?.map λx=>(R-(p:Int),x)
 | _,[],p=>rfl
 | R,x::d,0=>by
  show some (R,x)=some (R-((0:Nat):Int),x)
  rw [show R-((0:Nat):Int)=R by omega]
 | R,x::d,p+1=>by
  show (kvD (R-1) d)[p]? = d[p]?.map _
  rw [JU (R-1) d p,show R-1-(p:Int)=R-((p+1:Nat):Int) by omega]
theorem JM:∀(R:Int) (d:List Int) (k:Int),jH (kvD R d) k=if k<=R then d.getD (R-k).toNat 0 else 0
 | R,[],k=>by
  show (0:Int)=_
  split <;> rfl
 | R,x::d,k=>by
  have ih:=JM (R-1) d k
  show (if R=k then x else jH (kvD (R-1) d) k)=_
  by_cases e:R=k
  ·rw [if_pos e,if_pos (),show (R-k).toNat=0 by omega]
   rfl
  ·rw [if_neg e,ih]
   by_cases z:k<=R
   ·rw [if_pos z,if_pos (),show (R-k).toNat=(R-1-k).toNat+1 by omega]
    rfl
   ·rw [if_neg z,if_neg ()]
theorem Q6:∀(R B:Int) (d:List Int),((kvD R d).filter λq=>decide (q.1<=B)).map (·.2)=d.drop (R-B).toNat
 | R,B,[]=>by rw [nR];rfl
 | R,B,x::d=>by
  have ih:=Q6 (R-1) B d
  show (((R,x)::kvD (R-1) d).filter _).map _=_
  by_cases z:R<=B
  ·rw [cN (by rw [decide_eq_true (show (R,x).1<=B from z)]),aO,ih,show (R-B).toNat=0 by omega,show (R-1-B).toNat=0 by omega]
   rfl
  ·rw [cM (by rw [decide_eq_false (show ¬(R,x).1<=B from z)];exact au),ih,show (R-B).toNat=(R-1-B).toNat+1 by omega]
   rfl
theorem XT:∀{R:Int}{d:List Int}{q:Int×Int},q∈kvD R d->q.1<=R/\q.2∈d
 | _,[],_,h=>by cases h
 | R,x::d,q,h=>by
  rcases List.mem_cons.mp (show q∈(R,x)::kvD (R-1) d from h) with rfl | h
  ·exact ⟨lA _,aG ..⟩
  ·have:=XT h
   exact ⟨(),az _ this.2⟩
theorem Q9:∀(R:Int) (d:List Int) (x:Int),kvD R (d++[x])=kvD R d++[(R-(d.length:Int),x)]
 | R,[],x=>by
  show [(R,x)]=[(R-((0:Nat):Int),x)]
  rw [show R-((0:Nat):Int)=R by omega]
 | R,y::d,x=>by
  show (R,y)::kvD (R-1) (d++[x])=(R,y)::(kvD (R-1) d++_)
  rw [Q9 (R-1) d x,show R-1-(d.length:Int)=R-((y::d).length:Int) by rw [b7];omega]
theorem Xp {R k:Int}:∀{d:List Int},k∈(kvD R d).map (·.1)->R-(d.length:Int)<k/\k<=R:=λ{d} h=>by
 obtain ⟨q,hq,rfl⟩:=List.mem_map.mp h
 obtain ⟨p,hp,e⟩:=List.mem_iff_getElem.mp hq
 have e2:=JU R d p
 rw [ae hp,e] at e2
 have hp':p<d.length:=by rw [<- wu R d];exact hp
 rw [ae hp'] at e2
 have:=aM e2
 rw [this]
 show R-(d.length:Int)<R-(p:Int)/\R-(p:Int)<=R
 omega
theorem ki:∀{ns:List (Int×Int)}{k:Int},¬k∈ns.map (·.1)->qi (ns.map kvI) (.inl k)=none
 | [],k,_=>rfl
 | q::r,k,h=>by
  rw [aO,show qi (kvI q::r.map kvI) (.inl k)=qi (r.map kvI) (.inl k) from jr λw=>h (by rw [aO,fh w];exact aG ..)]
  exact ki λz=>h (by rw [aO];exact az _ z)
noncomputable def kP (ms:List (Int×Int)) (gd:List Int) (wr:List (Int×T3)) (ts:List T3) (i:Nat) (ps:List (Int×Int)):Prop :=
 (i=0/\ps=[])\/∃j:Nat,i=j+1/\ps=kvD ((j:Int)+qC ms (j:Int)) (qo ms gd wr ts 0 i)
theorem kP.len {ms:List (Int×Int)}{gd:List Int}{wr:List (Int×T3)}{ts:List T3}{i:Nat}{ps:List (Int×Int)}(h:kP ms gd wr ts i ps):ps.length<=gd.length:=by
 rcases h with ⟨_,rfl⟩ | ⟨j,_,rfl⟩
 ·exact aQ _
 ·rw [wu,qp]
  exact ar _
theorem kP.mem {ms:List (Int×Int)}{gd:List Int}{wr:List (Int×T3)}{ts:List T3}{i:Nat}{ps:List (Int×Int)}(h:kP ms gd wr ts i ps) {q:Int×Int}(hq:q∈ps):q.2∈qo ms gd wr ts 0 i:=by
 rcases h with ⟨_,rfl⟩ | ⟨j,_,rfl⟩
 ·cases hq
 ·exact (XT hq).2
theorem kP.nodup {ms:List (Int×Int)}{gd:List Int}{wr:List (Int×T3)}{ts:List T3}{i:Nat}{ps:List (Int×Int)}(h:kP ms gd wr ts i ps):(ps.map (·.1)).Nodup:=by
 have go:∀(d:List Int) (R:Int),((kvD R d).map (·.1)).Nodup:=λd=>by
  induction d with
  | nil=>exact λ_=>.nil
  | cons x d ih =>
   intro R
   show (R::(kvD (R-1) d).map (·.1)).Nodup
   exact List.nodup_cons.mpr ⟨λz=>by have:=Xp z;omega,ih _⟩
 rcases h with ⟨_,rfl⟩ | ⟨j,_,rfl⟩
 ·exact .nil
 ·exact go _ _
theorem XH {s:Nat}{d:List Int}(hz:∀x∈d,x=0) (p:Nat):(jt s d).getD p 0=0:=by
 rw [ak]
 cases e:(jt s d)[p]? with
 | none=>rfl
 | some x =>
  rcases zY (ay e) with z | z
  ·exact z
  ·exact hz x z
theorem gY (ms:List (Int×Int)) (gd:List Int) (wr:List (Int×T3)) (ts:List T3):∀x∈qo ms gd wr ts 0 0,x=0:=λx hx=>(List.mem_replicate.mp hx).2
theorem kP.high {ms:List (Int×Int)}{gd:List Int}{wr:List (Int×T3)}{ts:List T3}(nd:(ms.map (·.1)).Nodup) (hv:∀y,0<=jH ms y) {i:Nat}{ps:List (Int×Int)}(h:kP ms gd wr ts i ps) {p:Nat}(hp:p<gd.length) :
  jH ps ((i:Int)+qC ms (i:Int)-(p:Int))=(jt (jz ms gd.length (0+(i:Int))) (qo ms gd wr ts 0 i)).getD p 0:=by
 rcases h with ⟨rfl,rfl⟩ | ⟨j,rfl,rfl⟩
 ·rw [XH (gY ms gd wr ts)]
  rfl
 ·have st:=vO nd (j:Int)
  rw [show (j:Int)+1=((j+1:Nat):Int) by omega] at st
  have hv1:=hv ((j+1:Nat):Int)
  have hdl:=qp ms gd wr ts 0 (j+1)
  have hS:jz ms gd.length (0+((j+1:Nat):Int))=(min (1+jH ms ((j+1:Nat):Int)) (gd.length:Int)).toNat:=by unfold jz;rw [d5]
  rw [JM]
  generalize qo ms gd wr ts 0 (j+1)=d at *
  generalize jz ms gd.length (0+((j+1:Nat):Int))=s at *
  unfold jt
  by_cases z:p<s
  ·rw [if_neg (),ak,cx (by rw [bg];exact z),eA,if_pos z]
   rfl
  ·rw [if_pos (),ak,ak,cn (by rw [bg];omega),bg,l9,if_pos (),show ((j:Int)+qC ms (j:Int)-(((j+1:Nat):Int)+qC ms ((j+1:Nat):Int)-(p:Int))).toNat=p-s by omega]
theorem kP.gone {ms:List (Int×Int)}{gd:List Int}{wr:List (Int×T3)}{ts:List T3}(nd:(ms.map (·.1)).Nodup) (hv:∀y,0<=jH ms y) {i:Nat}{ps:List (Int×Int)}(h:kP ms gd wr ts i ps) :
  ((ps.filter λq=>decide (¬q.1∈xf ((i:Int)+qC ms (i:Int)) gd.length)).map (·.2)).sum=((qo ms gd wr ts 0 i).drop ((qo ms gd wr ts 0 i).length-jz ms gd.length (0+(i:Int)))).sum:=by
 rcases h with ⟨rfl,rfl⟩ | ⟨j,rfl,rfl⟩
 ·show (0:Int)=_
  have:∀{l:List Int},(∀x∈l,x=0)->l.sum=0:=λ{l} hl=>by
   induction l with
   | nil=>rfl
   | cons x r ih=>rw [cG,hl x (aG ..),ih λy hy=>hl y (az _ hy)];rfl
  exact (this λx hx=>gY ms gd wr ts x (dO hx)).symm
 ·have st:=vO nd (j:Int)
  rw [show (j:Int)+1=((j+1:Nat):Int) by omega] at st
  have hv1:=hv ((j+1:Nat):Int)
  have hdl:=qp ms gd wr ts 0 (j+1)
  have hS:jz ms gd.length (0+((j+1:Nat):Int))=(min (1+jH ms ((j+1:Nat):Int)) (gd.length:Int)).toNat:=by unfold jz;rw [d5]
  generalize qo ms gd wr ts 0 (j+1)=d at *
  generalize jz ms gd.length (0+((j+1:Nat):Int))=s at *
  have e:(kvD ((j:Int)+qC ms (j:Int)) d).filter (λq=>decide (¬q.1∈xf (((j+1:Nat):Int)+qC ms ((j+1:Nat):Int)) gd.length))=(kvD ((j:Int)+qC ms (j:Int)) d).filter λq=>decide (q.1<=((j+1:Nat):Int)+qC ms ((j+1:Nat):Int)-(gd.length:Int)):=by
   refine List.filter_congr λq hq=>?_
   have h1:=(XT hq).1
   rw [decide_eq_decide,Yw]
   omega
  rw [e,Q6,show ((j:Int)+qC ms (j:Int)-(((j+1:Nat):Int)+qC ms ((j+1:Nat):Int)-(gd.length:Int))).toNat=d.length-s by omega]
noncomputable def kL (H:Hp) (out:List V) (qs:List QC):Prop:=ck (λv (q:QC)=>∃b dl,v=V.ref b/\H b=some (.tup [.ref dl,.int q.1,.int q.2.1,.int q.2.2.1])/\H dl=some (.lst (q.2.2.2.map V.int))) out qs
theorem FrM.two {M:Addr->Prop}{H H1 H2:Hp}{la mv:Addr}(f:FrM M H H1) (hl:H la=none) (hm:H mv=none) (e:∀a o,H1 a=some o->a≠la->a≠mv->H2 a=some o):FrM M H H2:=λa o ha=>by
 have n1:a≠la:=j1 ha hl
 have n2:a≠mv:=j1 ha hm
 rcases f a o ha with h | ⟨m,ob,kvs,eo,h⟩
 ·exact .inl (e a o h n1 n2)
 ·exact .inr ⟨m,ob,kvs,eo,e a _ h n1 n2⟩
theorem Yt {m:List Int}{p:Nat}{x:Int}(h:m[p]? = some x):((m.take (p+1)).filter λx=>decide (0<x)).sum=((m.take p).filter λx=>decide (0<x)).sum+(if 0<x then x else 0):=by
 rw [aT,h,bT,cV]
 show _+(fm _ [x]).sum=_
 by_cases z:0<x
 ·rw [cN (by rw [decide_eq_true z]),if_pos z]
  show _+(x+0)=_
  omega
 ·rw [cM (by rw [decide_eq_false z];exact au),if_neg z]
  rfl
theorem YM {m:List Int}{p:Nat}{x:Int}(h:m[p]? = some x):(m.take (p+1)).sum=(m.take p).sum+x:=by
 rw [aT,h,cV]
 show _+(x+0)=_
 omega
theorem Yn {A S hg wsh:Int}(h0:0<=hg) (hn:wsh<0):A+(if 0<(if wsh > -hg then wsh else -hg) then (if wsh > -hg then wsh else -hg) else 0)=A/\A-(S+(if wsh > -hg then wsh else -hg))=A-S+(if (if hg+wsh > 0 then hg+wsh else 0)-hg<0 then -((if hg+wsh > 0 then hg+wsh else 0)-hg) else (if hg+wsh > 0 then hg+wsh else 0)-hg):=by
 by_cases z:wsh > -hg
 ·rw [if_pos z,if_pos (show hg+wsh > 0 by omega),if_neg (show ¬0<wsh by omega),if_pos (show hg+wsh-hg<0 by omega)]
  omega
 ·rw [if_neg z,if_neg (show ¬hg+wsh > 0 by omega),if_neg (show ¬0 < -hg by omega)]
  refine ⟨(),?_⟩
  split <;> omega
theorem ZP {A S hg wsh:Int}(h0:0<=hg) (hn:¬wsh<0):A+(if 0<(if wsh > -hg then wsh else -hg) then (if wsh > -hg then wsh else -hg) else 0)=A+(if (if hg+wsh > 0 then hg+wsh else 0)-hg<0 then -((if hg+wsh > 0 then hg+wsh else 0)-hg) else (if hg+wsh > 0 then hg+wsh else 0)-hg)/\A+(if 0<(if wsh > -hg then wsh else -hg) then (if wsh > -hg then wsh else -hg) else 0)-(S+(if wsh > -hg then wsh else -hg))=A-S:=by
 have e1:(if wsh > -hg then wsh else -hg)=wsh:=by split <;> omega
 have e2:(if hg+wsh > 0 then hg+wsh else 0)=hg+wsh:=by split <;> omega
 have e3:(if 0<wsh then wsh else 0)=wsh:=by split <;> omega
 rw [e1,e2,e3,if_neg (show ¬hg+wsh-hg<0 by omega)]
 omega
noncomputable def Qf:Sp:=λvs H Q _=>∃(sd:Addr) (c:ScN) (g:IceG) (l last:Int) (wy:List Int) (da:Addr) (dn ms:List (Int×Int)) (wr:List (Int×T3)),vs=[.ref sd,.int l,.int last]/\ScAt H sd c/\LaneF c g l wy da dn/\ms.Perm dn/\zJ H c.sk wr/\1<=c.ts.length/\c.ts.length<=1000/\(∀z,good (qc wr c.ts z)=true) /\ -1<=last/\last<900 /\
 ∀o out H',H o=none->H' o=some (.lst out)->kL H' out (jS ms (jb c.rs wy) wr c.ts 0 (last+1).toNat)->FrM c.D H H'->Q (.ref o) H'
theorem jC:FnScope ["_law_scene_here","_law_lane","_law_last","_law_piles","_law_found","_law_year_here","_law_marks_here","_law_gone","_law_later","_law_moves","_law_place","_law_one","_law_high","_law_wish_here"] ["_law_scene_here","_law_lane","_law_last"] (j7 xx):=by walk_at "s"
theorem Y0 {f:Addr}{fd:FuncData}(nb:Nb2 mg) (b_abs:mg "abs" = none) (c_law_marks:Cal P w K mg base 2 "_law_marks" ["_law_scene_here","_law_lane","_law_year_here"] Zd) (c_law_wish:Cal P w K mg base 1 "_law_wish" ["_law_row_here","_law_height"] YQ) (c_law_row:Cal P w K mg base 1 "_law_row" ["_law_scene_here","_law_year_here"] YH)
  (F:Fun K "_law_depths" "_law_depths" xx f fd):FnOk P w K mg base CX0 3 f fd ["_law_scene_here","_law_lane","_law_last"] Qf:=by
 refine F.ok jC (λvs H Q E h=>?_) (λcdv A outer s H vs Q E hr h=>?_)
 ·obtain ⟨sd,c,g,l,last,wy,da,dn,ms,wr,rfl,_⟩:=h
  rfl
 ·obtain ⟨sd,c,g,l,last,wy,da,dn,ms,wr,rfl,S,LF,hp,hw,t1,t2,sg,last0,last9,k⟩:=h
  have g30:=LF.g30
  have g1:=LF.g1
  have ndm:(ms.map (·.1)).Nodup:=(hp.map (·.1)).nodup_iff.mpr LF.nd
  have hv:∀z,0<=jH ms z:=λz=>(wv (λq hq=>by have:=LF.b q (hp.mem_iff.mp hq);omega) z).1
  have sper:=λy=>XR hp y
  have gAt:=λ{H':Hp} (S':ScAt H' sd c)=>S'.gnd LF
  generalize hgd:jb c.rs wy=gd at *
  refine ⟨_,(j6 (qW (i:=3) jC.nd rfl (dz rfl) y8)
   (j6 (jG 4 jC.nd (jU j2))
   (j6 (xD bI rfl (jZ rfl nb.b_range (j0 (ji jy (pv 2) j8) j2)) (jd (i:=5) jC.nd rfl (aW rfl)) (j6 (qW (i:=6) jC.nd rfl (dz rfl) (jf c_law_marks (hr.mono ⋯) rfl (j0 (pv 0) (j0 (pv 1) (j0 (pv 5) j2)))))
   (j6 (jG 7 jC.nd (jc (xk K rfl) rfl nb.b_sum i7 (j0 (jA (osc:=(j7 xx)) (ON:=["_law_scene_here","_law_lane","_law_last","_law_piles","_law_found","_law_year_here","_law_marks_here","_law_gone","_law_later","_law_moves","_law_place","_law_one","_law_high","_law_wish_here"]) (N:=["_law_one","_law_piles","_law_marks_here"]) (own:=1) (caps:=[3,6]) ⟨rfl,∅,∅,∅,rfl,∅⟩ rfl rfl rfl (wx (pv 3)) (λ_ _ _ _ _=>(jd (i:=0) (show aR (["_law_one","_law_piles","_law_marks_here"]:List Str) by decide +kernel) rfl (aW rfl))) (λ_ _ _ _ _=>(yJ (jX (xM K) (pv 0) (pv 2) (by with_unfolding_all rfl)))) (λ_ _ _ _ _=>(jE (jQ hr) (pv 1) (pv 0) (λ_ _=>rfl)))) j2)))
   (j6 (jG 8 jC.nd y8)
   (j6 (jG 9 jC.nd (jU (j0 j8 (j0 j8 j2))))
   (j6 (xD bI rfl (Jh K rfl nb.b_enumerate (j0 (pv 6) j2)) (qT (n:=2) K rfl (js (jd (i:=10) jC.nd rfl (aW rfl)) (js (jd (i:=11) jC.nd rfl (aW rfl)) qL))) (j6 (jG 12 jC.nd (kC (jQ hr) (pv 3) (pv 11) j8 ⟨rfl,rfl,rfl,rfl⟩))
   (j6 (jG 13 jC.nd (jf c_law_wish (hr.mono ⋯) rfl (j0 (jf c_law_row (hr.mono ⋯) rfl (j0 (pv 0) (j0 (pv 5) j2))) (j0 (jn (je K) (jn (je K) (jE (jQ hr) (pv 0) jJ (λ_ _=>rfl)) (pv 1) (λ_ _=>rfl)) (pv 10) (λ_ _=>rfl)) j2))))
   (j6 (yk (jQ hr) (pv 8) (pv 11) (jc (zT rfl) rfl nb.b_max lS (j0 j8 (j0 (ji jy (pv 12) (pv 13)) j2))) rfl)
   (j9 (VZ (pv 9) (qk ZF rfl nb.b_int ie (j0 (ze we (pv 13) j8 (qd _)) j2)) (Vk K) (jc Vy rfl b_abs boot_abs (j0 (ji xn (jE (jQ hr) (pv 8) (pv 11) (λ_ _=>rfl)) (pv 12)) j2)) WO yA))))))
   (j6 (qW (i:=3) jC.nd rfl (dz rfl) (pv 8))
   (j9 (qa (yE K bZ bU bV qx (pv 4) (j0 (xN (j0 (jA (osc:=(j7 xx)) (ON:=["_law_scene_here","_law_lane","_law_last","_law_piles","_law_found","_law_year_here","_law_marks_here","_law_gone","_law_later","_law_moves","_law_place","_law_one","_law_high","_law_wish_here"]) (N:=["_law_one","_law_piles"]) (own:=1) (caps:=[3]) ⟨rfl,∅,∅,∅,rfl,∅⟩ rfl rfl rfl (jL K (pv 6)) (λ_ _ _ _ _=>(jd (i:=0) (show aR (["_law_one","_law_piles"]:List Str) by decide +kernel) rfl (aW rfl))) (λ_ _ _ _ _=>jq) (λ_ _ _ _ _=>(jE (jQ hr) (pv 1) (pv 0) (λ_ _=>rfl)))) (j0 (jn (je K) (pv 9) j8 (λ_ _=>rfl)) (j0 (jn (je K) (pv 9) j8 (λ_ _=>rfl)) (j0 (pv 7) j2))))) j2)))))))))))
   (j9 (jj (pv 4)))))),?_⟩
  left
  intro pa0 hpa0
  left
  refine ⟨aQ _,λfo H2 hfo hfo2 s2=>?_⟩
  have f1:FrM c.D H (upd H pa0 (.dK [])):=(FrM.of_same (jg.refl H)).put hpa0
  have hfoH:H fo=none:=f1.no hfo
  left
  refine ⟨(),(),?_⟩
  refine zh (λi σ H6=>∃(x5 x6 x7 x8 x9 x10 x11 x12 x13:Option V) (pa:Addr) (ps:List (Int×Int)) (out:List V),σ=[some (.ref sd),some (.int l),some (.int last),some (.ref pa),some (.ref fo),x5,x6,x7,x8,x9,x10,x11,x12,x13]/\H pa=none/\H6 pa=some (.dK (ps.map kvI))/\kP ms gd wr c.ts i ps/\H6 fo=some (.lst out)/\out.length=i/\ck (λv (q:QC)=>∃b dl,v=V.ref b/\H6 b=some (.tup [.ref dl,.int q.1,.int q.2.1,.int q.2.2.1])/\H6 dl=some (.lst (q.2.2.2.map V.int))/\dl≠fo) out (jS ms gd wr c.ts 0 i)/\FrM c.D H H6) ?_ ?_ ?_
  ·exact ⟨_,_,_,_,_,_,_,_,_,pa0,[],[],rfl,hpa0,s2 _ _ j4,.inl ⟨rfl,rfl⟩,hfo2,rfl,.nil,f1.trans (FrM.of_same s2)⟩
  ·clear f1 hfo hfo2 s2
   rintro i σ H6 hi ⟨x5,x6,x7,x8,x9,x10,x11,x12,x13,pa,ps,out,rfl,hpaH,hpa6,psA,hfo6,hl6,r6,f6⟩
   have hi9:i<900:=()
   have S6:=S.frM f6
   left
   refine ⟨sd,c,g,l,_,wy,da,dn,rfl,S6,LF,λmk H7 hmk hmk7 f7=>?_⟩
   rw [hgd,<- sper,d5] at hmk7
   have hpa7:=f7.dk hpa6 (S.D_none hpaH)
   have hfo7:=f7.at hfo6 (by walk_at "w")
   have r7:ck (λv (q:QC)=>∃b dl,v=V.ref b/\H7 b=some (.tup [.ref dl,.int q.1,.int q.2.1,.int q.2.2.1])/\H7 dl=some (.lst (q.2.2.2.map V.int))/\dl≠fo) out (jS ms gd wr c.ts 0 i):=Paired.mapP r6 λv q ⟨b,dl,e,q1,q2,q3⟩=>⟨b,dl,e,f7.at q1 (by walk_at "w"),f7.at q2 (by walk_at "w"),q3⟩
   have f07:=f6.trans f7
   clear hpa6 hfo6 r6 S6
   have hR:(i:Int)+qC ms (i:Int)=(i:Int)+qC ms (i:Int):=rfl
   have hgone:=psA.gone ndm hv
   have hhigh:=λ{p:Nat} (h:p<gd.length)=>psA.high ndm hv h
   have hpl:=psA.len
   have hpm:=λ{q:Int×Int} (h:q∈ps)=>vM (ns:=ms) (gd:=gd) (fst:=0) sg i _ (psA.mem h)
   have hpn:=psA.nodup
   clear psA
   have hdl:=qp ms gd wr c.ts 0 i
   have hs2:=yO ms gd.length (0+(i:Int))
   have hcr:jv ms gd wr c.ts 0 i=xH gd (qc wr c.ts (0+(i:Int))) (jz ms gd.length (0+(i:Int))) (qo ms gd wr c.ts 0 i):=rfl
   have hdn:qo ms gd wr c.ts 0 (i+1)=(xH gd (qc wr c.ts (0+(i:Int))) (jz ms gd.length (0+(i:Int))) (qo ms gd wr c.ts 0 i)).2.2.2:=rfl
   have hshl:(jt (jz ms gd.length (0+(i:Int))) (qo ms gd wr c.ts 0 i)).length=gd.length:=by rw [xG (),hdl]
   have hsh0:∀x∈jt (jz ms gd.length (0+(i:Int))) (qo ms gd wr c.ts 0 i),0<=x:=λx hx=>by
    rcases zY hx with e | e
    ·omega
    ·exact (vM (ns:=ms) (gd:=gd) (fst:=0) sg i x e).1
   have hml:=yW (t:=qc wr c.ts (0+(i:Int))) hshl
   generalize hRR:(i:Int)+qC ms (i:Int)=R at *
   clear hR
   unfold xH at hcr hdn
   generalize hmm:zw (qc wr c.ts (0+(i:Int))) (jt (jz ms gd.length (0+(i:Int))) (qo ms gd wr c.ts 0 i)) gd=m at *
   have hmat:∀{p:Nat},p<gd.length->m[p]? = some (if chg (qc wr c.ts (0+(i:Int))) (gd.getD p 0) > - (jt (jz ms gd.length (0+(i:Int))) (qo ms gd wr c.ts 0 i)).getD p 0 then chg (qc wr c.ts (0+(i:Int))) (gd.getD p 0) else-(jt (jz ms gd.length (0+(i:Int))) (qo ms gd wr c.ts 0 i)).getD p 0):=λ{p} h=>by
    rw [<- hmm]
    unfold zw
    rw [cE,ae (),ae h,ak,ak,ae h,ae (show p<(jt (jz ms gd.length (0+(i:Int))) (qo ms gd wr c.ts 0 i)).length by omega)]
    rfl
   clear hmm
   generalize hgn:((qo ms gd wr c.ts 0 i).drop ((qo ms gd wr c.ts 0 i).length-jz ms gd.length (0+(i:Int)))).sum=gon at *
   generalize jt (jz ms gd.length (0+(i:Int))) (qo ms gd wr c.ts 0 i)=sh at *
   generalize hnw:cK (· + ·) sh m=nw at *
   have hnl:nw.length=gd.length:=by rw [<- hnw,ee];omega
   have hnat:∀{p:Nat},p<gd.length->nw[p]? = some (if sh.getD p 0+chg (qc wr c.ts (0+(i:Int))) (gd.getD p 0) > 0 then sh.getD p 0+chg (qc wr c.ts (0+(i:Int))) (gd.getD p 0) else 0):=λ{p} h=>by
    rw [<- hnw,cE,hmat h,ae (show p<sh.length by omega)]
    show some (sh[p]+_)=_
    have e:sh.getD p 0=sh[p]:=by rw [ak,ae (show p<sh.length by omega)];rfl
    rw [e]
    congr 1
    split <;> split <;> omega
   clear hnw
   have hb2:∀q∈ps,-(2 ^ 20)<=q.2/\q.2<=2 ^ 20:=λq hq=>by have:=hpm hq;omega
   clear hpm
   left
   refine ⟨pa,_,rfl,.inl ⟨hpa7,λob acc hacc=>?_⟩⟩
   have n8:∀{a:Addr} {o:HO},H7 a=some o->(∀kvs,o≠.dK kvs)->(upd H7 pa (.frz ob (.dK (ps.map kvI)))) a=some o:=λh n=>by rw [j5 (jk h hpa7 (n _))];exact h
   have hpa8:(upd H7 pa (.frz ob (.dK (ps.map kvI)))) pa=some (.frz ob (.dK (ps.map kvI))):=j4
   have hmk8:=n8 hmk7 (by walk_at "w")
   have hfo8:=n8 hfo7 (by walk_at "w")
   have r8:ck (λv (q:QC)=>∃b dl,v=V.ref b/\(upd H7 pa (.frz ob (.dK (ps.map kvI)))) b=some (.tup [.ref dl,.int q.1,.int q.2.1,.int q.2.2.1])/\(upd H7 pa (.frz ob (.dK (ps.map kvI)))) dl=some (.lst (q.2.2.2.map V.int))/\dl≠fo) out (jS ms gd wr c.ts 0 i):=Paired.mapP r7 λv q ⟨b,dl,e,q1,q2,q3⟩=>⟨b,dl,e,n8 q1 (by walk_at "w"),n8 q2 (by walk_at "w"),q3⟩
   have f08:FrM c.D H (upd H7 pa (.frz ob (.dK (ps.map kvI)))):=f07.put hpaH
   clear n8 hpa7 hmk7 hfo7 r7 f07 f7 hmk
   generalize upd H7 pa (.frz ob (.dK (ps.map kvI)))=H8 at *
   refine gU (a:=pa) (acc:=acc) (o:=ob) (kvs:=ps.map kvI) (λj σ H9=>∃x:Option V,σ=[x,some (.ref pa),some (.ref mk)]/\H9 acc=some (.lst ((((ps.take j).filter λq=>decide (¬q.1∈xf R gd.length)).map (·.2)).map V.int))/\Ext acc H8 H9) ⟨none,rfl,j4,Ext.put⟩ ?_ ?_ ?_
   ·rintro j σ H9 hj ⟨x,rfl,h9,e9⟩
    exact e9 _ _ hpa8 (j1 hpa8 hacc)
   ·rintro j q σ H9 hq ⟨x,rfl,h9,e9⟩
    obtain ⟨z,hz,rfl⟩:=Xg hq
    have hzm:=ay hz
    have hj:j<ps.length:=(List.getElem?_eq_some_iff.mp hz).1
    have hpa9:=e9 _ _ hpa8 (j1 hpa8 hacc)
    have hl2:((((ps.take j).filter λq=>decide (¬q.1∈xf R gd.length)).map (·.2)).map V.int).length<=100:=by
     rw [aa,aa]
     exact aI (bG _ _) (by rw [aF];omega)
    show vo 0 (V.int z.1) _ _ _
    left
    refine ⟨mk,_,rfl,.inl (SqL.of (e9 _ _ hmk8 (j1 hmk8 hacc))),rfl,zX _,?_⟩
    left
    rw [yI]
    refine y4 (λhin=>?_) (λhin=>?_)
    ·left
     refine ⟨pa,V.int z.2,rfl,?_,_,h9,bS hl2 ⋯,_,rfl,?_,e9.trans Ext.put⟩
     ·have:=zj ps z.1 (aX hzm)
      rw [ve hpn hzm] at this
      rw [<- this]
      exact .inl ⟨_,.inl z.1,.inr ⟨ob,hpa9⟩,rfl,rfl⟩
     ·rw [j4,aT,hz,dw,bT,cN (by rw [decide_eq_true hin]),aq,aq]
      rfl
    ·refine ⟨_,rfl,?_,e9⟩
     rw [aT,hz,dw,bT,cM (by rw [decide_eq_false (λw=>w hin)];exact au),mE,bc]
     exact h9
   rintro σ H9 ⟨x,rfl,h9,e9⟩
   have s9:jg H8 H9:=λc o hc=>e9 c o hc (j1 hc hacc)
   rw [aa,aS] at h9
   left
   refine ⟨acc,_,rfl,SqL.of h9,by rw [aa];exact aI (bG _ _) (),λn hn=>?_,?_⟩
   ·obtain ⟨q,hq,rfl⟩:=List.mem_map.mp hn
    exact hb2 q (List.mem_filter.mp hq).1
   rw [hgone]
   have f09:=f08.trans (FrM.of_same s9)
   have hpa9:=s9 _ _ hpa8
   have hmk9:=s9 _ _ hmk8
   have hfo9:=s9 _ _ hfo8
   have r9:=Paired.mapP r8 (G:=λv (q:QC)=>∃b dl,v=V.ref b/\H9 b=some (.tup [.ref dl,.int q.1,.int q.2.1,.int q.2.2.1])/\H9 dl=some (.lst (q.2.2.2.map V.int))/\dl≠fo) λv q ⟨b,dl,e,q1,q2,q3⟩=>⟨b,dl,e,s9 _ _ q1,s9 _ _ q2,q3⟩
   clear f08 hpa8 hmk8 hfo8 r8 h9 e9 s9 hacc
   left
   intro la hla
   have hlaH:=f09.no hla
   have s10:jg H9 (upd H9 la (.dK [])):=jg.new hla
   left
   refine ⟨by show 2<=sizeLine;decide,λmv H11 hmv hmv11 s11=>?_⟩
   have f010:FrM c.D H (upd H9 la (.dK [])):=f09.put hlaH
   have hmvH:=f010.no hmv
   have hla11:=s11 _ _ (j4 (H:=H9) (a:=la) (o:=.dK []))
   have s911:=s10.trans s11
   have f011:=f010.trans (FrM.of_same s11)
   have hpa11:=s911 _ _ hpa9
   have hmk11:=s911 _ _ hmk9
   have hfo11:=s911 _ _ hfo9
   have r11:=Paired.mapP r9 (G:=λv (q:QC)=>∃b dl,v=V.ref b/\H11 b=some (.tup [.ref dl,.int q.1,.int q.2.1,.int q.2.2.1])/\H11 dl=some (.lst (q.2.2.2.map V.int))/\dl≠fo/\dl≠mv/\b≠mv) λv q ⟨b,dl,e,q1,q2,q3⟩=>⟨b,dl,e,s911 _ _ q1,s911 _ _ q2,q3,j1 (s10 _ _ q2) hmv,j1 (s10 _ _ q1) hmv⟩
   have mvla:mv≠la:=(j1 j4 hmv).symm
   have mkla:mk≠la:=j1 hmk9 hla
   have mkmv:mk≠mv:=j1 (s10 _ _ hmk9) hmv
   have pala:pa≠la:=j1 hpa9 hla
   have pamv:pa≠mv:=j1 (s10 _ _ hpa9) hmv
   have fola:fo≠la:=j1 hfo9 hla
   have fomv:fo≠mv:=j1 (s10 _ _ hfo9) hmv
   clear f09 hpa9 hmk9 hfo9 r9 s10 f010 s911 s11 hla hmv
   left
   refine ⟨⟨_,SqL.of hmk11⟩,?_⟩
   refine QO (K:=K) (a:=mk) (xs:=(xf R gd.length).map V.int) (λp σ H12=>∃x10 x11 x12 x13:Option V,σ=[some (.ref sd),some (.int l),some (.int last),some (.ref pa),some (.ref fo),some (.int (0+(i:Int))),some (.ref mk),some (.int gon),some (.ref la),some (.ref mv),x10,x11,x12,x13]/\H12 la=some (.dK ((kvD R (nw.take p)).map kvI))/\H12 mv=some (.lst [.int ((m.take p).filter λx=>decide (0<x)).sum,.int (((m.take p).filter λx=>decide (0<x)).sum-(m.take p).sum)])/\∀a o,H11 a=some o->a≠la->a≠mv->H12 a=some o) ?_ ?_ ?_ ?_
   ·exact ⟨_,_,_,_,rfl,hla11,hmv11,λa o h _ _=>h⟩
   ·rintro p σ H12 hp' ⟨x10,x11,x12,x13,rfl,hla12,hmv12,e12⟩
    exact SqL.of (e12 _ _ hmk11 mkla mkmv)
   ·rintro p v σ H12 t hv' ⟨x10,x11,x12,x13,rfl,hla12,hmv12,e12⟩ ht
    obtain ⟨one,rfl,hone⟩:=xq hv'
    have hpn':p<gd.length:=by have:=(List.getElem?_eq_some_iff.mp hone).1;rw [zi] at this;exact this
    rw [Qd hpn'] at hone
    have hone:=aM hone
    subst hone
    have tla:t≠la:=(j1 hla12 ht).symm
    have tmv:t≠mv:=(j1 hmv12 ht).symm
    have sT:jg H12 (upd H12 t (.tup [.int (p:Int),.int (R-(p:Int))])):=jg.new ht
    have hla13:=sT _ _ hla12
    have hmv13:=sT _ _ hmv12
    have e13:∀a o,H11 a=some o->a≠la->a≠mv->(upd H12 t (.tup [.int (p:Int),.int (R-(p:Int))])) a=some o:=λa o h n1 n2=>sT _ _ (e12 a o h n1 n2)
    left
    refine ⟨t,_,rfl,SqT.of j4,rfl,?_⟩
    refine ⟨_,_,rfl,_,_,rfl,rfl,?_⟩
    left
    clear hla12 hmv12 e12 ht
    generalize upd H12 t (.tup [.int (p:Int),.int (R-(p:Int))])=H13 at *
    have hpa13:=e13 _ _ hpa11 pala pamv
    have f013:=f011.two hlaH hmvH e13
    have S13:=S.frM f013
    have hw13:=hw.keep (FrM.keepT f013)
    obtain ⟨ga,ega,hga⟩:=gAt S13
    refine ⟨.inl ⟨_,.inr ⟨ob,hpa13⟩⟩,?_⟩
    left
    refine ⟨_,.inl ⟨_,.inl (R-(p:Int)),.inr ⟨ob,hpa13⟩,rfl,rfl⟩,?_⟩
    rw [uG,hhigh hpn']
    left
    refine ⟨sd,c,0+(i:Int),wr,rfl,S13,hw13,t1,t2,λtr htr=>?_⟩
    left
    refine ⟨sd,.ref c.gl,rfl,by rw [<- ym c.p c.q c.sg c.gl c.ll];exact qK.k (k:=.inr "grounds") S13.sd,?_⟩
    left
    refine ⟨_,_,_,_,rfl,rfl,SqL.of S13.gl,ega,?_⟩
    left
    refine ⟨_,_,_,_,rfl,rfl,SqL.of hga,xg (v:=V.int (gd.getD p 0)) () (by rw [bb,aB,ak,ae hpn'];rfl),?_⟩
    left
    refine ⟨tr,_,_,rfl,htr,?_⟩
    left
    have hm':=hmat hpn'
    have hn':=hnat hpn'
    have hh0:0<=sh.getD p 0:=by
     rw [ak,ae (show p<sh.length by omega)]
     exact hsh0 _ (bP _)
    generalize chg (qc wr c.ts (0+(i:Int))) (gd.getD p 0)=wsh at *
    generalize sh.getD p 0=hg at *
    refine ⟨_,_,rfl,?_⟩
    left
    refine ⟨la,_,rfl,kT.k (k:=.inl (R-(p:Int))) hla13 (by rw [aa,wu,aF];exact ja ()),?_⟩
    rw [y3 _ (ki λz=>by have:=Xp z;rw [aF] at this;omega)]
    have ekv:(kvD R (nw.take p)).map kvI++[((.inl (R-(p:Int)):Key),V.int (if hg+wsh > 0 then hg+wsh else 0))]=(kvD R (nw.take (p+1))).map kvI:=by
     rw [aT,hn',dw,Q9,aq,aF,eX ()]
     rfl
    have ekv:(kvD R (nw.take p)).map kvI++[((.inl (R-(p:Int)):Key),V.int (if hg+wsh > 0 then hg+wsh else 0))]=(kvD R (nw.take (p+1))).map kvI:=ekv
    rw [ekv]
    have hfm:=Yt hm'
    have hsm:=YM hm'
    have hval:qi ((kvD R (nw.take (p+1))).map kvI) (.inl (R-(p:Int)))=some (.int (if hg+wsh > 0 then hg+wsh else 0)):=by
     rw [<- ekv]
     exact (Ja _ _ _ _ (ki λz=>by have:=Xp z;rw [aF] at this;omega)).trans (if_pos rfl)
    have hmv14:(upd H13 la (.dK ((kvD R (nw.take (p+1))).map kvI))) mv=some (.lst [.int ((m.take p).filter λx=>decide (0<x)).sum,.int (((m.take p).filter λx=>decide (0<x)).sum-(m.take p).sum)]):=by rw [j5 mvla];exact hmv13
    have e14:∀a o,H11 a=some o->a≠la->a≠mv->(upd H13 la (.dK ((kvD R (nw.take (p+1))).map kvI))) a=some o:=λa o h n1 n2=>by rw [j5 n1];exact e13 a o h n1 n2
    have hla14:(upd H13 la (.dK ((kvD R (nw.take (p+1))).map kvI))) la=some (.dK ((kvD R (nw.take (p+1))).map kvI)):=j4
    clear hla13 hmv13 e13 ekv
    generalize upd H13 la (.dK ((kvD R (nw.take (p+1))).map kvI))=H14 at *
    left
    have dg:qK H14 la (.int (R-(p:Int))) (some (.int (if hg+wsh > 0 then hg+wsh else 0))):=by
     rw [<- hval]
     exact qK.k (k:=.inl (R-(p:Int))) hla14
    refine dz ⟨_,rfl,?_⟩
    by_cases hneg:wsh<0
    ·rw [if_pos (decide_eq_true hneg)]
     left
     refine ⟨la,_,rfl,dg,?_⟩
     left
     refine ⟨_,_,_,_,rfl,?_,?_,λa o h n1 n2=>by rw [j5 n2];exact e14 a o h n1 n2⟩
     ·rw [j5 mvla.symm]
      exact hla14
     ·obtain ⟨q1,q2⟩:=Yn (A:=((m.take p).filter λx=>decide (0<x)).sum) (S:=(m.take p).sum) hh0 hneg
      rw [j4,hfm,hsm,q1,q2]
      rfl
    ·rw [if_neg (by rw [decide_eq_false hneg];exact au)]
     left
     refine ⟨la,_,rfl,dg,?_⟩
     left
     refine ⟨_,_,_,_,rfl,?_,?_,λa o h n1 n2=>by rw [j5 n2];exact e14 a o h n1 n2⟩
     ·rw [j5 mvla.symm]
      exact hla14
     ·obtain ⟨q1,q2⟩:=ZP (A:=((m.take p).filter λx=>decide (0<x)).sum) (S:=(m.take p).sum) hh0 hneg
      rw [j4,hfm,hsm,q2,q1]
      rfl
   rintro σ H12 ⟨x10,x11,x12,x13,rfl,hla12,hmv12,e12⟩
   rw [aa,zi,bp ()] at hla12
   rw [aa,zi,bp ()] at hmv12
   have hmk12:=e12 _ _ hmk11 mkla mkmv
   have hfo12:=e12 _ _ hfo11 fola fomv
   have f012:=f011.two hlaH hmvH e12
   have r12:=Paired.mapP r11 (G:=λv (q:QC)=>∃b dl,v=V.ref b/\H12 b=some (.tup [.ref dl,.int q.1,.int q.2.1,.int q.2.2.1])/\H12 dl=some (.lst (q.2.2.2.map V.int))/\dl≠fo) λv q ⟨b,dl,e,q1,q2,q3,q4,q5⟩=>⟨b,dl,e,e12 _ _ q1 (jk q1 hla11 (by walk_at "z")) q5,e12 _ _ q2 (jk q2 hla11 (by walk_at "z")) q4,q3⟩
   clear e12 hmk11 hfo11 r11 hpa11 f011 hla11 hmv11
   left
   refine ⟨.inl ⟨rfl,_,SqL.of hfo12⟩,?_⟩
   left
   refine ⟨⟨_,SqL.of hmk12⟩,λdl hdl0=>?_⟩
   refine jK (K:=K) (a:=mk) (xs:=(xf R gd.length).map V.int) (acc:=dl) (λj σ H13=>∃x:Option V,σ=[x,some (.ref la)]/\H13 dl=some (.lst ((nw.take j).map V.int))/\Ext dl H12 H13) ?_ ?_ ?_ ?_
   ·exact ⟨none,rfl,j4,Ext.put⟩
   ·rintro j σ H13 hj ⟨x,rfl,h13,e13⟩
    exact SqL.of (e13 _ _ hmk12 (j1 hmk12 hdl0))
   ·rintro j v σ H13 hv' ⟨x,rfl,h13,e13⟩
    obtain ⟨one,rfl,hone⟩:=xq hv'
    have hj:j<gd.length:=by have:=(List.getElem?_eq_some_iff.mp hone).1;rw [zi] at this;exact this
    rw [Qd hj] at hone
    have hone:=aM hone
    subst hone
    have hnj:nw[j]? = some (nw.getD j 0):=by rw [ak,ae ()];rfl
    have hval:qi ((kvD R nw).map kvI) (.inl (R-(j:Int)))=some (.int (nw.getD j 0)):=by
     have hin:R-(j:Int)∈(kvD R nw).map (·.1):=List.mem_map.mpr ⟨(R-(j:Int),nw.getD j 0),ay (i:=j) (by rw [JU,hnj];rfl),rfl⟩
     rw [zj _ _ hin,JM,if_pos (),show (R-(R-(j:Int))).toNat=j by omega]
    left
    refine ⟨la,_,rfl,(by rw [<- hval];exact qK.k (k:=.inl (R-(j:Int))) (e13 _ _ hla12 (j1 hla12 hdl0))),?_⟩
    refine ⟨_,h13,by rw [aa,aF];exact ja (),_,rfl,?_,e13.trans Ext.put⟩
    rw [j4,aT,hnj,aq]
    rfl
   rintro σ H13 ⟨x,rfl,h13,e13⟩
   have s13:jg H12 H13:=λc o hc=>e13 c o hc (j1 hc hdl0)
   rw [aa,zi,bp ()] at h13
   left
   refine ⟨_,_,_,_,rfl,rfl,SqL.of (s13 _ _ hmv12),rfl,?_⟩
   left
   refine ⟨_,_,_,_,rfl,rfl,SqL.of (s13 _ _ hmv12),rfl,?_⟩
   left
   refine ⟨by show 4<=sizeLine;decide,λtq H14 htq htq4 s14=>?_⟩
   have s1214:=s13.trans s14
   have hfo14:=s1214 _ _ hfo12
   refine ⟨_,_,_,rfl,rfl,hfo14,ja (),?_⟩
   have tqf:tq≠fo:=(j1 (s13 _ _ hfo12) htq).symm
   have dlf:dl≠fo:=(j1 hfo12 hdl0).symm
   refine ⟨_,_,_,_,_,_,_,_,_,la,kvD R nw,out++[.ref tq],rfl,hlaH,?_,.inr ⟨i,rfl,by rw [hRR,hdn]⟩,j4,by rw [aw,hl6];rfl,?_,(f012.trans (FrM.of_same s1214)).put hfoH⟩
   ·rw [j5 (jk (s1214 _ _ hla12) hfo14 (by walk_at "z"))]
    exact s1214 _ _ hla12
   ·rw [yp,hcr]
    refine cU (Paired.mapP r12 λv q ⟨b,dl',e,q1,q2,q3⟩=>⟨b,dl',e,?_,?_,q3⟩) ⟨tq,dl,rfl,by rw [j5 tqf];exact htq4,by rw [j5 dlf];exact s14 _ _ h13,dlf⟩
    ·rw [j5 (jk (s1214 _ _ q1) hfo14 (by walk_at "z"))]
     exact s1214 _ _ q1
    ·rw [j5 q3]
     exact s1214 _ _ q2
  ·rintro σ H6 ⟨x5,x6,x7,x8,x9,x10,x11,x12,x13,pa,ps,out,rfl,hpaH,hpa6,psA,hfo6,hl6,r6,f6⟩
   left
   exact k fo out H6 hfoH hfo6 (Paired.mapP r6 λv q ⟨b,dl,e,q1,q2,_⟩=>⟨b,dl,e,q1,q2⟩) f6
theorem kL.same {H H':Hp}{out:List V}{qs:List QC}(h:kL H out qs) (s:jg H H'):kL H' out qs:=Paired.mapP h λ_ _ ⟨b,dl,e,q,d⟩=>⟨b,dl,e,s _ _ q,s _ _ d⟩
theorem VM {L b p:Addr}{H:Hp}{ns:List Int}(B:qh L H b) (h:H p=some (.lst (ns.map V.int))):p≠b:=λz=>by
 subst z
 obtain ⟨_,_,_,_,_,hb,_⟩:=B
 rw [hb] at h
 cases ns with
 | nil=>cases h
 | cons x r=>cases h
theorem kL.ext {L b:Addr}{H H':Hp}{out:List V}{qs:List QC}(h:kL H out qs) (B:qh L H b) (e:Ext b H H'):kL H' out qs:=Paired.mapP h λ_ _ ⟨x,dl,e1,q,d⟩=>⟨x,dl,e1,e _ _ q (B.ne_tup q),e _ _ d (VM B d)⟩
theorem Yj (f:Nat->QC) (j:Nat) {n y:Nat}(h:y+1<=n):((((aK n).map f).take (y+1)).map (jM j)).sum=xQ (λi=>jM j (f i)) (y+1):=by
 rw [<- lI,mF,eX h,bz]
 rfl
theorem ZW {k:Nat}(h:k<3) (q:QC) (dl:Addr):atI [.ref dl,.int q.1,.int q.2.1,.int q.2.2.1] ((k:Int)+1)=some (V.int (jM k q)):=by
 match k,h with
 | 0,_=>rfl
 | 1,_=>rfl
 | 2,_=>rfl
theorem zu:FnScope ["_law_script","_law_box_here","_law_scene_here","_law_ice","_law_lane","_law_news_here","_law_last","_law_rows","_law_some","_law_year_here","_law_due"] ["_law_script"] (j7 vn):=by walk_at "s"
theorem WT {f C Pt:Addr}{fd:FuncData}(nb:Nb2 mg)
  (c_law_box:Cal P w K mg base 1 "_law_box" ["_law_script"] (Vl K)) (c_law_take:Cal P w K mg base 2 "_law_take" ["_law_box_here","_law_size"] zy) (c_law_scene:Cal P w K mg base 5 "_law_scene" ["_law_box_here"] Zh) (c_law_made:Cal P w K mg base 10 "_law_made" ["_law_scene_here"] (YO C Pt))
  (c_law_news:Cal P w K mg base 1 "_law_news" ["_law_scene_here","_law_lane"] YS) (c_law_depths:Cal P w K mg base 3 "_law_depths" ["_law_scene_here","_law_lane","_law_last"] Qf)
  (c_law_alike:Cal P w K mg base 3 "_law_alike" ["_law_found","_law_due"] (Ua 2)) (c_so_far:CalX P w K mg base 5 "so_far" ["ice","lane","year"] (JS C))
  (F:Fun K "law" "law" vn f fd):FnOk P w K mg base CX0 11 f fd ["_law_script"] (XE K Pt):=by
 refine F.ok zu (λvs H Q E h=>?_) (λcdv A outer s H vs Q E hr h=>?_)
 ·obtain ⟨a,ns,rfl,_⟩:=h
  rfl
 ·obtain ⟨a,ns,rfl,hS,h63,hPt,k⟩:=h
  have T0:qB H Pt:=.inl hPt
  refine ⟨_,(j6 (jG 1 zu.nd (jf c_law_box (hr.mono ⋯) rfl (j0 (pv 0) j2)))
   (j6 (jG 2 zu.nd (jf c_law_scene (hr.mono ⋯) rfl (j0 (pv 1) j2)))
   (j6 (jG 3 zu.nd (jf c_law_made (hr.mono ⋯) rfl (j0 (pv 2) j2)))
   (j6 (jG 4 zu.nd (jf c_law_take (hr.mono ⋯) rfl (j0 (pv 1) (j0 (jc (jh K) rfl nb.b_len ba (j0 (jE (jQ hr) (pv 2) jJ (λ_ _=>rfl)) j2)) j2))))
   (j6 (jG 5 zu.nd (ji jy (jf c_law_news (hr.mono ⋯) rfl (j0 (pv 2) (j0 (pv 4) j2))) (jc (jh K) rfl nb.b_len ba (j0 (jn (je K) (jE (jQ hr) (pv 2) jJ (λ_ _=>rfl)) (pv 4) (λ_ _=>rfl)) j2))))
   (j6 (jG 6 zu.nd (ji jy (ji jy (pv 5) j8) (jf c_law_take (hr.mono ⋯) rfl (j0 (pv 1) (j0 j8 j2)))))
   (j6 (qW (i:=7) zu.nd rfl (dz rfl) (jf c_law_depths (hr.mono ⋯) rfl (j0 (pv 2) (j0 (pv 4) (j0 (pv 6) j2)))))
   (j6 (jG 8 zu.nd (jU (j0 j8 (j0 (jc (zT rfl) rfl nb.b_max lS (j0 j8 (j0 (ji xn (pv 5) j8) j2))) (j0 (pv 5) (j0 (ji jy (pv 5) j8) (j0 (ji jy (pv 5) j8) (j0 (pv 6) (j0 (jf c_law_take (hr.mono ⋯) rfl (j0 (pv 1) (j0 (ji jy (pv 6) j8) j2))) (j0 (jf c_law_take (hr.mono ⋯) rfl (j0 (pv 1) (j0 (ji jy (pv 6) j8) j2))) j2))))))))))
   (wA (xD bI rfl (jL K (pv 8)) (jd (i:=9) zu.nd rfl (dz rfl)) (j6 (VG (j:=10) (x0:="_law_at") (osc:=(j7 vn)) (ON:=["_law_script","_law_box_here","_law_scene_here","_law_ice","_law_lane","_law_news_here","_law_last","_law_rows","_law_some","_law_year_here","_law_due"]) (N:=["_law_at","_law_rows","_law_year_here"]) (own:=1) (caps:=[7,9]) ⟨rfl,∅,∅,∅,∅,rfl,∅⟩ zu.nd rfl (aW rfl) rfl rfl rfl (vd K (xN (j0 j8 (j0 j8 (j0 j8 j2))))) (λ_ _ _ _ _=>(jd (i:=0) (show aR (["_law_at","_law_rows","_law_year_here"]:List Str) by decide +kernel) rfl (dz rfl))) (λ_ _ _ _ _=>jq) (λ_ _ _ _ _=>(jc (xk K rfl) rfl nb.b_sum i7 (j0 (jA (osc:=({kind:=.function,names:=[((".0":Str),.local),(("_law_at":Str),.cell),(("sum":Str),.globalImplicit),(("_law_rows":Str),.cell),(("_law_year_here":Str),.cell)],isGenerator:=false,isCoroutine:=false}:Scope)) (ON:=["_law_at","_law_rows","_law_year_here"]) (N:=["_law_row_here","_law_at"]) (own:=1) (caps:=[0]) ⟨rfl,∅,∅,∅,rfl,∅⟩ rfl rfl rfl (jL K (yS (y6 K) (pv 1) ui (um (ji jy (pv 2) j8)))) (λ_ _ _ _ _=>(jd (i:=0) (show aR (["_law_row_here","_law_at"]:List Str) by decide +kernel) rfl (aW rfl))) (λ_ _ _ _ _=>jq) (λ_ _ _ _ _=>(jn (qM K) (pv 0) (pv 1) (λ_ _=>rfl)))) j2))))
   (j9 (qq (xw (yw (jf c_law_alike (hr.mono ⋯) rfl (j0 (jf c_so_far.cal (hr.mono ⋯) rfl (j0 (pv 3) (j0 (pv 4) (j0 (pv 9) j2)))) (j0 (xN (j0 (jn (je K) (pv 10) j8 (λ_ _=>rfl)) (j0 (jn (je K) (pv 10) j8 (λ_ _=>rfl)) (j0 (jn (je K) (pv 10) j8 (λ_ _=>rfl)) (j0 (jc (xk K rfl) rfl nb.b_sum i7 (j0 (jn (qM K) (jn (je K) (pv 7) (pv 9) (λ_ _=>rfl)) j8 (λ_ _=>rfl)) j2)) j2))))) j2))))) (j9 (jj gK)) jF))))
   (j9 (jj gK))))))))))),?_⟩
  left
  refine ⟨a,ns,rfl,hS,λL b H1 hb B1 s1=>?_⟩
  have T1:=T0.same s1
  left
  refine ⟨L,b,rfl,B1,λsd H2 c B2 X2 S2 O=>?_⟩
  have T2:=VU B1 X2 T1
  left
  refine ⟨sd,b,c,rfl,S2,O,T2,λp H3 g I3 F3 R3 T3 er et es ek el ld ny nd=>?_⟩
  have W3:Lw C L b sd p c g H2 H3:=Lw.start S2 O B2 T2 I3 F3 R3
  have kk:Lk c g:=⟨er,et,es,ek,el,ld,ny,nd⟩
  clear I3 R3 T3 er et es ek el ld ny nd
  have hw1:1<=c.ws.length:=by
   rw [O.ro.length]
   exact gW (qe O.gr.ok) O.l1
  have hw6:c.ws.length<=6:=by rw [O.ro.length];exact O.gr.heads
  have hg30:∀w∈c.ws,1<=(jb c.rs w).length/\(jb c.rs w).length<=30:=λw hw=>⟨wY O.gr O.ro hw,(wd (O.gr.good O.l1 O.l8)).2.2.2 c.ws O.ro w hw⟩
  have hll:g.lds.length=g.slopes.length:=by rw [kk.ll,O.ldl,kk.sl,aa]
  have t1:=O.t1
  have t2:=O.t2
  obtain ⟨wr,hwr⟩:=zJ.of W3.S.sk
  have wgood:=hwr.good W3.S.sk
  have sgood:=λy=>Vo wgood O.tg t1 y
  have hzl:c.zs.length=c.ws.length:=(aY W3.S.gi).trans (aa _)
  have hsl:g.slopes.length=c.ws.length:=by rw [kk.sl,aa]
  have hgd:∀{H':Hp},ScAt H' sd c->qK H' sd (.str "grounds") (some (.ref c.gl)):=λS'=>by rw [<- ym c.p c.q c.sg c.gl c.ll];exact qK.k (k:=.inr "grounds") S'.sd
  have k3:=O.k3
  have hwk:=hwr.keys
  have soC:∀(H3:Hp) (l:Int) (y:Nat) (wy:List Int) (da:Addr) (dn ms:List (Int×Int)) (Q':VK),Lw C L b sd p c g H2 H3->zJ H3 c.sk wr->LaneF c g l wy da dn->ms.Perm dn->(ms.map (·.1)).Pairwise (· <= ·)->(∀z,0<=jH ms z)->(y:Int)<=10 ^ 40->(∀t H4,H3 t=none->H4 t=some (.tup [.int (xQ (λi=>jM 0 (jv ms (jb c.rs wy) wr c.ts 0 i)) (y+1)),.int (xQ (λi=>jM 1 (jv ms (jb c.rs wy) wr c.ts 0 i)) (y+1)),.int (xQ (λi=>jM 2 (jv ms (jb c.rs wy) wr c.ts 0 i)) (y+1)),.int (qo ms (jb c.rs wy) wr c.ts 0 (y+1)).sum])->jg H3 H4->Q' (.ref t) H4)->JS C [.ref p,.int l,.int (y:Int)] H3 Q' E0:=λH3 l y wy da dn ms Q' W' hw' LF hp hs hv y1 kq=>by
   have g30:=LF.g30
   have g1:=LF.g1
   obtain ⟨M,hM1,hMi,hMa⟩:=Zk (c.sk.map (·.1)++dn.map (·.1)) λx hx=>by
    rcases List.mem_append.mp hx with h | h
    ·obtain ⟨z,hz,rfl⟩:=List.mem_map.mp h
     exact (O.k2 z hz).1
    ·obtain ⟨z,hz,rfl⟩:=List.mem_map.mp h
     exact (LF.b z hz).1
   have hMs:∀z∈c.sk,z.1<=M:=λz hz=>hMa _ (d6 _ (aX hz))
   have hMd:∀q∈dn,q.1<=M:=λz hz=>hMa _ (aE _ (aX hz))
   have hMi:M = -1\/M∈c.sk.map (·.1)\/M∈dn.map (·.1):=hMi.imp id List.mem_append.mp
   have hM99:M<=99:=by
    rcases hMi with h | h | h
    ·omega
    ·obtain ⟨z,hz,rfl⟩:=List.mem_map.mp h
     exact (O.k2 z hz).2
    ·obtain ⟨z,hz,rfl⟩:=List.mem_map.mp h
     have:=LF.b z hz
     omega
   have hMw:∀q∈wr,q.1<=M:=λq hq=>by
    have:q.1∈c.sk.map (·.1):=by rw [<- hwk];exact aX hq
    obtain ⟨z,hz,e⟩:=List.mem_map.mp this
    rw [<- e]
    exact hMs z hz
   refine ⟨p,g,l,y,M,c.sk,wr,dn,ms,jb c.rs wy,rfl,W'.I,aY W'.I.rows,hll,kk.kv,(),(λz hz=>(O.k2 z hz).1),hw',by rw [kk.rows];exact t1,by rw [kk.rows];omega,by rw [kk.rows];exact sgood,LF.at_,(λq hq=>(LF.b q hq).1),hp,hs,LF.sl,LF.g1,(),hM1,hMi,hMs,hMd,hM99,(),y1,λt H' st' rows' e1 e2=>?_⟩
   rw [kk.rows] at *
   obtain ⟨q1,q2⟩:=ZY (wr:=wr) (ts:=c.ts) hv g1 (λq hq=>hMd q (hp.mem_iff.mp hq)) hMw hM1 t1 e1 y
   rw [e2,q1,q1,q1,q2]
   exact kq t H'
  left
  refine ⟨sd,.ref c.gl,rfl,hgd W3.S,?_⟩
  left
  refine ⟨c.gl,_,rfl,.inl (SqL.of W3.S.gl),?_⟩
  rw [hzl]
  left
  refine ⟨L,b,_,rfl,W3.B,⟨(),()⟩,λln H4 ln0 ln1 B4 X4=>?_⟩
  have W4:=W3.take B4 X4
  have hw4:=hwr.keep (zf W3.B X4)
  clear W3 hwr
  obtain ⟨wy,da,dn,LF⟩:=kk.lane O ln0 ln1
  obtain ⟨ms,hp,hs⟩:=gh dn
  have l10:=LF.l10
  have g30:=LF.g30
  have g1:=LF.g1
  have hv:∀z,0<=jH ms z:=λz=>(wv (λq hq=>by have:=LF.b q (hp.mem_iff.mp hq);omega) z).1
  left
  refine ⟨sd,c,ln,da,dn,rfl,W4.S,ln0,LF.cd,(),(),λM H5 hM1 hMi hMs hMd s5=>?_⟩
  have hM99:M<=99:=by
   rcases hMi with h | h | h
   ·omega
   ·obtain ⟨z,hz,rfl⟩:=List.mem_map.mp h
    exact (O.k2 z hz).2
   ·obtain ⟨z,hz,rfl⟩:=List.mem_map.mp h
    have:=LF.b z hz
    omega
  have W5:=W4.same s5
  have hw5:=hw4.keep (jm.same s5)
  clear W4 hw4 hMi hMs hMd
  obtain ⟨ga,ega,hga⟩:=W5.S.gnd LF
  left
  refine ⟨sd,.ref c.gl,rfl,hgd W5.S,?_⟩
  left
  refine ⟨_,_,_,_,rfl,rfl,SqL.of W5.S.gl,ega,?_⟩
  left
  refine ⟨ga,_,rfl,.inl (SqL.of hga),?_⟩
  rw [aa]
  left
  refine ⟨L,b,_,rfl,W5.B,⟨⋯,⋯⟩,λv6 H6 v60 v61 B6 X6=>?_⟩
  have W6:=W5.take B6 X6
  have hw6':=hw5.keep (zf W5.B X6)
  clear W5 hw5 hga
  left
  simp only [kY,bc]
  obtain ⟨nw,enw⟩:∃nw,M+((jb c.rs wy).length:Int)=nw:=⟨_,rfl⟩
  rw [enw]
  obtain ⟨la,ela⟩:∃la:Nat,nw+2+v6=(la:Int):=⟨(nw+2+v6).toNat,()⟩
  rw [ela]
  refine ⟨sd,c,g,ln,(la:Int),wy,da,dn,ms,wr,rfl,W6.S,LF,hp,hw6',t1,(),sgood,(),(),λro out H7 hro hro7 r7 f7=>?_⟩
  rw [show ((la:Int)+1).toNat=la+1 by omega] at r7
  have rob:=W6.B.ne hro
  have W7:=W6.fr f7
  have hw7:=hw6'.keep (FrM.keepT f7)
  clear W6 hw6'
  have hol:out.length=la+1:=(aY r7).trans (by unfold jS;rw [aa,bF])
  left
  refine ⟨_,_,rfl,?_⟩
  left
  simp only [kY,bc]
  refine ⟨L,b,_,rfl,W7.B,⟨(),()⟩,λv8 H8 v80 v81 B8 X8=>?_⟩
  have W8:=W7.take B8 X8
  have hw8:=hw7.keep (zf W7.B X8)
  have hro8:=X8 _ _ hro7 rob
  have r8:=r7.ext W7.B X8
  clear W7 hw7 hro7 r7
  left
  simp only [kY,bc]
  refine ⟨L,b,_,rfl,W8.B,⟨(),()⟩,λv9 H9 v90 v91 B9 X9=>?_⟩
  have W9:=W8.take B9 X9
  have hw9:=hw8.keep (zf W8.B X9)
  have hro9:=X9 _ _ hro8 rob
  have r9:=r8.ext W8.B X9
  clear W8 hw8 hro8 r8
  left
  refine ⟨by show 8<=sizeLine;decide,λso H10 hso hso0 s10=>?_⟩
  have W10:=W9.same s10
  have hw10:=hw9.keep (jm.same s10)
  have hro10:=s10 _ _ hro9
  have r10:=r9.same s10
  clear W9 hw9 hro9 r9
  obtain ⟨ys,eys,hyl,hyb⟩:∃ys:List Int,[V.int 0,V.int (if nw-1 > 0 then nw-1 else 0),V.int nw,V.int (nw+1),V.int (nw+2),V.int (la:Int),V.int v8,V.int v9]=ys.map V.int/\ys.length=8/\∀y∈ys,0<=y/\y<=(la:Int):=by
   refine ⟨[0,(if nw-1 > 0 then nw-1 else 0),nw,nw+1,nw+2,(la:Int),v8,v9],rfl,rfl,λy hy=>?_⟩
   simp only [dW,eE,or_false] at hy
   rcases hy with rfl | rfl | rfl | rfl | rfl | rfl | rfl | rfl
   ·omega
   ·split <;> omega
   all_goals omega
  have hso0:H10 so=some (.lst (ys.map V.int)):=by rw [<- eys];exact hso0
  clear eys
  left
  refine ⟨λσ H9=>True,?_,?_⟩
  ·left
   refine ⟨⟨_,SqL.of hso0⟩,?_⟩
   refine kJ (K:=K) (a:=so) (xs:=ys.map V.int) (λi σ H11=>∃v9' v10':Option V,σ=[some (.ref a),some (.ref b),some (.ref sd),some (.ref p),some (.int ln),some (.int nw),some (.int (la:Int)),some (.ref ro),some (.ref so),v9',v10']/\jg H10 H11) ?_ ?_ ?_ ?_
   ·exact ⟨_,_,rfl,jg.refl _⟩
   ·rintro i σ H11 hi ⟨v9',v10',rfl,s11⟩
    exact SqL.of (s11 _ _ hso0)
   ·rintro i v σ H11 hv' ⟨v9',v10',rfl,s11⟩
    obtain ⟨y,rfl,hy⟩:=xq hv'
    obtain ⟨y0,y1⟩:=hyb y (ay hy)
    obtain ⟨yn,rfl⟩:∃yn:Nat,y=(yn:Int):=⟨y.toNat,()⟩
    have hro11:=s11 _ _ hro10
    have r11:=r10.same s11
    left
    refine ⟨by show 3<=sizeLine;decide,λtp H12 htp htp2 s12=>?_⟩
    have hro12:=s12 _ _ hro11
    have r12:=r11.same s12
    left
    refine ⟨⟨_,SqT.of htp2⟩,λacc hacc=>?_⟩
    have htp2:H12 tp=some (.tup ([1,2,3].map V.int)):=htp2
    refine kE (K:=K) (a:=tp) (xs:=[1,2,3].map V.int) (acc:=acc) (λj σ H13=>∃x:Option V,σ=[x,some (.ref ro),some (.int (yn:Int))]/\H13 acc=some (.lst ((aK j).map λk=>V.int (xQ (λi=>jM k (jv ms (jb c.rs wy) wr c.ts 0 i)) (yn+1))))/\Ext acc H12 H13) ?_ ?_ ?_ ?_
    ·exact ⟨none,rfl,j4,Ext.put⟩
    ·rintro j σ H13 hj ⟨x,rfl,h13,e13⟩
     exact SqT.of (e13 _ _ htp2 (j1 htp2 hacc))
    ·rintro j v σ H13 hv2 ⟨x,rfl,h13,e13⟩
     have hj3:j<3:=(List.getElem?_eq_some_iff.mp hv2).1
     obtain rfl:v=V.int ((j:Int)+1):=by
      match j,hj3 with
      | 0,_=>exact (aM hv2).symm
      | 1,_=>exact (aM hv2).symm
      | 2,_=>exact (aM hv2).symm
     have s13:jg H12 H13:=λc o hc=>e13 c o hc (j1 hc hacc)
     left
     refine ⟨_,_,rfl,SqL.of (s13 _ _ hro12),λa4 H14 ha4 ha44 s14=>?_⟩
     rw [show (yn:Int)+1=((yn+1:Nat):Int) by omega,Za] at ha44
     have r14:=Paired.takeP (yn+1) (r12.same (s13.trans s14))
     refine ⟨a4,rfl,⟨_,SqL.of ha44⟩,λac2 hac2=>?_⟩
     have hql:(out.take (yn+1)).length=((jS ms (jb c.rs wy) wr c.ts 0 (la+1)).take (yn+1)).length:=aY r14
     have hqle:(out.take (yn+1)).length<=900:=by rw [aF];omega
     refine jK (K:=K) (a:=a4) (xs:=out.take (yn+1)) (acc:=ac2) (λm σ H15=>∃x0:Option V,σ=[x0,some (.int ((j:Int)+1))]/\H15 ac2=some (.lst (((((jS ms (jb c.rs wy) wr c.ts 0 (la+1)).take (yn+1)).take m).map (jM j)).map V.int))/\Ext ac2 H14 H15) ?_ ?_ ?_ ?_
     ·exact ⟨none,rfl,j4,Ext.put⟩
     ·rintro m σ H15 hm ⟨x0,rfl,h15,e15⟩
      exact SqL.of (e15 _ _ ha44 (j1 ha44 hac2))
     ·rintro m v σ H15 hv3 ⟨x0,rfl,h15,e15⟩
      obtain ⟨q,hq,bq,dl,rfl,hbq,hdl⟩:=Paired.get r14 hv3
      have hm:=(List.getElem?_eq_some_iff.mp hv3).1
      left
      refine ⟨bq,_,(j:Int)+1,_,rfl,rfl,SqT.of (e15 _ _ hbq (j1 hbq hac2)),ZW hj3 q dl,?_⟩
      refine ⟨_,h15,by rw [aa,aa,aF];exact ja (),_,rfl,?_,e15.trans Ext.put⟩
      generalize (jS ms (jb c.rs wy) wr c.ts 0 (la+1)).take (yn+1)=cq at hq ⊢
      rw [j4,aT,hq,aq,aq]
      rfl
     rintro σ H15 ⟨x0,rfl,h15,e15⟩
     have s15:jg H14 H15:=λc o hc=>e15 c o hc (j1 hc hac2)
     rw [hql,aS] at h15
     left
     refine ⟨ac2,_,rfl,SqL.of h15,by rw [aa,<- hql];omega,λn hn=>?_,?_⟩
     ·obtain ⟨q,hq,rfl⟩:=List.mem_map.mp hn
      obtain ⟨i,hi,rfl⟩:=List.mem_map.mp (dN hq)
      exact gS sgood () (by have:=List.mem_range.mp hi;omega)
     have esum:(((jS ms (jb c.rs wy) wr c.ts 0 (la+1)).take (yn+1)).map (jM j)).sum=xQ (λi=>jM j (jv ms (jb c.rs wy) wr c.ts 0 i)) (yn+1):=Yj _ j ()
     rw [esum]
     have s1315:=s14.trans s15
     refine ⟨_,s1315 _ _ h13,by rw [aa,bF];exact ja (),_,rfl,?_,λc o hc n=>by rw [j5 n];exact s1315 _ _ (e13 c o hc n)⟩
     rw [j4,cv,aq]
     rfl
    rintro σ H13 ⟨x,rfl,h13,e13⟩
    have s13:jg H12 H13:=λc o hc=>e13 c o hc (j1 hc hacc)
    have h13:H13 acc=some (.lst [.int (xQ (λi=>jM 0 (jv ms (jb c.rs wy) wr c.ts 0 i)) (yn+1)),.int (xQ (λi=>jM 1 (jv ms (jb c.rs wy) wr c.ts 0 i)) (yn+1)),.int (xQ (λi=>jM 2 (jv ms (jb c.rs wy) wr c.ts 0 i)) (yn+1))]):=h13
    have s1013:=s11.trans (s12.trans s13)
    left
    simp only [kY,bc]
    refine soC H13 ln yn wy da dn ms _ (W10.same s1013) (hw10.keep (jm.same s1013)) LF hp hs hv (pe y1 ()) λf1 H14 hf1 hf14 s14=>?_
    have h14:=s14 _ _ h13
    have hro14:=(s1013.trans s14) _ _ hro10
    have hyl':yn<out.length:=()
    obtain ⟨q,hq,bq,dl,eb,hbq,hdl⟩:=Paired.get (r10.same (s1013.trans s14)) (ae hyl')
    have hq:jv ms (jb c.rs wy) wr c.ts 0 yn=q:=by
     unfold jS at hq
     rw [aB,fD ()] at hq
     exact aM hq
    have hdq:q.2.2.2=qo ms (jb c.rs wy) wr c.ts 0 (yn+1):=by rw [<- hq];rfl
    have hdlen:=qp ms (jb c.rs wy) wr c.ts 0 (yn+1)
    have hdb:=vM (ns:=ms) (gd:=jb c.rs wy) (fst:=0) sgood (yn+1)
    rw [hdq] at hdl
    generalize qo ms (jb c.rs wy) wr c.ts 0 (yn+1)=dep at *
    generalize xQ (λi=>jM 0 (jv ms (jb c.rs wy) wr c.ts 0 i)) (yn+1)=S0 at *
    generalize xQ (λi=>jM 1 (jv ms (jb c.rs wy) wr c.ts 0 i)) (yn+1)=S1 at *
    generalize xQ (λi=>jM 2 (jv ms (jb c.rs wy) wr c.ts 0 i)) (yn+1)=S2 at *
    left
    refine ⟨_,_,_,_,rfl,rfl,SqL.of hro14,xg (v:=V.ref bq) () (by rw [bb,ae hyl',eb]),?_⟩
    left
    refine ⟨dl,_,rfl,SqL.of hdl,(),λn hn=>by have:=hdb n hn;omega,?_⟩
    left
    refine ⟨by show 4<=sizeLine;decide,λt2 H15 ht2 ht25 s15=>?_⟩
    left
    refine ⟨_,_,.tuple [.int S0,.int S1,.int S2,.int dep.sum],rfl,.tup (s15 _ _ hf14) (.cons (.int _) (.cons (.int _) (.cons (.int _) (.cons (.int _) .nil)))),.tup ht25 (.cons (.int _) (.cons (.int _) (.cons (.int _) (.cons (.int _) .nil)))),rfl,λH16 s16=>?_⟩
    left
    exact ⟨_,_,rfl,s1013.trans (s14.trans (s15.trans s16))⟩
   ·rintro σ H11 ⟨v9',v10',rfl,s11⟩
    trivial
  ·rintro σ H9 _
   left
   exact k H9
end
local macro_rules | `(tactic| walk_at "1")=>`(tactic| exact fun _ _ _ _ _ _ _ hl=>bnd1 hl fun _=>rfl)
local macro_rules | `(tactic| walk_at "2")=>`(tactic| exact fun _ _ _ _ _ _ _ hl=>bnd2 hl fun _ _=>rfl)
local macro_rules | `(tactic| walk_at "3")=>`(tactic| exact fun _ _ _ _ _ _ _ hl=>bnd3 hl fun _ _ _=>rfl)
local macro_rules | `(tactic| walk_at "4")=>`(tactic| exact fun _ _ _ _ _ _ _ hl=>bnd4 hl fun _ _ _ _=>rfl)
local macro_rules | `(tactic| walk_at "5")=>`(tactic| exact fun _ _ _ _ _ _ _ hl=>bnd5 hl fun _ _ _ _ _=>rfl)
local macro_rules | `(tactic| walk_at "6")=>`(tactic| exact fun _ _ _ _ _ _ _ hl=>bnd6 hl fun _ _ _ _ _ _=>rfl)
theorem W0 {l:pT}{w:b8}{K:aj}{h:Heap}{mg:Str->Option ah}{fa:Addr}(X:K.In h) (G:h.Ns mainGlobals mg) (hfa:mg "law" = some (.ref fa))
  {CI:Addr}
  {C0:Addr}
  {C1:Addr}
  {C2:Addr}
  {C3:Addr}
  {C4:Addr}
  {C5:Addr}
  {C6:Addr}
  {u0:Tok}
  {u1:Tok}
  {u2:Tok}
  {u3:Tok}
  {u4:Tok}
  {u5:Tok}
  {u6:Tok}
  {u7:Tok}
  {u8:Tok}
  {u9:Tok}
  {u10:Tok}
  (aCI:aU K mainGlobals "Ice" = some (some (.ref CI))) (pgI:ft K CI Str.empty=true) (hdI:fR K CI=true) (poI:lu K CI=true) (saI:bQ K (.ref CI) "__setattr__" = some (some (.builtin "object.__setattr__"))) (mkI:mw K CI=true) (kcI:c6 K (.ref CI)=true)
  (na0:bQ K (.ref CI) "valley" = some none)
  (na1:bQ K (.ref CI) "cycle" = some none)
  (na2:bQ K (.ref CI) "slopes" = some none)
  (na3:bQ K (.ref CI) "years" = some none)
  (na4:bQ K (.ref CI) "leaps" = some none)
  (a1:gN K "leads_on" vE)
  (a2:gN K "is_reach" yg)
  (a3:gN K "way_down" vy)
  (a4:aU K mainGlobals "lanes" = some (some (.ref f4))) (l4:K.lookup f4=some ⟨oc4,od4,.func (bL "lanes" "lanes" (jW qR) (jP qR) (j7 qR) .none kV4 dc4 pm4 an4 (.ref cL) ct4),sl4⟩) (c4:cQ K (.ref cL) "lanes" = true) (k4:c6 K (.ref f4)=true) (hdL:PySem.W.codeHdIn K cL 142=true)
  (a5:gN K "way_of" kA)
  (a6:gN K "count_places" xm)
  (a7:gN K "fits" JV)
  (a8:gN K "is_valley" zF)
  (a9:gN K "heights" v0)
  (a10:gN K "is_weather" yf)
  (a11:gN K "change" kM)
  (a12:gN K "is_round" yj)
  (a13:gN K "check_round" zS)
  (a14:gN K "check_told" yh)
  (a15:gM K CI "__init__" "Ice.__init__" qI)
  (a16:gM K CI "check_lane" "Ice.check_lane" xA)
  (a17:gM K CI "check_place" "Ice.check_place" xh)
  (a18:gM K CI "length" "Ice.length" zN)
  (a19:gM K CI "height" "Ice.height" zQ)
  (a20:gM K CI "sky" "Ice.sky" vF)
  (a21:gM K CI "tell" "Ice.tell" yZ)
  (a22:gM K CI "surge" "Ice.surge" yr)
  (a23:gM K CI "surges" "Ice.surges" xO)
  (a24:gN K "check_asked" zP)
  (a25:gM K CI "rows" "Ice.rows" yV)
  (a26:gM K CI "told" "Ice.told" zG)
  (a27:gN K "settled" ya)
  (a28:gN K "course" xr)
  (a29:gN K "total" wB)
  (a30:gN K "so_far" uy)
  (a31:gN K "_law_box" uM)
  (a32:gN K "_law_mixed" yF)
  (a33:gN K "_law_take" vJ)
  (a34:gN K "_law_whole" yX)
  (a35:gN K "_law_alike" xR)
  (a38:gN K "_law_weather" zL)
  (a39:gN K "_law_round" zC)
  (a40:gN K "_law_ground_drawn" ql)
  (a41:gN K "_law_reaches" qZ)
  (a42:gN K "_law_roads" xX)
  (a43:gN K "_law_ground" yc)
  (a44:gN K "_law_year" vw)
  (a45:gN K "_law_scene" xV)
  (a46:gN K "_law_made" vK)
  (a47:gN K "_law_row" uO)
  (a48:gN K "_law_wish" vN)
  (a49:gN K "_law_ride" yb)
  (a50:gN K "_law_marks" zA)
  (a51:gN K "_law_news" vI)
  (a52:gN K "_law_depths" xx)
  (a53:aU K mainGlobals "law" = some (some (.ref f53))) (l53:K.lookup f53=some ⟨oc53,od53,.func (bL "law" "law" (jW vn) (jP vn) (j7 vn) .none kV53 dc53 pm53 an53 cd53 ct53),sl53⟩) (c53:cQ K cd53 "law" = true) (k53:c6 K (.ref f53)=true)
  (ec0:gE K "BadValley" C0)
  (ec1:gE K "BadRound" C1)
  (ec2:gE K "NoLane" C2)
  (ec3:gE K "BadYear" C3)
  (ec4:gE K "BadWeather" C4)
  (ec5:gE K "BadSurge" C5)
  (ec6:gE K "NoPlace" C6)
  (z0:aU K mainGlobals "len" = some none)
  (z1:aU K mainGlobals "range" = some none)
  (z2:aU K mainGlobals "isinstance" = some none)
  (z3:aU K mainGlobals "int" = some none)
  (z4:aU K mainGlobals "bool" = some none)
  (z5:aU K mainGlobals "str" = some none)
  (z6:aU K mainGlobals "list" = some none)
  (z7:aU K mainGlobals "tuple" = some none)
  (z8:aU K mainGlobals "min" = some none)
  (z9:aU K mainGlobals "max" = some none)
  (z10:aU K mainGlobals "all" = some none)
  (z11:aU K mainGlobals "zip" = some none)
  (z12:aU K mainGlobals "enumerate" = some none)
  (z13:aU K mainGlobals "sorted" = some none)
  (z14:aU K mainGlobals "sum" = some none)
  (z15:aU K mainGlobals "dict" = some none)
  (z16:aU K mainGlobals "abs" = some none)
  (q0:aU K mainGlobals "MOST_REACHES" = some (some (.int 8 u0)))
  (q1:aU K mainGlobals "MOST_HEIGHTS" = some (some (.int 12 u1)))
  (q2:aU K mainGlobals "GREATEST_HEIGHT" = some (some (.int 99 u2)))
  (q3:aU K mainGlobals "MOST_LANES" = some (some (.int 6 u3)))
  (q4:aU K mainGlobals "LONGEST_LANE" = some (some (.int 30 u4)))
  (q5:aU K mainGlobals "HIGHEST_LINE" = some (some (.int 100 u5)))
  (q6:aU K mainGlobals "MOST_HANDS" = some (some (.int 9 u6)))
  (q7:aU K mainGlobals "MOST_ROWS" = some (some (.int 12 u7)))
  (q8:aU K mainGlobals "LAST_TOLD" = some (some (.int 99 u8)))
  (q9:aU K mainGlobals "LAST_ASKED" = some (some (.int 10000000000000000000000000000000000000000 u9)))
  (q10:aU K mainGlobals "GREATEST_SURGE" = some (some (.int 9 u10)))
  : ∃fd:FuncData,(∀(s:Shared) (v:ah),pY s fd ⟨[v],[]⟩ [("_law_script",v)])/\∀base:Heap,K.In base->base.Ns mainGlobals mg->Bm mg base->FnOk l.prog w K mg base CX0 11 fa fd ["_law_script"] (XE K 142):=by
 have e:=hfa.symm.trans (bw X G a53)
 cases e
 have nb:Nb2 mg:={ b_len:=bf X G z0,b_range:=bf X G z1,b_isinstance:=bf X G z2,b_int:=bf X G z3,b_bool:=bf X G z4,b_str:=bf X G z5,b_list:=bf X G z6,b_tuple:=bf X G z7,b_min:=bf X G z8,b_max:=bf X G z9,b_all:=bf X G z10,b_zip:=bf X G z11,b_enumerate:=bf X G z12,b_sorted:=bf X G z13,b_sum:=bf X G z14 }
 have b_dict:=bf X G z15
 have b_abs:=bf X G z16
 have g_MOST_REACHES:=bw X G q0
 have g_MOST_HEIGHTS:=bw X G q1
 have g_GREATEST_HEIGHT:=bw X G q2
 have g_MOST_LANES:=bw X G q3
 have g_LONGEST_LANE:=bw X G q4
 have g_HIGHEST_LINE:=bw X G q5
 have g_MOST_HANDS:=bw X G q6
 have g_MOST_ROWS:=bw X G q7
 have g_LAST_TOLD:=bw X G q8
 have g_LAST_ASKED:=bw X G q9
 have g_GREATEST_SURGE:=bw X G q10
 have e_BadValley:=bw X G ec0.e
 have x_BadValley:=ec0.x
 have e_BadRound:=bw X G ec1.e
 have x_BadRound:=ec1.x
 have e_NoLane:=bw X G ec2.e
 have x_NoLane:=ec2.x
 have e_BadYear:=bw X G ec3.e
 have x_BadYear:=ec3.x
 have e_BadWeather:=bw X G ec4.e
 have x_BadWeather:=ec4.x
 have e_BadSurge:=bw X G ec5.e
 have x_BadSurge:=ec5.x
 have e_NoPlace:=bw X G ec6.e
 have x_NoPlace:=ec6.x
 have cl_Ice:Cls K CI:=⟨pgI,hdI,poI,saI⟩
 have T_Ice:IceC K CI:=⟨cl_Ice,na0,na1,na2,na3,na4⟩
 refine ⟨bL "law" "law" (jW vn) (jP vn) (j7 vn) .none kV53 dc53 pm53 an53 cd53 ct53,λs v=>.of_eq rfl,λbase hKb _ hBm=>?_⟩
 have CH:=PySem.W.codeHd_of_K hKb hdL
 have z:Zt l.prog w K mg base:=⟨X,G⟩
 have c_leads_on:=a1.cal z (by walk_at "2") (QE)
 have c_is_reach:=a2.cal z (by walk_at "2") (QI nb g_MOST_HEIGHTS g_GREATEST_HEIGHT c_leads_on)
 have c_way_down:=a3.cal z (by walk_at "2") (QN nb)
 have c_lanes:Cal l.prog w K mg base 5 "lanes" ["reaches"] (uq K 142):=Cal.mkC (st:=qR) X G a4 l4 c4 k4 (by walk_at "1") (V2 nb c_way_down CH hBm l4 c4)
 have c_way_of:=a5.calX z (by walk_at "2") (Zz nb e_NoLane x_NoLane c_lanes)
 have c_count_places:=a6.cal z (by walk_at "2") (wj nb)
 have c_fits:=a7.cal z (by walk_at "2") (Ul nb g_MOST_LANES g_LONGEST_LANE c_count_places)
 have c_is_valley:=a8.cal z (by walk_at "1") (JN nb g_MOST_REACHES c_is_reach c_lanes c_fits)
 have c_heights:=a9.calX z (by walk_at "2") (Xm nb c_way_of)
 have c_is_weather:=a10.cal z (by walk_at "1") (hZ g_HIGHEST_LINE g_MOST_HANDS)
 have c_change:=a11.cal z (by walk_at "2") (Yx)
 have c_is_round:=a12.cal z (by walk_at "1") (Q4 nb.toNb g_MOST_ROWS c_is_weather)
 have c_check_round:=a13.calX z (by walk_at "1") (wP nb e_BadRound x_BadRound c_is_round)
 have c_check_told:=a14.calX z (by walk_at "1") (hE g_LAST_TOLD e_BadYear x_BadYear)
 have c_Ice:=a15.mak z mkI kcI aCI (by walk_at "3") (uN nb T_Ice e_BadValley x_BadValley c_is_valley c_check_round c_lanes c_heights.cal)
 have c_Ice__check_lane:=a16.calX z (by walk_at "2") (vH nb T_Ice e_NoLane x_NoLane)
 have c_Ice__check_place:=a17.calX z (by walk_at "3") (vi nb T_Ice e_NoPlace x_NoPlace cl_Ice c_Ice__check_lane)
 have c_Ice__length:=a18.calX z (by walk_at "2") (k8 nb T_Ice cl_Ice c_Ice__check_lane)
 have c_Ice__height:=a19.calX z (by walk_at "3") (ke nb T_Ice cl_Ice c_Ice__check_place)
 have c_Ice__sky:=a20.cal z (by walk_at "2") (JW nb T_Ice)
 have c_Ice__tell:=a21.calX z (by walk_at "3") (Jm nb T_Ice e_BadWeather x_BadWeather c_check_told c_is_weather)
 have c_Ice__surge:=a22.calX z (by walk_at "4") (hX nb T_Ice cl_Ice g_GREATEST_SURGE e_BadSurge x_BadSurge c_Ice__check_lane c_check_told)
 have c_Ice__surges:=a23.calX z (by walk_at "2") (ko nb T_Ice cl_Ice c_Ice__check_lane)
 have c_check_asked:=a24.calX z (by walk_at "1") (kz g_LAST_ASKED e_BadYear x_BadYear)
 have c_Ice__rows:=a25.cal z (by walk_at "1") (Jr nb T_Ice)
 have c_Ice__told:=a26.cal z (by walk_at "1") (JD nb T_Ice)
 have c_settled:=a27.calX z (by walk_at "2") (Xs nb cl_Ice c_Ice__told c_Ice__surges c_Ice__length)
 have c_course:=a28.calX z (by walk_at "4") (Yh nb b_dict cl_Ice c_Ice__surges c_Ice__length c_change c_Ice__sky c_Ice__height)
 have c_total:=a29.cal z (by walk_at "2") (Ve nb)
 have c_so_far:=a30.calX z (by walk_at "3") (Y6 nb cl_Ice c_Ice__check_lane c_check_asked c_settled c_Ice__rows c_course c_total)
 have c_law_box:=a31.cal z (by walk_at "1") (Wb nb.toNb)
 have c_law_mixed:=a32.cal z (by walk_at "2") (Vz)
 have c_law_take:=a33.cal z (by walk_at "2") (Up nb.toNb c_law_mixed)
 have c_law_whole:=a34.cal z (by walk_at "1") (VQ nb)
 have c_law_alike:=a35.cal z (by walk_at "2") (ZJ)
 have c_law_alike:=a35.cal z (by walk_at "2") (J5 0 nb c_law_whole c_law_alike)
 have c_law_alike:=a35.cal z (by walk_at "2") (J5 1 nb c_law_whole c_law_alike)
 have c_law_weather:=a38.cal z (by walk_at "1") (Xw c_law_take)
 have c_law_round:=a39.cal z (by walk_at "1") (Vb nb.toNb c_law_take c_law_weather)
 have c_law_ground_drawn:=a40.cal z (by walk_at "3") (wm nb c_law_take)
 have c_law_reaches:=a41.cal z (by walk_at "1") (Xn nb c_law_take c_law_ground_drawn)
 have c_law_roads:=a42.cal z (by walk_at "1") (VL nb)
 have c_law_ground:=a43.cal z (by walk_at "2") (Ys)
 have c_law_year:=a44.cal z (by walk_at "1") (UC c_law_take)
 have c_law_scene:=a45.cal z (by walk_at "1") (VO nb c_law_take c_law_reaches c_law_round c_law_ground c_law_roads c_law_year c_law_weather)
 have c_law_made:=a46.cal z (by walk_at "1") (U6 nb cl_Ice c_Ice c_Ice__tell c_Ice__surge)
 have c_law_row:=a47.cal z (by walk_at "2") (WB nb)
 have c_law_wish:=a48.cal z (by walk_at "2") (UK)
 have c_law_ride:=a49.cal z (by walk_at "3") (Ui nb)
 have c_law_marks:=a50.cal z (by walk_at "3") (Vj nb c_law_ride)
 have c_law_news:=a51.cal z (by walk_at "2") (U3 nb)
 have c_law_depths:=a52.cal z (by walk_at "3") (Y0 nb b_abs c_law_marks c_law_wish c_law_row)
 exact WT nb c_law_box c_law_take c_law_scene c_law_made c_law_news c_law_depths c_law_alike c_so_far (vA (st:=vn) l53 c53 k53)
end K33
end
open PySem PySem.W PyProof.Rows
set_option maxRecDepth 100000 in
set_option maxHeartbeats 0 in
theorem PySem.Challenge.cw_firnfall_k33_sums_so_far_holds : PySem.Challenge.rw_firnfall_k33_sums_so_far.Holds := by
 w_on
 refine holds_law HO.ws λsaid=>?_
 refine holds_open (q:=HO.view) (loose:=HO.loose) (N:=9000) (Xt:=HO.xt) (XP:=XL HO.view [])
  (Yf:=Hook.obs (ph HO.frag.heap_1 HO.asL HO.asE [142])) (Ya:=Hook.val (ph HO.frag.heap_1 HO.asL HO.asE [142])) (YP:=Hook.says (ph HO.frag.heap_1 HO.asL HO.asE [142]))
  HO.left (Hook.of (ph HO.frag.heap_1 HO.asL HO.asE [142])) (Hook.keeps (ph HO.frag.heap_1 HO.asL HO.asE [142]))
  (λs e=>xl_of s (Bool.and_eq_true_iff.mp e).1) XL.keeps rfl rfl rfl
  (λs e=>recFacts_of (Bool.and_eq_true_iff.mp e).2) rfl
  (by first | assumption | decide +kernel) (by decide +kernel) ⟨rfl,rfl,rfl,rfl,rfl,by decide +kernel⟩ ?hw ?hc
 (case hw=>w_witness2)
 k_fill
 refine L2.Ud (l:=PySem.Challenge.rw_firnfall_k33_sums_so_far) 11 144 142 ⟨rfl,⋯,⋯⟩ rfl rfl (λw h Y=>⟨PySem.W.km_in_of Y,PySem.W.km_tabs_of Y 142 (by simp)⟩) (λ_=>by kernel_rfl) (λ_=>by kernel_rfl) ?F
 case F =>
  intro w mg fa h KX G hmg
  refine' K33.W0 KX G hmg ..
  all_goals try first | refine' L2.gN.mk ?_ ?_ ?_ ?_ | refine' L2.gM.mk ?_ ?_ ?_ ?_ ?_ | refine' L2.gE.mk ?_ ?_ ?_
  all_goals try show _=_
  all_goals try k_is
  all_goals kernel_rfl
