import PyProof.Rows.All
import Wide.All
import OpenK.AllK
import Wide.FinOn
import Lean
import PyProof.EqAt
import PyProof.EqKinds
import PyProof.TupleCall
import PyProof.NsDelKeeps
import PyProof.AttrMissHeap
import KE.KDictOf
import PySem.Challenge.RW_firnfall_k17_piles_by_a_plain_walk
set_option Elab.async false
set_option linter.all false
set_option maxRecDepth 100000
set_option maxHeartbeats 0
open And renaming intro->fP
open Array renaming length_toList->cw,getElem?_setIfInBounds_ne->ig,getD_eq_getD_getElem?->iV,getElem?_eq_getElem->lH,getElem?_toList->mU,getD->oU,forIn_toList->oW,toList_map->rn,mk->sJ
open Bool renaming false_ne_true->au,and_eq_true->bb,false_eq_true->cp,true_and->dI,eq_iff_iff->eF,and_false->sV
open False renaming elim->bt
open ForIn renaming forIn->AN
open ForInStep renaming yield->c4
open Int renaming toNat_natCast->bF,emod_lt_of_pos->dw,zero_add->eE,emod_nonneg->eJ,le_refl->iJ,le_trans->pZ,le_of_lt->r9
open LawfulBEq renaming eq_of_beq->tU
open List renaming getElem?_eq_getElem->af,length_map->ah,getD_eq_getElem?_getD->ao,length_append->aq,size_toArray->av,mem_of_getElem?->az,getElem?_map->aA,mem_cons_self->aB,mem_append_right->aD,mem_cons_of_mem->aF,map_append->aG,range->aI,length_take->aK,map_cons->aM,append_nil->aN,take_length->aY,length_singleton->ba,length_cons->bh,length_range->bp,Nodup->bu,replicate->bJ,mem_map_of_mem->bK,mem_append_left->bL,all_eq_true->bP,take_add_one->bS,length_replicate->bX,length_filter_le->bY,map_map->bZ,getElem_mem->c8,append_assoc->cj,filter_append->cq,reverse_append->cx,range_succ->cG,lookup_cons->cI,getElem?_append_right->cO,take_of_length_le->cR,reverse->cS,getElem?_append_left->cV,drop_eq_getElem_cons->cW,map_congr_left->dM,getElem?_range->dN,pairwise_singleton->dQ,getElem_map->dS,lookup->dX,find?_cons->eI,mem_cons->eN,reverse_reverse->eZ,map_nil->fh,not_mem_nil->fi,filterMap_cons->fj,length_reverse->fk,any_cons->ft,of_mem_zip->fD,pairwise_cons->fH,length->fI,filter->fM,filter_cons_of_neg->fN,filter_cons_of_pos->fO,getElem?_set_self->fQ,all_map->i5,length_pos_of_mem->i6,nodup_nil->i8,getElem?_set->ia,find?_cons_of_pos->ib,find?_cons_of_neg->ic,length_drop->ir,getElem?_set_ne->iD,getLast?_concat->iI,length_set->iL,forIn_cons->iN,drop_zero->lA,mem_of_find?_eq_some->lI,reverse_cons->lN,foldl_append->lO,ext_getElem?->lP,flatten_cons->lQ,getElem?_take_of_lt->lS,getElem?_replicate->me,ext_getElem->mh,drop_of_length_le->mz,drop_eq_nil_of_le->mF,foldl_cons->mM,length_nil->mO,range_zero->mP,eq_nil_or_concat->mZ,concat_eq_append->nh,length_dropLast->nA,map_id->nK,replicate_succ'->nU,all_cons->oB,sum_cons->oE,filterMap_map->oN,toArray->pQ,getElem_take->pV,map_snd_zip->rp,nodup_range->rA,zipIdx_cons->rE,cons_append->rK,map_reverse->rO,zipIdx_nil->sy,filter_nil->sF,map->tj,forIn_nil->tm,take_zero->tF,take_take->tG,Pairwise->tQ,map_take->tS
open List.Pairwise renaming nil->fY,map->pW
open List.Perm renaming refl->nI,cons_inv->oX
open Nat renaming le_refl->ar,ne_of_lt->aC,le_trans->aH,zero_le->aJ,lt_of_lt_of_le->aO,lt_of_le_of_lt->bV,lt_succ_of_lt->cg,lt_irrefl->cK,ne_of_gt->cN,le_add_right->dR,succ_le_succ->dU,le_of_lt->dZ,le_succ->fL,lt_succ_self->iq,zero_add->mC,sub_zero->mD,le_of_eq->pj,min_eq_right->rQ,not_lt_zero->sv,min_eq_left->sG
open Ne renaming symm->cF
open Option renaming toList_some->dz,map_some->iR,bind_some->mj,isSome_map->pU,getD_none->rm
open Option.some renaming inj->aW
open Or renaming inl->aQ,inr->iM
open Prod renaming ext->AL,snd->AO
open PyProof.Rows renaming seqObj->bA,boot_isinstance->bI,boot_list->bT,slot_tuple_getitem->bW,callWith_type1->cf,boot_tuple->cJ,listUpdate_at->cZ,IntsAre->dh,get?_update_seq->eG,seqEpoch_at->eY,boot_bool->i9,AllBare->iz,subscriptTail->iA,envOfC->iK,entry_tuple_getitem->iT,args_tuple_getitem->lu,Subscript_->mw,subscriptTail_builtinR->mx,listItems_at->mB,entry_list_sort->mJ,boot_int->mV,boot_str->mW,slot_list_sort->nH,boot_max->nW,slot_tupleiter_next->ou,tupleItemsOf_->oz,size_push'->oV,plain_sorted->pN,entry_sorted->pO,boot_all->pX,boot_min->pY,IsTup->rS,kind_sorted->si,boot_sorted->sj,list_sort_plain->su,boot_range->sQ,slicePart_none->sU,SortKind->sY,args_list_sort->t6,failedOf->t8,tail_any->AM,boot_sum->AV,Call_->AZ
open PyProof.Rows.IsTup renaming new->rj
open PyProof.Rows.KeyOrd renaming kle_refl->de,kle_of_klt->i4,kle_trans->iu,kle_antisymm->iU
open PySem renaming wpAny_bind->aa,Value->aj,wpAny->ax,model->aE,starEach->aP,boot_len->aR,wpAny_mono->aZ,wpAny_holding->bw,World->bx,Around->bz,wpAny_field->bB,wpAny_newObj_type->bC,sizeLine_eq->bE,wpAny_callSpecial?_slot->bN,wpAny_truthy_bool->bQ,wpAny_loadPart'->c5,wpAny_call_entry->c7,rawInt->cc,compareOp->ck,foldedSetIterable->cz,wpAny_seqItems->cD,bindArgs->cH,backTo->cM,letOwnedTupleGo->cT,codeAny->cU,wpAny_Call_Name_kw->cX,wpAny_standAt->cY,Paired->d0,assignEach->d8,mem_of_lookup->df,codeAny_mono->dg,sysModules->dj,wpAny_setField_rec->dv,importedModules->dB,wpAny_passesOwn->dC,wpAny_pyIter_list->dE,attributeBase->dG,wpAny_comprehension_free->dH,IsPair->dJ,holding->ef,wpAny_rule->eB,behindInMarks->eK,wpAny_attempt->eM,pyNext->eP,Builtin->eR,binaryOp->eS,keywordEach->eU,wpAny_newFunctionEnv_cells->eV,wpAny_setField->fb,bootBuiltins->fe,standAt->ff,wpAny_newList->fB,wpAny_execs_nil->fC,codeAny_builtin->fE,wpAny_call->fF,tupleKind_room_in1->fG,sliceBounds->fK,wpAny_pyNext_list_item->fR,NameKind->fT,getItem->fV,wpAny_typeOf->fW,codeAny_compStart_list->fZ,assign->ip,wpAny_newFunctionEnv->iF,wpAny_updateSeq_pair->iH,swapsWith->iX,noteFrame->iY,backToKw->lh,IsPart->lp,wpAny_newTuple->ly,firstArgMember->lB,IsZip->lC,wpAny_sequenceKey->lM,pyIter->lR,evalPart_none->lT,wpAny_getItem_list_slice->lU,plainId_quiet->lV,wpAny_onRaise->lW,wpAny_eqBool_int->lY,tupleKind->lZ,wpAny_execs_cons->m6,getMethod->ma,cellsFrom->md,noFill_tuple_add->mf,wpAny_isInstance->mi,builtinsNs->mq,Keyword->mr,call_meets->my,theTreesLotGoes->mI,field->mL,wpAny_isTrue_Compare1->mQ,wpAny_pyNext_list_end->mR,wpAny_pyIter_listiter->mS,codeAny_call_function->mT,wpAny_loadName_local->nj,subscripted->nv,newFunctionEnv->nB,wpAny_letGo->nJ,wpAny_of_eq->nN,ZipApart->nO,isSubtype_stop->nQ,leaving->oa,callerA->og,valueAt->oh,wpAny_loadName_cell->om,seq_tuple_add->ow,evalPart_some->oA,eval_ListComp->oC,wpAny_pyIter_tuple->oI,wpAny_pyIter_range->oJ,Result->oK,typeLookup->oO,PlainAttrs->oP,typeOf->oQ,closureFor->oR,slot_listiter_next->oY,getattributeRaised->oZ,Within->pe,wpAny_assign_Name->pf,callWith->pq,BindsTo->pG,concat_meets->pH,seqIndex_neg->pI,compEnvC->pJ,codeAny_loop->pK,compTurn->pL,newList->pM,wpAny_pyIter_enum->pR,seqItems?->rC,wpAny_pyIter_zip->rH,checkBuiltinCall->rJ,wpAny_Dict_empty->rM,IsRangeIter->rT,bindL->rW,bindC->rX,wpAny_Slice->rZ,seqIndex_of->se,wpAny_noted->sf,atKey->sr,wpAny_specialOf->sA,OsState->sH,wpAny_Name->sP,wpAny_loadPart->sS,compPost->sX,checkCount->sZ,getAttr?->tD,boundAndCalled->tE,assignInOrder->tI,rangeSize_one->tJ,intBits_le_64->tK,call_list_seq->tM,wpAny_handled->tO,storeName->tT,cellOf->tX,relabel->tY,stored->tZ,Params->AW,truthy->AX,newExc->AY
open PySem.Around renaming under_plainId->eX,frames_deeper->nu,under->pA
open PySem.Builtin.Dict renaming updateFrom->mm
open PySem.Builtin.List renaming listTooLong->fA
open PySem.Builtin.Range renaming rangeSize->m8
open PySem.Builtin.Slice renaming slicePlaces->bO,sliceAdjust->cu,sliceApplied->dq,sliceFields->lE
open PySem.Builtin.SmallTypes renaming nextOf->bD,ownedTupleIsFree->cE,ownedTupleHandOut->fm
open PySem.Builtin.Tuple renaming tupleExact->bU,tupleItemsOf->eW
open PySem.Calls renaming callWith_builtin->fX,evalArgs_plain->iE,Name_function_global->iZ,spliced_cons->lj,call_function_entry->lF,spliced_nil->pE
open PySem.Code renaming isFrame->pC
open PySem.Data renaming cell->m7,fields->nk
open PySem.EntryCells renaming newEntry->oq
open PySem.Env renaming kindOf->sW
open PySem.F renaming plainAttrs_list->b7,slot_list_append->bf,type_list_append->bg,excBase_ValueError->bH,slot_tuple_iterator_next->du,args_tuple_add_2->fq,entry_tuple_add->fJ,slot_tuple_add->fU,slot_dict_get->ik,args_tuple_iterator_next_1->iP,slot_zip_next->iQ,entry_tuple_iterator_next->iW,args_dict_get_3->ml,entry_dict_get->mE,slot_list_pop->mX,type_list_pop->mY,slot_list_lt->nE,args_zip_next_1->pT,entry_zip_next->rG
open PySem.Fin renaming done->t7
open PySem.Heap renaming get?_push_of_some->ai,lt_size->aw,get?_push_size->ay,get?_update_other->c0,get?_update_ne->c9,size_push->cB,get?_push_ne->cQ,get?_update_self->dA,size_update->dP,SameBut->ee,ExtBut->iG,MadeExcOf->nR
open PySem.Heap.DictOf renaming new->sD
open PySem.Heap.IsSliceOf renaming new->lx
open PySem.Heap.SameBut renaming update->oo
open PySem.IsRange renaming new->rV
open PySem.NameKind renaming free->bc,cell->iB
open PySem.Obj renaming mapSeq->b9,data_mapFields->eC,mapFields->eO,isFreed_of_fields->eQ,cls_mapFields->pS
open PySem.Paired renaming length->aT,snoc->d5
open PySem.PassesOwn renaming never->aX
open PySem.PyData renaming int->cP,canLayAll0->i7,depthAll->iO,canLay0->nM,eqv->oS,eqvAll->tR
open PySem.SeqAt renaming shaped->i0,canLay_of_shaped->ie,eqv_refl->nX
open PySem.SeqAt.EqAt renaming int_str->oG,str_int->oH
open PySem.Str renaming ofString->ak
open PySem.Value renaming none->aU,ref->aV,type->il,builtin->iC,isInt_shape->lJ,int->lX,bool->mn,str->nZ,isStrOf_shape->oj,float->rR,isStrOf->tH
open PySem.W renaming Frag->ag,nsIn->aS,kitOne->b8,mg_of->bj,mg_none_of->bo,fnOf->bG,findIn->bM,keepIn->bR,kia_one->c3,emptyDict->cA,codeIn->cC,instObj->d6,excIn->di,callWith_K->dm,boot_heap->dO,cellsFrom_some->eA,exmOne->fc,plainGet->fg,hasDictIn->fS,methodCall_KW->ij,plainGet_of->iS,lookIn->lg,methodObj->lK,plainOver->lL,takerIn->mG,makesIn->mH,namesBound->oF,codeRec_of->oM,isFn->ph,kitx_list->px,kitx_dict->pz,staticsOk->rf,kmHook->rg,handedIn->rh,OpenLaw->sx,kas_rev->sI,boot_drawn->sL,tabObj->sM,gensDone->sN,laidKept->sO,InstAt->sR,funFrames_hide->tu,kas_tail3->tV,topStub->tW,openSeen->AI,openGood->AJ,openEnds->AK,kas_sort->AQ,kas_item->AR,kat_snds->AS
open PySem.W.Looks renaming of_pure->tN,ld->AU
open PySem.W.OpenLaw renaming row->ni
open StateT renaming run_pure->mK
open Sum renaming inr->br,inl->dY
open Sum.inl renaming inj->dW
open True renaming intro->d9
open PySem PySem.Spec PyProof.Rows
local macro_rules | `(∅)=>`(by omega)
local macro_rules | `(⋯)=>`(by decide)
section
namespace HO
open PySem PySem.W PyProof.Rows PySem.Calls PySem.Spec
def view:Program:={ PySem.Challenge.pw_firnfall_k17_piles_by_a_plain_walk with main:={ PySem.Challenge.pw_firnfall_k17_piles_by_a_plain_walk.main with body:=(PySem.Challenge.pw_firnfall_k17_piles_by_a_plain_walk.main.body).drop 81 } }
def loose:List Str:=[ak "_wall",ak "laid",ak "taken",ak "FirnError",ak "BadValley",ak "BadRound",ak "BadWeather",ak "BadYear",ak "BadSurge",ak "BadHand",ak "NoLane",ak "NoPlace",ak "MOST_REACHES",ak "MOST_HEIGHTS",ak "GREATEST_HEIGHT",ak "MOST_LANES",ak "LONGEST_LANE",ak "is_valley",ak "is_reach",ak "leads_on",ak "fits",ak "lanes",ak "way_down",ak "way_of",ak "count_places",ak "heights",ak "HIGHEST_LINE",ak "MOST_HANDS",ak "MOST_ROWS",ak "is_weather",ak "is_round",ak "change",ak "LAST_TOLD",ak "LAST_ASKED",ak "GREATEST_SURGE",ak "check_told",ak "check_asked",ak "check_round",ak "Ice",ak "ride_by",ak "earliest",ak "ridden",ak "span",ak "life",ak "parted",ak "pile",ak "_law_box",ak "_law_mixed",ak "_law_take",ak "_law_whole",ak "_law_alike",ak "_law_odd",ak "_law_weather",ak "_law_round",ak "_law_ground_drawn",ak "_law_reaches",ak "_law_roads",ak "_law_ground",ak "_law_year",ak "_law_scene",ak "_law_made",ak "_law_row",ak "_law_wish",ak "_law_ride",ak "_law_marks",ak "_law_year_of",ak "_law_walk",ak "_law_runs",ak "_law_spot",ak "_law_refused",ak "_law_due_spot",ak "_law_bent_spot",ak "_law_try_pile"]
section
local macro_rules | `(tactic| o_head $H)=>`(tactic| (have hook:=$H;assumption))
theorem frag (hyp:(ni PySem.Challenge.rw_firnfall_k17_piles_by_a_plain_walk).Holds):(ni PySem.Challenge.rw_firnfall_k17_piles_by_a_plain_walk).Holds:=by
 k_head
end
def asL:List Addr:=[2,3,15,17,18,20,21,22,24,25,27,28,29,31,32,34,35,36,43,44,45,46,49,56,57,58,61,68,69,70,73,80,81,82,85,92,93,94,97,104,105,106,109,116,117,118,121,128,129,130,133,140,141,142,145,148,149,150,153,154,155,157,158,160,161,162,165,166,167,170,171,172,174,175,177,178,179,181,182,184,185,186,189,190,191,194,195,196,198,199,201,202,203,206,207,208,210,211,213,214,215,217,218,220,221,222,224,225,227,228,229,231,232,234,235,243,246,247,248,250,251,253,254,255,257,258,260,261,262,264,265,267,268,269,271,272,274,275,276,278,279,281,282,283,285,286,288,289,290,292,293,295,296,297,299,300,302,303,304,306,307,309,310,311,313,314,316,317,318,320,321,323,324,325,327,328,330,331,332,335,336,337,340,341,342,344,345,347,348,349,351,352,354,355,356,358,359,361,362,363,364,365,366,367,370,373,374,375,377,378,380,381,382,384,385,387,388,389,391,392,394,395,396,398,399,401,402,403,405,406,408,409,410,412,413,415,416,417,419,420,422,423,424,426,427,429,430,431,433,434,436,437,438,440,441,443,444,445,448,449,450,452,453,455,456,457,459,460,462,463,464,467,468,469,472,473,474,477,478,479,482,483,484,486,487,489,490,491,493,494,496,497,498,501,502,503,505,506,508,509,510,512,513,515,516,517,519,520,522,523,524,527,528,529,532,533,534,536,537,539,540,541,543,544,546,547,548,550,551,553,554,555,557,558,560,561,562,565,566,567,569,570,572,573,574,576,577,579,580,581,583,584,586,587,588,591,592]
theorem asE (P:AW):asL=(frag.heap_1 P).map (·.1):=by kernel_rfl
noncomputable def top (w:bx) (os:sH):Option Shared:=PySem.W.Fast.tw14082659384304107361 PySem.W.Fast.tw14364793385576792824 PySem.Challenge.pw_firnfall_k17_piles_by_a_plain_walk w (dO w.params).objs.size ((dO w.params).nsMap mainGlobals "__annotations__") 9000 ⟨dO w.params,sJ [],sL,boot_toks,os⟩ (tW PySem.Challenge.pw_firnfall_k17_piles_by_a_plain_walk)
def xt (s:Shared):Bool:=xlAt view [] s && recOk (RowW.records (OpenRow.toRowW (ni PySem.Challenge.rw_firnfall_k17_piles_by_a_plain_walk))) s
theorem ran2 (w:bx) (os:sH):(top w os).map (λs=>(asL.map s.heap.get?,[168].map s.heap.get?))=some ((frag.heap_1 w.params).map λp=>some p.2,[168].map λ_=>some (sM #[])):=by kernel_rfl
theorem ws:OpenLaw.wellSaid PySem.Challenge.rw_firnfall_k17_piles_by_a_plain_walk=true:=by kernel_rfl
theorem ran1 (w:bx) (os:sH):(top w os).map (λs=>AI view loose (dB PySem.Challenge.pw_firnfall_k17_piles_by_a_plain_walk.main.body) xt true s)=some (AJ view loose):=by kernel_rfl
theorem ran0 (w:bx) (os:sH):(top w os).map (λs=>rf (dB PySem.Challenge.pw_firnfall_k17_piles_by_a_plain_walk.main.body) (dO w.params) s.heap && oF PySem.Challenge.pw_firnfall_k17_piles_by_a_plain_walk s.heap && sN s && sO (dO w.params) s.heap)=some true:=by kernel_rfl
theorem Ed (w:bx) (os:sH):topRun treeTable PySem.Challenge.pw_firnfall_k17_piles_by_a_plain_walk w (dO w.params).objs.size ((dO w.params).nsMap mainGlobals "__annotations__") 9000 ⟨dO w.params,sJ [],sL,boot_toks,os⟩ (tW PySem.Challenge.pw_firnfall_k17_piles_by_a_plain_walk)=top w os:=by
 rw [PySem.W.Fast.te14082659384304107361,PySem.W.Fast.te14364793385576792824]
 rfl
theorem GM (w:bx):((dO w.params).isNs mainGlobals && (sJ []:Array GenState).size == 0)=true:=by kernel_rfl
theorem Q7 {N:Nat}{h:Heap}{gs d k os}(hb:(h.isNs mainGlobals && gs.size == 0)=true) (hr:topRun tb p w h.objs.size (h.nsMap mainGlobals "__annotations__") N ⟨h,gs,d,k,os⟩ (tW p)=some s) (hl:(rf (dB p.main.body) h s.heap && oF p s.heap && sN s && sO h s.heap)=true):topFrom tb p w N ⟨h,gs,d,k,os⟩=some s:=by
 unfold topFrom
 rw [hb]
 show ((topRun tb p w h.objs.size (h.nsMap mainGlobals "__annotations__") N ⟨h,gs,d,k,os⟩ (tW p)).bind _)=_
 rw [hr]
 show (match rf (dB p.main.body) h s.heap && oF p s.heap && sN s && sO h s.heap with | true=>some s | false=>none)=_
 rw [hl]
theorem Vq {N:Nat}(a:fencedOpening tb p w N=some s₀) (t:topFrom tb p w N s₀=some s):AK tb p w N=some s:=by
 unfold AK
 rw [a]
 exact t
theorem left:LeftO (ni PySem.Challenge.rw_firnfall_k17_piles_by_a_plain_walk).prog view loose xt (Hook.obs (rg frag.heap_1 asL asE [168])) (Hook.val (rg frag.heap_1 asL asE [168])) 9000:=λw=>by
 obtain ⟨⟨h,gs,d,k,os⟩,a,b⟩:=Option.map_eq_some_iff.mp (boot_open (p:=PySem.Challenge.pw_firnfall_k17_piles_by_a_plain_walk) (N:=9000) (by kernel_rfl) ⋯ (λs=>by kernel_rfl) w)
 obtain ⟨rfl,rfl,rfl,rfl⟩:h=dO w.params/\gs=sJ []/\d=sL/\k=boot_toks:=by simpa using b
 have h0:=ran0 w os
 have h1:=ran1 w os
 have h2:=ran2 w os
 cases e:top w os with
 | none=>rw [e] at h1;cases h1
 | some s =>
  rw [e] at h0 h1 h2
  have l1:(rf (dB PySem.Challenge.pw_firnfall_k17_piles_by_a_plain_walk.main.body) (dO w.params) s.heap && oF PySem.Challenge.pw_firnfall_k17_piles_by_a_plain_walk s.heap && sN s && sO (dO w.params) s.heap)=true:=aW h0
  have l2:AI view loose (dB PySem.Challenge.pw_firnfall_k17_piles_by_a_plain_walk.main.body) xt true s=AJ view loose:=aW h1
  obtain ⟨m1,m2⟩:=Prod.mk.inj (aW h2)
  have m5:asL.map s.heap.get? = (frag.heap_1 w.params).map λp=>some p.2:=m1
  have t:=Vq a (Q7 (GM w) ((Ed w os).trans e) l1)
  show (AK treeTable PySem.Challenge.pw_firnfall_k17_piles_by_a_plain_walk w 9000).map _=_
  rw [t]
  show some (AI view loose (dB PySem.Challenge.pw_firnfall_k17_piles_by_a_plain_walk.main.body) xt true s,(asL.map s.heap.get?,[168].map s.heap.get?))=some (AJ view loose,_)
  rw [l2,m5,m2]
  rfl
end HO
end
noncomputable section
namespace L2
noncomputable abbrev Key:=Sum Int Str
noncomputable def Jv:Key->aj->Bool
 | .inl k,v=>Value.isInt k v
 | .inr x,v=>tH x v
noncomputable def keyH (w:bx):Key->Int
 | .inl k=>hashInt k
 | .inr x=>hashStr w x
theorem qB:∀{k:Key}{v:aj},Jv k v=true->(∃i t,k=dY i/\v=lX i t)\/(∃x t,k=br x/\v=nZ x t)
 | .inl i,v,h=>by
  obtain ⟨t,e⟩:=lJ (k:=i) (v:=v) h
  exact .inl ⟨i,t,rfl,e⟩
 | .inr x,v,h=>by
  obtain ⟨t,e⟩:=oj (x:=x) (v:=v) h
  exact .inr ⟨x,t,rfl,e⟩
theorem YD (i:Int) (t:Tok):Jv (.inl i) (.int i t)=true:=by simp [Jv,Value.isInt]
theorem Vw (x:Str) (t:Tok):Jv (.inr x) (.str x t)=true:=by simp [Jv,tH]
theorem Ej (a b:Int):decide ((dY a:Key)=dY b)=(a == b):=by
 by_cases e:a=b
 ·subst e;simp
 ·have h:¬(dY a:Key)=dY b:=λq=>e (dW q)
  rw [decide_eq_false h]
  exact (beq_eq_false_iff_ne.mpr e).symm
theorem GJ (a b:Str):decide ((br a:Key)=br b)=decide (a=b):=by
 by_cases e:a=b
 ·subst e;simp
 ·have h:¬(br a:Key)=br b:=λq=>e (Sum.inr.inj q)
  rw [decide_eq_false h,decide_eq_false e]
theorem EE (a:Int) (b:Str):decide ((dY a:Key)=br b)=false:=decide_eq_false (λq=>nomatch q)
theorem EK (a:Str) (b:Int):decide ((br a:Key)=dY b)=false:=decide_eq_false (λq=>nomatch q)
noncomputable def jJ (prog:Program) (w:bx):PySem.KeyKind prog w Key where
 is:=Jv
 hash:=keyH w
 inj:=λv a b ha hb=>by
  rcases qB ha with ⟨i,t,rfl,rfl⟩ | ⟨x,t,rfl,rfl⟩
  ·rcases qB hb with ⟨j,u,rfl,e⟩ | ⟨y,u,rfl,e⟩
   ·injection e with e1 _;rw [e1]
   ·exact nomatch e
  ·rcases qB hb with ⟨j,u,rfl,e⟩ | ⟨y,u,rfl,e⟩
   ·exact nomatch e
   ·injection e with e1 _;rw [e1]
 byValue:=λk v h=>by
  rcases qB h with ⟨i,t,rfl,rfl⟩ | ⟨x,t,rfl,rfl⟩ <;> rfl
 pyHash:=λhv h=>by
  rcases qB hv with ⟨i,t,rfl,rfl⟩ | ⟨x,t,rfl,rfl⟩
  ·exact wpAny_pyHash_int h
  ·exact wpAny_pyHash_str h
 eqBool:=λhu hv h=>by
  rcases qB hu with ⟨i,t,rfl,rfl⟩ | ⟨x,t,rfl,rfl⟩
  ·rcases qB hv with ⟨j,u,rfl,rfl⟩ | ⟨y,u,rfl,rfl⟩
   ·rw [Ej] at h;exact lY h
   ·rw [EE] at h;exact oG i t y u _ _ _ _ h
  ·rcases qB hv with ⟨j,u,rfl,rfl⟩ | ⟨y,u,rfl,rfl⟩
   ·rw [EK] at h;exact oH x t j u _ _ _ _ h
   ·rw [GJ] at h;exact wpAny_eqBool_str h
 «strs»:=λk x t v h=>by
  rcases qB h with ⟨i,u,rfl,e⟩ | ⟨y,u,rfl,e⟩
  ·exact nomatch e
  ·injection e with e1 _
   subst e1
   cases v <;> rfl
theorem Xj (prog:Program) (w:bx) (i:Int) (t:Tok):(jJ prog w).is (.inl i) (.int i t)=true:=YD i t
theorem XS (prog:Program) (w:bx) (x:Str) (t:Tok):(jJ prog w).is (.inr x) (.str x t)=true:=Vw x t
end L2
namespace L2
inductive V where
 | non | bl (b:Bool) | int (i:Int) | str (x:Str) | byt (b:Array UInt8) | flt (b:UInt64) | ref (a:Addr) | ty (n:String)
 deriving DecidableEq
noncomputable def jF:V->aj->Prop
 | .non,u=>u=aU
 | .bl b,u=>u=mn b
 | .int i,u=>∃t,u=lX i t
 | .str x,u=>∃t,u=nZ x t
 | .byt b,u=>∃t,u=Value.bytes b t
 | .flt b,u=>∃t,u=rR b t
 | .ref a,u=>u=aV a
 | .ty n,u=>u=il n
noncomputable abbrev jE:List V->List aj->Prop:=d0 jF
theorem jE.length {xs:List V}(r:jE xs us):xs.length=us.length:=aT r
theorem jE.get:∀{xs:List V}{us:List aj}{i:Nat}{x:V},jE xs us->xs[i]? = some x->∃u,us[i]? = some u/\jF x u
 | _,_,_,_,.nil,e=>by simp at e
 | _,_,0,_,.cons r _,e=>by simp at e;subst e;exact ⟨_,rfl,r⟩
 | _,_,i+1,x,.cons _ t,e=>by
  obtain ⟨u,h1,h2⟩:=jE.get (i:=i) (x:=x) t (by simpa using e)
  exact ⟨u,by simpa using h1,h2⟩
theorem jE.set {x:V}(r:jF x u):∀{xs:List V}{us:List aj}(i:Nat),jE xs us->jE (xs.set i x) (us.set i u)
 | _,_,_,.nil=>.nil
 | _,_,0,.cons _ t=>.cons r t
 | _,_,i+1,.cons q t=>.cons q (jE.set r i t)
theorem jE.append:∀{xs ys:List V}{us ws:List aj},jE xs us->jE ys ws->jE (xs++ys) (us++ws)
 | _,_,_,_,.nil,s=>s
 | _,_,_,_,.cons r t,s=>.cons r (jE.append t s)
theorem jE.take:∀{xs:List V}{us:List aj}(n:Nat),jE xs us->jE (xs.take n) (us.take n)
 | _,_,0,_=>.nil
 | _,_,_+1,.nil=>.nil
 | _,_,n+1,.cons r t=>.cons r (jE.take n t)
theorem jE.drop:∀{xs:List V}{us:List aj}(n:Nat),jE xs us->jE (xs.drop n) (us.drop n)
 | _,_,0,r=>r
 | _,_,_+1,.nil=>.nil
 | _,_,n+1,.cons _ t=>jE.drop n t
noncomputable def yV:Option V->Option aj->Prop
 | some v,some u=>jF v u
 | none,none=>True
 | _,_=>False
noncomputable def KV {κ:Type}:List (κ×V)->List (κ×aj)->Prop:=d0 λ(p:κ×V) (q:κ×aj)=>p.1=q.1/\jF p.2 q.2
noncomputable def kV:Key->V
 | .inl i=>.int i
 | .inr x=>.str x
inductive HO where
  | lst (xs:List V)
  | tup (xs:List V)
  | dK (kvs:List (Key×V)) | dT (kvs:List (List Key×V))
  | set (S:Int->Bool) (n:Nat)
  | ins (C dx:Addr) (fs:List (Str×V))
  | own (x:Addr)
  | xd (fs:List (Str×V))
  | met (f x:Addr)
  | rng (lo hi:Int)
  | frz (o:Obj) (u:HO)
  | tbl (ps:Array aj)
  | ext (φ:Heap->Prop)
noncomputable abbrev Hp:=Addr->Option HO
noncomputable def upd (H:Hp) (a:Addr) (o:HO):Hp:=λb=>if b=a then some o else H b
theorem j6 :upd H a o a=some o:=by unfold upd;rw [if_pos rfl]
theorem j7 {a b:Addr}(h:b≠a):upd H a o b=H b:=by unfold upd;rw [if_neg h]
theorem jn {H:Hp}(h:H a=some o) (h':H b=some u) (d:o≠u):a≠b:=by
 intro e;subst e;rw [h] at h';exact d (aW h')
theorem j1 {H:Hp}(h:H a=some o) (h':H b=none):a≠b:=by
 intro e;subst e;rw [h] at h';cases h'
section
variable (P:Program) (w:bx)
noncomputable def qo (H:Hp) (h:Heap) (a:Addr):HO->Prop
 | .lst xs=>xs.length<=sizeLine/\∃(its:List aj) (n:Nat),jE xs its/\h.get? a=some { cls:=.type "list",data:=.seq its.toArray n }
 | .tup xs=>xs.length<=sizeLine/\∃its:List aj,jE xs its/\rS h a its.toArray
 | .dK kvs=>kvs.length<=sizeLine/\(a == dj)=false/\∃vs,KV kvs vs/\h.DictOf (jJ P w) a vs
 | .dT kvs=>kvs.length<=sizeLine/\(a == dj)=false/\∃xs:List (List Key×Addr×aj),
   d0 (λ(p:List Key×V) (q:List Key×Addr×aj)=>p.1=q.1/\H q.2.1=some (.tup (p.1.map kV))/\jF p.2 q.2.2) kvs xs /\
   ∃o es ep,h.get? a=some o/\o.ExactDict/\o.data = .dict es ep/\es.toList=xs.map (entryOfKey (lZ (jJ P w)))/\(xs.map (·.1)).Nodup
 | .set S n=>h.SetOf (intKind P w) a S n
 | .ins C dx fs=>H dx=some (.own a)/\fs.length<=1000/\dx≠a/\h.get? a=some (d6 C dx) /\
   ∃mA,h.Ns1 dx mA/\(∀f,yV (fs.lookup f) (mA f))/\pe mA (fs.map (·.1))
 | .own _=>∃o,h.get? a=some o
 | .xd fs=>∃mA,h.Ns1 a mA/\∀f,yV (fs.lookup f) (mA f)
 | .rng lo hi=>∃t u v,h.get? a=some { cls:=.type "range",data:=.fields #[.int lo t,.int hi u,.int 1 v] }
 | .frz o u=>h.get? a=some o/\qo H h a u
 | .tbl ps=>h.get? a=some { cls:=.none,data:=.fields ps }
 | .met f x=>h.get? a=some (lK (.ref f) (.ref x))
 | .ext φ=>φ h/\(∃o,h.get? a=some o)/\∀h1 h2:Heap,φ h1->(∀o,h1.get? a=some o->h2.get? a=some o)->φ h2
noncomputable def HOk (H:Hp) (h:Heap):Prop:=∀a o,H a=some o->qo P w H h a o
end
section
variable {P:Program}{w:bx}{H H':Hp}{h h':Heap}{a:Addr}{o:HO}
theorem qo.lt (x:qo P w H h a o):a<h.objs.size:=by
 cases o with
 | lst xs=>obtain ⟨_,_,_,_,e⟩:=x;exact aw e
 | tup xs=>obtain ⟨_,_,_,p⟩:=x;exact p.lt
 | dK kvs=>obtain ⟨_,_,_,_,o,_,_,e,_⟩:=x;exact aw e
 | dT kvs=>obtain ⟨_,_,_,_,o,_,_,e,_⟩:=x;exact aw e
 | set S n=>obtain ⟨o,_,_,_,e,_⟩:=x;exact aw e
 | ins C dx fs=>obtain ⟨_,_,_,e,_⟩:=x;exact aw e
 | own y=>obtain ⟨_,e⟩:=x;exact aw e
 | xd fs=>obtain ⟨_,⟨_,_,_,e,_⟩,_⟩:=x;exact aw e
 | rng lo hi=>obtain ⟨_,_,_,e⟩:=x;exact aw e
 | frz ob u=>obtain ⟨e,_⟩:=x;exact aw e
 | tbl ps=>exact aw (show h.get? a=some _ from x)
 | met f y=>exact aw (show h.get? a=some _ from x)
 | ext φ=>obtain ⟨_,⟨_,e⟩,_⟩:=x;exact aw e
theorem Paired.mapP {α β:Type}{F G:α->β->Prop}:∀{l₁:List α}{l₂:List β},d0 F l₁ l₂->(∀a b,F a b->G a b)->d0 G l₁ l₂
 | _,_,.nil,_=>.nil
 | _,_,.cons r t,f=>.cons (f _ _ r) (Paired.mapP t f)
theorem qo.stay (x:qo P w H h a o) (k:∀b u,(b=a\/H b=some (.own a))->h.get? b=some u->h'.get? b=some u)
  (ho:∀b,H b=some (.own a)->H' b=some (.own a)) (ht:∀b xs,H b=some (.tup xs)->H' b=some (.tup xs)):qo P w H' h' a o:=by
 induction o with
 | lst xs=>obtain ⟨z,its,n,r,e⟩:=x;exact ⟨z,its,n,r,k _ _ (.inl rfl) e⟩
 | tup xs=>obtain ⟨z,its,r,ob,e,c⟩:=x;exact ⟨z,its,r,ob,k _ _ (.inl rfl) e,c⟩
 | dK kvs=>obtain ⟨z,y,vs,r,ob,es,ep,e,c⟩:=x;exact ⟨z,y,vs,r,ob,es,ep,k _ _ (.inl rfl) e,c⟩
 | dT kvs =>
  obtain ⟨z,y,xs,r,ob,es,ep,e,c⟩:=x
  exact ⟨z,y,xs,Paired.mapP r λp q z=>⟨z.1,ht _ _ z.2.1,z.2.2⟩,ob,es,ep,k _ _ (.inl rfl) e,c⟩
 | set S n=>obtain ⟨ob,es,ep,t,e,c⟩:=x;exact ⟨ob,es,ep,t,k _ _ (.inl rfl) e,c⟩
 | ins C dx fs =>
  obtain ⟨d,z,ne,e,mA,⟨od,es,ep,e2,c⟩,r⟩:=x
  exact ⟨ho _ d,z,ne,k _ _ (.inl rfl) e,mA,⟨od,es,ep,k _ _ (.inr d) e2,c⟩,r⟩
 | own y=>obtain ⟨ob,e⟩:=x;exact ⟨ob,k _ _ (.inl rfl) e⟩
 | xd fs=>obtain ⟨mA,⟨od,es,ep,e,c⟩,r⟩:=x;exact ⟨mA,⟨od,es,ep,k _ _ (.inl rfl) e,c⟩,r⟩
 | rng lo hi=>obtain ⟨t,u,v,e⟩:=x;exact ⟨t,u,v,k _ _ (.inl rfl) e⟩
 | frz ob u ih=>obtain ⟨e,q⟩:=x;exact ⟨k _ _ (.inl rfl) e,ih q⟩
 | tbl ps =>
  have e:h.get? a=some { cls:=.none,data:=.fields ps }:=x
  show h'.get? a=some { cls:=.none,data:=.fields ps }
  exact k a _ (.inl rfl) e
 | met f y =>
  have e:h.get? a=some (lK (.ref f) (.ref y)):=x
  show h'.get? a=some (lK (.ref f) (.ref y))
  exact k a _ (.inl rfl) e
 | ext φ=>obtain ⟨p,⟨o,e⟩,st⟩:=x;exact ⟨st _ _ p λo q=>k _ _ (.inl rfl) q,⟨o,k _ _ (.inl rfl) e⟩,st⟩
theorem HOk.lt (x:HOk P w H h) (e:H a=some o):a<h.objs.size:=(x a o e).lt
theorem HOk.fresh (x:HOk P w H h) (e:h.objs.size<=a):H a=none:=by
 cases q:H a with
 | none=>rfl
 | some u=>exact absurd (aO (x.lt q) e) (cK _)
theorem HOk.kept (x:HOk P w H h) (k:∀b u,h.get? b=some u->h'.get? b=some u):HOk P w H h':=λa o e =>
 (x a o e).stay (λb u _ q=>k b u q) (λ_ q=>q) λ_ _ q=>q
theorem HOk.laid (x:HOk P w H h) (k:∀b u,h.get? b=some u->h'.get? b=some u) (hp:h.objs.size<=a) (new:qo P w (upd H a o) h' a o):HOk P w (upd H a o) h':=λb u e=>by
 have hn:=x.fresh hp
 by_cases hb:b=a
 ·subst hb;rw [j6] at e;cases e;exact new
 ·rw [j7 hb] at e
  exact (x b u e).stay (λc v _ q=>k c v q) (λc q=>by rw [j7 (j1 q hn)];exact q) λc xs q=>by rw [j7 (j1 q hn)];exact q
end
noncomputable def Rd (H:Hp) (a:Addr) (u:HO):Prop:=H a=some u\/∃o,H a=some (.frz o u)
theorem Rd.ok {w:bx}(r:Rd H a u) (x:HOk P w H h):qo P w H h a u:=by
 rcases r with r | ⟨o,r⟩
 ·exact x a u r
 ·obtain ⟨_,q⟩:=x a _ r
  exact q
noncomputable def Mut:Option HO->Prop
 | some (.lst _)=>True
 | some (.dK _)=>True
 | some (.dT _)=>True
 | some (.set _ _)=>True
 | some (.ins _ _ _)=>True
 | some (.ext _)=>True
 | _=>False
section
variable {P:Program}{w:bx}{H:Hp}{h h':Heap}{x e:Addr}{o':HO}
theorem HOk.write (ok:HOk P w H h) (mu:Mut (H x)) (he:e=x\/H e=some (.own x)) (k:∀b u,b≠e->h.get? b=some u->h'.get? b=some u) (heo:∃u,h'.get? e=some u)
  (new:qo P w (upd H x o') h' x o'):HOk P w (upd H x o') h':=λb u q=>by
 have nown:∀c y,H c=some (.own y)->c≠x:=λc y r z=>by subst z;rw [r] at mu;exact mu
 have ntup:∀c xs,H c=some (.tup xs)->c≠x:=λc xs r z=>by subst z;rw [r] at mu;exact mu
 by_cases hb:b=x
 ·subst hb;rw [j6] at q;cases q;exact new
 ·rw [j7 hb] at q
  by_cases hbe:b=e
  ·have q':H b=some (.own x):=by
    rcases he with z | z
    ·exact absurd (hbe.trans z) hb
    ·rw [hbe];exact z
   rw [q] at q';cases q'
   obtain ⟨v,hv⟩:=heo
   exact ⟨v,by rw [hbe];exact hv⟩
  ·refine (ok b u q).stay (λc v hc r=>k c v ?_ r) (λc r=>by rw [j7 (nown c b r)];exact r) λc xs r=>by rw [j7 (ntup c xs r)];exact r
   rcases hc with rfl | hc
   ·exact hbe
   ·rintro rfl
    rcases he with z | z
    ·exact nown c b hc z
    ·rw [hc] at z;cases z;exact hb rfl
end
structure Un (fs ex:List Addr) (H H':Hp) (h h':Heap):Prop where
 keep:∀b o,h.get? b=some o->H b=none->b∉fs->b∉ex->h'.get? b=some o
 slot:∀b o,h.get? b=some o->H b=none->b∈fs->b∉ex->∃sl,h'.get? b=some { o with slots:=sl }
 free:∀b o,h.get? b=some o->H b=none->b∉ex->H' b=none
 there:∀b o,h.get? b=some o->b∉ex->∃o',h'.get? b=some o'
 tups:∀b xs,H b=some (.tup xs)->H' b=some (.tup xs)
 frzs:∀b o u,H b=some (.frz o u)->H' b=some (.frz o u)
 tbls:∀b ps,H b=some (.tbl ps)->∃more,H' b=some (.tbl (ps++more))
section
variable {fs fs' ex ex':List Addr}{H H1 H2:Hp}{h h1 h2 h':Heap}{a x e:Addr}{o:HO}
theorem Un.any (u:Un fs ex H H1 h h1) {b:Addr}{ob:Obj}(q:h.get? b=some ob) (n:H b=none) (hx:b∉ex):∃sl,h1.get? b=some { ob with slots:=sl }:=by
 by_cases hb:b∈fs
 ·exact u.slot b ob q n hb hx
 ·exact ⟨ob.slots,u.keep b ob q n hb hx⟩
theorem Un.kept (k:∀b u,h.get? b=some u->h'.get? b=some u):Un fs ex H H h h' :=
 ⟨λb ob q _ _ _=>k b ob q,λb ob q _ _ _=>⟨ob.slots,k b ob q⟩,λ_ _ _ n _=>n,λb ob q _=>⟨ob,k b ob q⟩,λ_ _ q=>q,λ_ _ _ q=>q,λ_ ps q=>⟨#[],by rw [q];simp⟩⟩
theorem Un.refl:Un fs ex H H h h:=Un.kept λ_ _ q=>q
theorem Un.laid (k:∀b u,h.get? b=some u->h'.get? b=some u) (hp:h.objs.size<=a) (hn:H a=none):Un fs ex H (upd H a o) h h' where
 keep:=λb u q _ _ _=>k b u q
 slot:=λb u q _ _ _=>⟨u.slots,k b u q⟩
 free:=λb u q n _=>by rw [j7 (aC (aO (aw q) hp))];exact n
 there:=λb u q _=>⟨u,k b u q⟩
 tups:=λb xs q=>by rw [j7 (j1 q hn)];exact q
 frzs:=λb u xs q=>by rw [j7 (j1 q hn)];exact q
 tbls:=λb ps q=>⟨#[],by rw [j7 (j1 q hn),q];simp⟩
theorem Un.write (mu:Mut (H x)) (he:e=x\/H e=some (.own x)) (k:∀b u,b≠e->h.get? b=some u->h'.get? b=some u) (heo:∃u,h'.get? e=some u):Un fs ex H (upd H x o) h h':=by
 have hx:∀b,H b=none->b≠x:=λb n z=>by subst z;rw [n] at mu;exact mu
 have hb:∀b,H b=none->b≠e:=λb n z=>by
  subst z
  rcases he with r | r
  ·exact hx b n r
  ·rw [n] at r;cases r
 have hm:∀b u,H b=some u->¬Mut (some u)->b≠x:=λb u q nm z=>by subst z;rw [q] at mu;exact nm mu
 refine ⟨λb u q n _ _=>k b u (hb b n) q,λb u q n _ _=>⟨u.slots,k b u (hb b n) q⟩,λb u q n _=>by rw [j7 (hx b n)];exact n,λb u q _=>?_,
  λb xs q=>by rw [j7 (hm b _ q λz=>z)];exact q,λb u xs q=>by rw [j7 (hm b _ q λz=>z)];exact q,λb ps q=>⟨#[],by rw [j7 (hm b _ q λz=>z),q];simp⟩⟩
 by_cases hbe:b=e
 ·subst hbe;exact heo
 ·exact ⟨u,k b u hbe q⟩
end
noncomputable def trk (h:Heap) (H:Hp):List Addr:=(aI h.objs.size).filter λa=>(H a).isSome
noncomputable def Ji (h:Heap) (H:Hp):Heap:=PySem.W.hideAll h (trk h H)
theorem YJ (h:Heap) (H:Hp):(Ji h H).objs.size=h.objs.size:=PySem.W.hideAll_size _ _
theorem UJ {h:Heap}{H:Hp}{b:Addr}(e:h.get? b=some o) (n:H b=none):(Ji h H).get? b=some o :=
 PySem.W.hideAll_get _ e λhm=>by
  have q:(H b).isSome=true:=(List.mem_filter.mp hm).2
  rw [n] at q;simp at q
theorem Wu {b:Addr}(e:(Ji h H).get? b=some o):h.get? b=some o/\H b=none:=by
 have e':h.get? b=some o:=PySem.W.of_hideAll (trk h H) e
 refine ⟨e',?_⟩
 cases q:H b with
 | none=>rfl
 | some x =>
  have hm:b∈trk h H:=List.mem_filter.mpr ⟨List.mem_range.mpr (aw e'),by simp [q]⟩
  have z:(Ji h H).get? b=none:=PySem.W.hideAll_none (trk h H) hm
  rw [z] at e;cases e
noncomputable def G3 (g h:Heap) (L:Addr):List (Addr×Obj):=(aI h.objs.size).filterMap λa=>if a=L\/(g.get? a).isSome=true then none else (h.get? a).map λo=>(a,o)
noncomputable def vj (g h:Heap) (L d:Addr):List (Addr×Obj):=(G3 g h L).filter λp=>decide (p.1≠d)
end L2
namespace L2
structure Mod (K:ag) (mg:Str->Option aj) (base:Heap):Prop where
 kin:K.In base
 glob:base.Ns mainGlobals mg
 blt:∃mb,base.Ns mq mb/\∀x:Str,x ≠ "__name__" -> mb x=fe x
 nolimit:base.NoLimit
structure Cx where
 prog:Program
 w:bx
 K:ag
 mg:Str->Option aj
 base:Heap
 A:bz
 N:List Str
 s₀:Shared
 H₀:Hp
 env:Env
 outer:List Env
 stack:List Env
 ex:List Addr
 fn:Str->Bool
 calm:Bool
 pn:List (Addr×Obj)
 xe:aj->Shared->Prop
noncomputable def frs (l:List Env):List Addr:=l.filterMap (·.frame)
noncomputable abbrev Cx.fs (X:Cx):List Addr:=frs X.outer
noncomputable def Vis (sc:Scope) (x:Str):Prop:=sc.names.lookup x=some .local\/sc.names.lookup x=some .cell\/sc.names.lookup x=some .free
noncomputable def Loc (sc:Scope) (x:Str):Prop:=sc.names.lookup x=some .local\/sc.names.lookup x=some .cell
noncomputable def Look (env:Env) (h:Heap) (m:Str->Option aj) (x:Str) (u:aj):Prop :=
 (env.kindOf x=some .local/\m x=some u)\/((env.kindOf x=some .cell\/env.kindOf x=some .free)/\∃c,env.cells.lookup x=some c/\h.IsCell c (some u))
structure Cx.Ok (X:Cx):Prop where
 mod:Mod X.K X.mg X.base
 kind:X.env.scope.kind = .function
 glob:X.env.globals=mainGlobals
 blt:X.env.builtins=mq
 above:X.s₀.heap.objs.size<=X.env.locals
 inj:∀x y c,X.env.cells.lookup x=some c->X.env.cells.lookup y=some c->x=y
 has:∀x,(X.env.kindOf x=some .cell\/X.env.kindOf x=some .free)->∃c,X.env.cells.lookup x=some c
 cab:∀x c,X.fn x=true->X.env.cells.lookup x=some c->X.s₀.heap.objs.size<=c
 hd:X.calm=true->X.A.handled=none
 frames:X.A.frames=some X.stack
 stk:X.stack=X.outer\/(X.stack=X.env::X.outer/\X.env.frame=some X.env.locals)
 exf:∀b∈X.ex,b≠X.env.locals/\∀x c,X.env.cells.lookup x=some c->c≠b
 bs:∀b o,X.base.get? b=some o->X.s₀.heap.get? b=some o/\X.H₀ b=none
 bsz:X.base.objs.size<=X.s₀.heap.objs.size
 noex:∀b o,X.base.get? b=some o->b∉X.ex
 exfs:∀b∈X.ex,b∉X.fs
 funs:X.s₀.heap.FunFrames X.base X.outer
 frf:∀b∈X.fs,X.H₀ b=none
structure Inv (X:Cx) (pins:List (Addr×Obj)) (σ:List (Option V)) (H:Hp) (s:Shared):Prop where
 ok:X.Ok
 os:s.os=X.s₀.os
 bare:iz s.gens
 base:Un X.fs X.ex X.H₀ H X.s₀.heap s.heap
 loc:∃m,s.heap.Ns X.env.locals m/\∀(i:Nat) (x:Str) (v:V),X.N[i]? = some x->σ[i]? = some (some v)->Vis X.env.scope x->∃u,jF v u/\Look X.env s.heap m x u
 cell:∀x c,X.env.cells.lookup x=some c->∃v,s.heap.IsCell c v
 free:H X.env.locals=none
 freeC:∀x c,X.env.cells.lookup x=some c->H c=none
 pin:∀p∈X.pn++pins,s.heap.get? p.1=some p.2/\H p.1=none/\p.1≠X.env.locals/\p.1∉X.fs/\∀v,p.2.data≠.cell v
 hok:HOk X.prog X.w H s.heap
 len:σ.length=X.N.length
section
variable {X:Cx}{pins:List (Addr×Obj)}{σ:List (Option V)}{H H':Hp}{s:Shared}{h':Heap}
theorem Cx.Ok.nofr (ok:X.Ok) {b:Addr}(e:X.base.get? b=some o):b∉X.fs:=λhb=>by
 have:=(ok.funs.mem hb).1
 rw [e] at this;cases this
theorem Inv.bs (I:Inv X pins σ H s):∀b o,X.base.get? b=some o->s.heap.get? b=some o/\H b=none:=λb o e =>
 ⟨I.base.keep b o (I.ok.bs b o e).1 (I.ok.bs b o e).2 (I.ok.nofr e) (I.ok.noex b o e),I.base.free b o (I.ok.bs b o e).1 (I.ok.bs b o e).2 (I.ok.noex b o e)⟩
theorem Inv.bk (I:Inv X pins σ H s):∀b o,X.base.get? b=some o->s.heap.get? b=some o:=λb o e=>(I.bs b o e).1
theorem Inv.mod (I:Inv X pins σ H s):Mod X.K X.mg X.base:=I.ok.mod
theorem Inv.kIn (I:Inv X pins σ H s):X.K.In s.heap:=I.ok.mod.kin.keeps I.bk
theorem Inv.lt (I:Inv X pins σ H s):X.env.locals<s.heap.objs.size:=let ⟨_,hn,_⟩:=I.loc;hn.lt
theorem Inv.sz (I:Inv X pins σ H s):X.s₀.heap.objs.size<=s.heap.objs.size:=aH I.ok.above (dZ I.lt)
theorem Inv.nofs (I:Inv X pins σ H s) {a:Addr}(h:s.heap.objs.size<=a):a∉X.fs:=λhb=>by
 obtain ⟨_,o,ho,_⟩:=I.ok.funs.mem hb
 exact absurd (aO (aw ho) (aH I.sz h)) (cK _)
theorem Inv.cne (I:Inv X pins σ H s):∀x c,X.env.cells.lookup x=some c->c≠X.env.locals:=λx c e z=>by
 obtain ⟨v,o,ho,hd⟩:=I.cell x c e
 obtain ⟨m,⟨o',es,ep,ho',hd',_⟩,_⟩:=I.loc
 rw [z,ho'] at ho;cases ho;rw [hd'] at hd;cases hd
theorem Inv.funs (I:Inv X pins σ H s):s.heap.FunFrames X.base X.outer:=by
 have all:∀(l:List Env),(∀b∈frs l,b∈X.fs)->X.s₀.heap.FunFrames X.base l->s.heap.FunFrames X.base l:=by
  intro l
  induction l with
  | nil=>intro _ _;trivial
  | cons env r ih =>
   intro hs hl
   obtain ⟨hk,⟨L,o,hf,hn,ho,hd⟩,hr⟩:=hl
   have hL:L∈X.fs:=hs L (by unfold frs;rw [fj,hf];exact aB)
   obtain ⟨sl,e⟩:=I.base.slot L o ho (I.ok.frf L hL) hL λz=>I.ok.exfs L z hL
   exact ⟨hk,⟨L,_,hf,hn,e,hd⟩,ih (λb hb=>hs b (by unfold frs;rw [fj,hf];exact aF _ hb)) hr⟩
 exact all X.outer (λ_ hb=>hb) I.ok.funs
theorem Inv.stack (I:Inv X pins σ H s):s.heap.FunFrames X.base X.stack:=by
 rcases I.ok.stk with e | ⟨e,hf⟩
 ·rw [e];exact I.funs
 ·rw [e]
  obtain ⟨m,hn,_⟩:=I.loc
  refine .cons (by rw [I.ok.kind];decide) hf hn ?_ I.funs
  exact Heap.get?_none_of_le (aH I.ok.bsz I.ok.above)
theorem Inv.stkSub (I:Inv X pins σ H s):∀b∈frs X.stack,b∈X.env.locals::X.fs:=λb hb=>by
 rcases I.ok.stk with e | ⟨e,hf⟩
 ·rw [e] at hb;exact aF _ hb
 ·rw [e] at hb
  unfold frs at hb
  rw [fj,hf] at hb
  exact hb
theorem Inv.stkFree (I:Inv X pins σ H s):∀b∈frs X.stack,H b=none:=λb hb=>by
 rcases List.mem_cons.mp (I.stkSub b hb) with e | hb
 ·rw [e];exact I.free
 ·obtain ⟨_,o,ho,_⟩:=I.ok.funs.mem hb
  exact I.base.free b o ho (I.ok.frf b hb) λz=>I.ok.exfs b z hb
theorem Inv.step {t':Nat}{d':Drawn}{ch:List Addr}(I:Inv X pins σ H s)
  (hch:∀b∈ch,(b∈X.ex\/X.s₀.heap.objs.size<=b)/\b≠X.env.locals/\(∀x c,X.env.cells.lookup x=some c->c≠b)/\∀p∈X.pn++pins,p.1≠b)
  (keep:∀b o,b≠X.env.locals->b∉X.fs->b∉ch->s.heap.get? b=some o->H b=none->h'.get? b=some o)
  (slot:∀b o,b≠X.env.locals->b∈X.fs->b∉ch->s.heap.get? b=some o->H b=none->∃sl,h'.get? b=some { o with slots:=sl }) (free:∀b o,b∉ch->s.heap.get? b=some o->H b=none->H' b=none)
  (there:∀b o,b∉ch->s.heap.get? b=some o->∃o',h'.get? b=some o')
  (tups:∀b xs,H b=some (.tup xs)->H' b=some (.tup xs)) (frzs:∀b o u,H b=some (.frz o u)->H' b=some (.frz o u)) (tbls:∀b ps,H b=some (.tbl ps)->∃more,H' b=some (.tbl (ps++more)))
  (ns:∀m,s.heap.Ns X.env.locals m->h'.Ns X.env.locals m) (hok:HOk X.prog X.w H' h') (hg:iz g') :
  Inv X pins σ H' { s with heap:=h',gens:=g',drawn:=d',toks:=t' }:=by
 have neL:∀b o,X.s₀.heap.get? b=some o->b≠X.env.locals:=λb o e=>aC (aO (aw e) I.ok.above)
 have neC:∀b o,X.s₀.heap.get? b=some o->b∉X.ex->b∉ch:=λb o e hx hb=>by
  rcases (hch b hb).1 with z | z
  ·exact hx z
  ·exact absurd (aO (aw e) z) (cK _)
 have cellK:∀x c,X.env.cells.lookup x=some c->∀v,s.heap.IsCell c v->h'.IsCell c v:=λx c e v ⟨o,ho,hd⟩=>by
  have nch:c∉ch:=λz=>(hch c z).2.2.1 x c e rfl
  by_cases hc:c∈X.fs
  ·obtain ⟨sl,q⟩:=slot c o (I.cne x c e) hc nch ho (I.freeC x c e)
   exact ⟨_,q,hd⟩
  ·exact ⟨o,keep c o (I.cne x c e) hc nch ho (I.freeC x c e),hd⟩
 refine ⟨I.ok,I.os,hg,⟨λb o e n hb hx=>?_,λb o e n hb hx=>?_,λb o e n hx=>?_,λb o e hx=>?_,λb xs e=>tups b xs (I.base.tups b xs e),λb o xs e=>frzs b o xs (I.base.frzs b o xs e),λb ps e=>?_⟩,?_,λx c e=>?_,?_,λx c e=>?_,λp hp=>?_,hok,I.len⟩
 ·exact keep b o (neL b o e) hb (neC b o e hx) (I.base.keep b o e n hb hx) (I.base.free b o e n hx)
 ·obtain ⟨sl,e1⟩:=I.base.slot b o e n hb hx
  obtain ⟨sl',e2⟩:=slot b _ (neL b o e) hb (neC b o e hx) e1 (I.base.free b o e n hx)
  exact ⟨sl',e2⟩
 ·obtain ⟨o',e1⟩:=I.base.there b o e hx
  exact free b o' (neC b o e hx) e1 (I.base.free b o e n hx)
 ·obtain ⟨o',e1⟩:=I.base.there b o e hx
  exact there b o' (neC b o e hx) e1
 ·obtain ⟨m1,e1⟩:=I.base.tbls b ps e
  obtain ⟨m2,e2⟩:=tbls b _ e1
  exact ⟨m1++m2,by rw [e2,Array.append_assoc]⟩
 ·obtain ⟨m,hn,hl⟩:=I.loc
  refine ⟨m,ns m hn,λi x v e1 e2 e3=>?_⟩
  obtain ⟨u,r,l⟩:=hl i x v e1 e2 e3
  refine ⟨u,r,?_⟩
  rcases l with l | ⟨k,c,e,z⟩
  ·exact .inl l
  ·exact .inr ⟨k,c,e,cellK x c e _ z⟩
 ·obtain ⟨v,z⟩:=I.cell x c e
  exact ⟨v,cellK x c e v z⟩
 ·obtain ⟨m,⟨o,_,_,ho,_⟩,_⟩:=I.loc
  exact free _ o (λz=>(hch _ z).2.1 rfl) ho I.free
 ·obtain ⟨v,o,ho,hd⟩:=I.cell x c e
  exact free c o (λz=>(hch c z).2.2.1 x c e rfl) ho (I.freeC x c e)
 ·obtain ⟨e,n,ne,nf,d⟩:=I.pin p hp
  have nch:p.1∉ch:=λz=>(hch p.1 z).2.2.2 p hp rfl
  exact ⟨keep p.1 p.2 ne nf nch e n,free p.1 p.2 nch e n,ne,nf,d⟩
theorem Inv.un {t':Nat}(I:Inv X pins σ H s) (u:Un X.fs [] H H' s.heap h') (hok:HOk X.prog X.w H' h'):Inv X pins σ H' { s with heap:=h',toks:=t' }:=by
 obtain ⟨m,⟨o,es,ep,ho,r⟩,_⟩:=id I.loc
 obtain ⟨sl,hL⟩:=u.any ho I.free (by simp)
 exact I.step (g':=s.gens) (d':=s.drawn) (ch:=[]) (λ_ z=>nomatch z) (λb o _ hb _ e n=>u.keep b o e n hb (by simp)) (λb o _ hb _ e n=>u.slot b o e n hb (by simp)) (λb o _ e n=>u.free b o e n (by simp)) (λb o _ e=>u.there b o e (by simp)) u.tups u.frzs u.tbls (λm' hm=>by
  obtain ⟨o',es',ep',ho',r'⟩:=hm
  rw [ho] at ho';cases ho'
  exact ⟨_,es',ep',hL,r'⟩) hok I.bare
theorem Inv.call {t':Nat}{d':Drawn}{ch:List Addr}(I:Inv X pins σ H s) (u:Un (frs X.stack) ch H H' s.heap h') (hok:HOk X.prog X.w H' h') (hg:iz g')
  (hch:∀b∈ch,(b∈X.ex\/X.s₀.heap.objs.size<=b)/\b≠X.env.locals/\(∀x c,X.env.cells.lookup x=some c->c≠b)/\∀p∈X.pn++pins,p.1≠b) :
  Inv X pins σ H' { s with heap:=h',gens:=g',drawn:=d',toks:=t' }:=by
 obtain ⟨m,⟨o,es,ep,ho,r⟩,_⟩:=id I.loc
 obtain ⟨sl,hL⟩:=u.any ho I.free λz=>(hch _ z).2.1 rfl
 exact I.step (ch:=ch) hch (λb o hL hb hc e n=>u.keep b o e n (λz=>(List.mem_cons.mp (I.stkSub b z)).elim hL hb) hc) (λb o _ _ hc e n=>u.any e n hc) (λb o hc e n=>u.free b o e n hc) (λb o hc e=>u.there b o e hc) u.tups u.frzs u.tbls (λm' hm=>by
  obtain ⟨o',es',ep',ho',r'⟩:=hm
  rw [ho] at ho';cases ho'
  exact ⟨_,es',ep',hL,r'⟩) hok hg
theorem Inv.turned {t':Nat}{it:Addr}(I:Inv X pins σ H s) (k:∀b o,b≠it->s.heap.get? b=some o->h'.get? b=some o) (hn:H it=none) (hL:it≠X.env.locals)
  (h1:it∈X.ex\/X.s₀.heap.objs.size<=it) (h2:∀x c,X.env.cells.lookup x=some c->c≠it) (h3:∀p∈X.pn++pins,p.1≠it):Inv X pins σ H { s with heap:=h',toks:=t' }:=by
 have nit:∀b u,H b=some u->b≠it:=λb u e z=>by rw [z,hn] at e;cases e
 refine I.step (g':=s.gens) (d':=s.drawn) (ch:=[it]) (λb hb=>?_) (λb o _ _ hc e _=>k b o (λz=>hc (by simp [z])) e) (λb o _ _ hc e _=>⟨o.slots,k b o (λz=>hc (by simp [z])) e⟩) (λ_ _ _ _ n=>n)
  (λb o hc e=>⟨o,k b o (λz=>hc (by simp [z])) e⟩) (λ_ _ e=>e) (λ_ _ _ e=>e) (λb ps e=>⟨#[],by rw [e];simp⟩) (λm hm=>?_) (λb u e=>?_) I.bare
 ·have e:b=it:=by simpa using hb
  subst e
  exact ⟨h1,hL,h2,h3⟩
 ·obtain ⟨o,es,ep,ho,r⟩:=hm
  exact ⟨o,es,ep,k _ o (cF hL) ho,r⟩
 ·refine (I.hok b u e).stay (λc v hc q=>k c v ?_ q) (λ_ q=>q) λ_ _ q=>q
  rcases hc with z | z
  ·rw [z];exact nit b u e
  ·exact nit c _ z
theorem Inv.tok (I:Inv X pins σ H s) (t:Nat):Inv X pins σ H { s with toks:=t }:=I.un (h':=s.heap) (t':=t) Un.refl I.hok
theorem Inv.kept {t':Nat}(I:Inv X pins σ H s) (k:∀b u,s.heap.get? b=some u->h'.get? b=some u):Inv X pins σ H { s with heap:=h',toks:=t' }:=I.un (Un.kept k) (I.hok.kept k)
theorem Inv.laid {a:Addr}{t':Nat}(I:Inv X pins σ H s) (k:∀b u,s.heap.get? b=some u->h'.get? b=some u) (hp:s.heap.objs.size<=a) (new:qo X.prog X.w (upd H a o) h' a o) :
  Inv X pins σ (upd H a o) { s with heap:=h',toks:=t' }:=I.un (Un.laid k hp (I.hok.fresh hp)) (I.hok.laid k hp new)
theorem Inv.write {x e:Addr}{t':Nat}(I:Inv X pins σ H s) (mu:Mut (H x)) (he:e=x\/H e=some (.own x)) (k:∀b u,b≠e->s.heap.get? b=some u->h'.get? b=some u) (heo:∃u,h'.get? e=some u)
  (new:qo X.prog X.w (upd H x o) h' x o):Inv X pins σ (upd H x o) { s with heap:=h',toks:=t' }:=I.un (Un.write mu he k heo) (I.hok.write mu he k heo new)
theorem Inv.pins_of {pins':List (Addr×Obj)}(I:Inv X pins σ H s) (h:∀p∈pins',s.heap.get? p.1=some p.2/\H p.1=none/\p.1≠X.env.locals/\p.1∉X.fs/\∀v,p.2.data≠.cell v):Inv X pins' σ H s :=
 ⟨I.ok,I.os,I.bare,I.base,I.loc,I.cell,I.free,I.freeC,λp hp=>(List.mem_append.mp hp).elim (λz=>I.pin p (bL _ z)) (h p),I.hok,I.len⟩
theorem gj {N:List Str}(hN:N.Nodup) {i j:Nat}(a:N[i]? = some x) (b:N[j]? = some x):i=j:=by
 obtain ⟨h1,e1⟩:=List.getElem?_eq_some_iff.mp a
 obtain ⟨h2,e2⟩:=List.getElem?_eq_some_iff.mp b
 exact (List.getElem_inj hN).mp (e1.trans e2.symm)
theorem JP {i:Nat}{Q:Unit->Shared->Prop}(I:Inv X pins σ H s) (hN:X.N.Nodup) (hi:X.N[i]? = some x) (hx:Loc X.env.scope x) (r:jF v u)
  (h:∀s',Inv X pins (σ.set i (some v)) H s'->(∃a,ee a s.heap s'.heap/\(a=X.env.locals\/X.env.cells.lookup x=some a))->Q () s') (hf:X.fn x=true\/X.env.scope.names.lookup x=some .local:=by first | exact .inl rfl | exact .inr rfl | assumption):ax M A (tT X.env x u) Q E s:=by
 obtain ⟨m,hn,hl⟩:=id I.loc
 have hcls:(X.env.scope.kind == .class || (X.env.scope.kind == .module && X.env.locals != X.env.globals))=false:=by rw [I.ok.kind];rfl
 have hiσ:i<σ.length:=by rw [I.len];exact (List.getElem?_eq_some_iff.mp hi).1
 have cne:=I.cne
 have tracked:∀{a:Addr} {h':Heap},(∃o,s.heap.get? a=some o/\H a=none)->ee a s.heap h'->HOk X.prog X.w H h':=λ{a h'} ha hs b ob e=>by
  obtain ⟨_,_,hfree⟩:=ha
  refine (I.hok b ob e).stay (λc w' hc q=>(hs.2 c ?_).trans q) (λ_ q=>q) λ_ _ q=>q
  rintro rfl
  rcases hc with rfl | hc
  ·rw [hfree] at e;cases e
  ·rw [hfree] at hc;cases hc
 rcases hx with hk | hk
 ·refine wpAny_storeName_local hk hn (λh' hn' hs=>?_) hcls
  obtain ⟨oL,_,_,hoL,_⟩:=id hn
  refine h _ ⟨I.ok,I.os,I.bare,⟨λb o e n hb hx=>?_,λb o e n hb hx=>?_,I.base.free,λb o e hx=>?_,I.base.tups,I.base.frzs,I.base.tbls⟩,⟨_,hn',λj y v' e1 e2 e3=>?_⟩,λy c e=>?_,I.free,I.freeC,λp hp=>?_,tracked ⟨oL,hoL,I.free⟩ hs,by simpa using I.len⟩ ⟨_,hs,.inl rfl⟩
  ·exact (hs.2 b (aC (aO (aw e) I.ok.above))).trans (I.base.keep b o e n hb hx)
  ·obtain ⟨sl,e1⟩:=I.base.slot b o e n hb hx
   exact ⟨sl,(hs.2 b (aC (aO (aw e) I.ok.above))).trans e1⟩
  ·obtain ⟨o',e1⟩:=I.base.there b o e hx
   exact ⟨o',(hs.2 b (aC (aO (aw e) I.ok.above))).trans e1⟩
  ·by_cases hj:j=i
   ·subst hj
    rw [hi] at e1;cases e1
    rw [fQ hiσ] at e2
    cases e2
    exact ⟨u,r,.inl ⟨hk,by simp⟩⟩
   ·rw [iD (cF hj)] at e2
    obtain ⟨u',r',q⟩:=hl j y v' e1 e2 e3
    refine ⟨u',r',?_⟩
    rcases q with ⟨k,e⟩ | ⟨k,c,e,z⟩
    ·refine .inl ⟨k,?_⟩
     have:y≠x:=λe=>hj (gj hN e1 (e ▸ hi))
     simp [this,e]
    ·exact .inr ⟨k,c,e,z.sameBut hs (cne y c e)⟩
  ·obtain ⟨w',z⟩:=I.cell y c e
   exact ⟨w',z.sameBut hs (cne y c e)⟩
  ·obtain ⟨e,n,ne,nf,d⟩:=I.pin p hp
   exact ⟨(hs.2 p.1 ne).trans e,n,ne,nf,d⟩
 ·have hfn:X.fn x=true:=by
   rcases hf with z | z
   ·exact z
   ·rw [z] at hk;cases hk
  obtain ⟨c,hc⟩:=I.ok.has x (.inl hk)
  obtain ⟨w',z⟩:=I.cell x c hc
  refine wpAny_storeName_cell I.ok.kind hk hc z (λh' hc' hs=>?_)
  obtain ⟨oc,hoc,hocd⟩:=id z
  refine h { s with heap:=h' } ⟨I.ok,I.os,I.bare,⟨λb o e n hb hx=>?_,λb o e n hb hx=>?_,I.base.free,λb o e hx=>?_,I.base.tups,I.base.frzs,I.base.tbls⟩,⟨m,hn.sameBut hs (cF (cne x c hc)),λj y v' e1 e2 e3=>?_⟩,λy c' e=>?_,I.free,I.freeC,λp hp=>?_,tracked ⟨oc,hoc,I.freeC x c hc⟩ hs,by simpa using I.len⟩ ⟨c,hs,.inr hc⟩
  ·exact (hs.2 b (aC (aO (aw e) (I.ok.cab x c hfn hc)))).trans (I.base.keep b o e n hb hx)
  ·obtain ⟨sl,e1⟩:=I.base.slot b o e n hb hx
   exact ⟨sl,(hs.2 b (aC (aO (aw e) (I.ok.cab x c hfn hc)))).trans e1⟩
  ·obtain ⟨o',e1⟩:=I.base.there b o e hx
   exact ⟨o',(hs.2 b (aC (aO (aw e) (I.ok.cab x c hfn hc)))).trans e1⟩
  ·by_cases hj:j=i
   ·subst hj
    rw [hi] at e1;cases e1
    rw [fQ hiσ] at e2
    cases e2
    exact ⟨u,r,.inr ⟨.inl hk,c,hc,hc'⟩⟩
   ·rw [iD (cF hj)] at e2
    obtain ⟨u',r',q⟩:=hl j y v' e1 e2 e3
    refine ⟨u',r',?_⟩
    rcases q with q | ⟨k,c',e,z'⟩
    ·exact .inl q
    ·refine .inr ⟨k,c',e,z'.sameBut hs ?_⟩
     rintro rfl
     exact hj (gj hN e1 (I.ok.inj _ _ _ e hc ▸ hi))
  ·by_cases hcc:c'=c
   ·subst hcc;exact ⟨_,hc'⟩
   ·obtain ⟨w2,z2⟩:=I.cell y c' e
    exact ⟨w2,z2.sameBut hs hcc⟩
  ·obtain ⟨e,n,ne,nf,d⟩:=I.pin p hp
   refine ⟨(hs.2 p.1 ?_).trans e,n,ne,nf,d⟩
   intro q
   rw [q,hoc] at e
   have q':oc=p.2:=aW e
   exact d w' (by rw [<- q'];exact hocd)
theorem uy {i:Nat}{Q:Unit->Shared->Prop}(I:Inv X pins σ H s) (hN:X.N.Nodup) (hi:X.N[i]? = some x) (hx:Loc X.env.scope x) (r:jF v u)
  (h:∀s',Inv X pins (σ.set i (some v)) H s'->Q () s') (hf:X.fn x=true\/X.env.scope.names.lookup x=some .local:=by first | exact .inl rfl | exact .inr rfl | assumption):ax M A (tT X.env x u) Q E s :=
 JP I hN hi hx r (λs' I' _=>h s' I') hf
theorem Inv.call' {s':Shared}{ch:List Addr}(I:Inv X pins σ H s) (ho:s'.os=s.os) (u:Un (frs X.stack) ch H H' s.heap s'.heap) (hok:HOk X.prog X.w H' s'.heap) (hg:iz s'.gens)
  (hch:∀b∈ch,(b∈X.ex\/X.s₀.heap.objs.size<=b)/\b≠X.env.locals/\(∀x c,X.env.cells.lookup x=some c->c≠b)/\∀p∈X.pn++pins,p.1≠b):Inv X pins σ H' s':=by
 obtain ⟨h',g',d',t',o'⟩:=s'
 have e:o'=s.os:=ho
 subst e
 exact I.call (g':=g') (t':=t') (d':=d') u hok hg hch
end
noncomputable abbrev XK:=aj->Option Addr->Hp->Prop
noncomputable abbrev St:=List (Option V)
noncomputable abbrev VK:=V->Hp->Prop
noncomputable abbrev TE:=St->Hp->VK->Prop
noncomputable abbrev TT:=St->Hp->(Bool->Hp->Prop)->Prop
noncomputable abbrev TA:=St->Hp->(List V->Hp->Prop)->Prop
structure Ends where
 nx:St->Hp->Prop
 rt:VK
 bk:St->Hp->Prop:=λ_ _=>False
 ct:St->Hp->Prop:=λ_ _=>False
noncomputable abbrev TS:=Ends->St->Hp->Prop
noncomputable def EP (X:Cx) (pins:List (Addr×Obj)) (σ:St) (Q:VK) (u:aj) (s':Shared):Prop:=∃v H',Inv X pins σ H' s'/\jF v u/\Q v H'
noncomputable def TP (X:Cx) (pins:List (Addr×Obj)) (σ:St) (Q:Bool->Hp->Prop) (b:Bool) (s':Shared):Prop:=∃H',Inv X pins σ H' s'/\Q b H'
noncomputable def AP (X:Cx) (pins:List (Addr×Obj)) (σ:St) (Q:List V->Hp->Prop) (us:List aj) (s':Shared):Prop:=∃vs H',Inv X pins σ H' s'/\jE vs us/\Q vs H'
noncomputable def SP (X:Cx) (pins:List (Addr×Obj)) (D:Ends) (f:Flow) (s':Shared):Prop :=
 match f with
 | .next=>∃σ' H',Inv X pins σ' H' s'/\D.nx σ' H'
 | .brk=>∃σ' H',Inv X pins σ' H' s'/\D.bk σ' H'
 | .cont=>∃σ' H',Inv X pins σ' H' s'/\D.ct σ' H'
 | .ret u=>∃v σ' H',Inv X pins σ' H' s'/\jF v u/\D.rt v H'
noncomputable def PE (X:Cx) (e:Expr) (t:TE):Prop :=
 ∀(pins:List (Addr×Obj)) (s:Shared) (σ:St) (H:Hp) (Q:VK),Inv X pins σ H s->t σ H Q->ax (aE X.prog X.w) X.A (eval e X.env) (EP X pins σ Q) X.xe s
noncomputable def PT (X:Cx) (e:Expr) (t:TT):Prop :=
 ∀(pins:List (Addr×Obj)) (s:Shared) (σ:St) (H:Hp) (Q:Bool->Hp->Prop),Inv X pins σ H s->t σ H Q->ax (aE X.prog X.w) X.A (isTrue e X.env (eval e X.env)) (TP X pins σ Q) X.xe s
noncomputable def PW (X:Cx) (e:Expr) (t:TT):Prop :=
 ∀(whole:Sem aj) (pins:List (Addr×Obj)) (s:Shared) (σ:St) (H:Hp) (Q:Bool->Hp->Prop),Inv X pins σ H s->t σ H Q->ax (aE X.prog X.w) X.A (isTrue e X.env whole) (TP X pins σ Q) X.xe s
theorem PW.pt {X:Cx}{e:Expr}{t:TT}(h:PW X e t):PT X e t:=h _
noncomputable def PA (X:Cx) (es:List Expr) (t:TA):Prop :=
 ∀(pos:Pos) (pins:List (Addr×Obj)) (s:Shared) (σ:St) (H:Hp) (Q:List V->Hp->Prop),Inv X pins σ H s->t σ H Q->ax (aE X.prog X.w) X.A (spliced (cM pos (aP es X.env))) (AP X pins σ Q) X.xe s
noncomputable def PS (X:Cx) (st:Stmt) (t:TS):Prop :=
 ∀(pins:List (Addr×Obj)) (s:Shared) (σ:St) (H:Hp) (D:Ends),Inv X pins σ H s->t D σ H->ax (aE X.prog X.w) X.A (exec st X.env) (SP X pins D) X.xe s
noncomputable def PSs (X:Cx) (st:List Stmt) (t:TS):Prop :=
 ∀(pins:List (Addr×Obj)) (s:Shared) (σ:St) (H:Hp) (D:Ends),Inv X pins σ H s->t D σ H->ax (aE X.prog X.w) X.A (execs st X.env) (SP X pins D) X.xe s
theorem thn {α:Type}{t:Sem α}{Q Q':α->Shared->Prop}{M:Model}{A:bz}{E:aj->Shared->Prop}{s:Shared}(h:ax M A t Q E s) (hQ:∀a s,Q a s->Q' a s):ax M A t Q' E s:=aZ h hQ λ_ _ x=>x
end L2
namespace L2
section
variable {X:Cx}
theorem bin {a b:Expr}{ta tb:TE}(ha:PE X a ta) (hb:PE X b tb) {pins:List (Addr×Obj)}{s:Shared}{σ:St}{H:Hp}{R:V->V->Hp->Prop}(I:Inv X pins σ H s) (h:ta σ H λx H1=>tb σ H1 λy H2=>R x y H2)
  {α:Type} {Q:α->Shared->Prop} {f:aj->aj->Sem α}
  (hf:∀v u s2 x y H2,Inv X pins σ H2 s2->jF x v->jF y u->R x y H2->ax (aE X.prog X.w) X.A (f v u) Q X.xe s2) :
  ax (aE X.prog X.w) X.A (eval a X.env) (λv s₁=>ax (aE X.prog X.w) X.A (eval b X.env) (λu s₂=>ax (aE X.prog X.w) X.A (f v u) Q X.xe s₂) X.xe s₁) X.xe s:=by
 refine thn (ha pins s σ H _ I h) λv s1 ⟨x,H1,I1,r1,q1⟩=>?_
 refine thn (hb pins s1 σ H1 _ I1 q1) λu s2 ⟨y,H2,I2,r2,q2⟩=>?_
 exact hf v u s2 x y H2 I2 r1 r2 q2
noncomputable def Jl (i:Nat):TE:=λσ H Q=>∃v,σ[i]? = some (some v)/\Q v H
noncomputable def tC (v:V):TE:=λ_ H Q=>Q v H
theorem Ek {i:Nat}{pos:Pos}(hN:X.N[i]? = some x) (hv:Vis X.env.scope x) (hd:(x == ("__debug__" : Str))=false:=by decide) (hcd:(x == ("__classdict__" : Str))=false:=by decide):PE X (.Name x pos) (Jl i):=by
 intro pins s σ H Q I h
 obtain ⟨v,e,h⟩:=h
 obtain ⟨m,hn,hl⟩:=I.loc
 obtain ⟨u,r,l⟩:=hl i x v hN e hv
 have fin:EP X pins σ Q u s:=⟨v,H,I,r,h⟩
 rcases l with ⟨hk,hm⟩ | ⟨hk,c,hc,hcell⟩
 ·exact sP (nj I.ok.kind hk hn hm fin) hd
 ·rcases hk with hk | hk
  ·exact sP (om I.ok.kind hk hc hcell fin) hd
  ·exact sP (wpAny_loadName_free I.ok.kind hk hc hcell fin hcd) hd
theorem j5 {i j pos}:PE X (.Constant (.int i) j pos) (tC (.int i)):=λ_ _ _ H _ I h=>wpAny_Constant_int ⟨.int i,H,I.tok _,⟨_,rfl⟩,h⟩
theorem XM {b j pos}:PE X (.Constant (.bool b) j pos) (tC (.bl b)):=λ_ _ _ H _ I h=>Constant_bool ⟨.bl b,H,I,rfl,h⟩
theorem ul {j pos}:PE X (.Constant .none j pos) (tC .non):=λ_ _ _ H _ I h=>Constant_none ⟨.non,H,I,rfl,h⟩
theorem jt {x j pos}:PE X (.Constant (.str x) j pos) (tC (.str x)):=λ_ _ _ H _ I h=>Calls.Constant_str ⟨.str x,H,I.tok _,⟨_,rfl⟩,h⟩
noncomputable def Gl (X:Cx) (x:Str):Prop:=X.env.kindOf x=some .globalImplicit
theorem yx {pos:Pos}{Q:aj->Shared->Prop}(I:Inv X pins σ H s) (hg:Gl X x) (hm:X.mg x=some u) (h:Q u s)
  (hd:(x == ("__debug__" : Str))=false:=by decide):ax (aE X.prog X.w) X.A (eval (.Name x pos) X.env) Q E s :=
 iZ I.ok.kind hg (Calls.loadGlobal_global (by rw [I.ok.glob];exact I.mod.glob.keeps I.bk) hm h) hd
theorem yN {pos:Pos}{Q:aj->Shared->Prop}(I:Inv X pins σ H s) (hg:Gl X x) (hm:X.mg x=none) (hv:fe x=some u) (h:Q u s)
  (hn:x ≠ "__name__":=by decide) (hd:(x == ("__debug__" : Str))=false:=by decide):ax (aE X.prog X.w) X.A (eval (.Name x pos) X.env) Q E s:=by
 obtain ⟨mb,h1,h2⟩:=I.mod.blt
 exact iZ I.ok.kind hg (Calls.loadGlobal_builtin (by rw [I.ok.glob];exact I.mod.glob.keeps I.bk) hm (by rw [I.ok.blt];exact h1.keeps I.bk) ((h2 x hn).trans hv) h) hd
theorem qH {pos:Pos}(hg:Gl X x) (hm:X.mg x=some u) (r:jF v u) (hd:(x == ("__debug__" : Str))=false:=by decide):PE X (.Name x pos) (tC v) :=
 λ_ _ _ H _ I h=>yx I hg hm ⟨v,H,I,r,h⟩ hd
theorem xp {pos:Pos}(hg:Gl X x) (hm:X.mg x=none) (hv:fe x=some u) (r:jF v u) (hn:x ≠ "__name__":=by decide) (hd:(x == ("__debug__" : Str))=false:=by decide):PE X (.Name x pos) (tC v) :=
 λ_ _ _ H _ I h=>yN I hg hm hv ⟨v,H,I,r,h⟩ hn hd
variable {a b:Expr}{ta tb:TE}{pos:Pos}
noncomputable def PC (X:Cx) (op:CmpOp) (a b:Expr) (t:TE):Prop :=
 ∀(pins:List (Addr×Obj)) (s:Shared) (σ:St) (H:Hp) (Q:VK),Inv X pins σ H s->t σ H Q ->
  ax (aE X.prog X.w) X.A (eval a X.env) (λv s₁=>ax (aE X.prog X.w) X.A (eval b X.env) (λu s₂=>ax (aE X.prog X.w) X.A (ck op v u) (EP X pins σ Q) X.xe s₂) X.xe s₁) X.xe s
theorem Us (b:Expr) {op:CmpOp}(h:op≠.In) (h2:op≠.NotIn):eK op b=false:=by
 have e1:(op == CmpOp.In)=false:=by cases op <;> first | rfl | exact absurd rfl h
 have e2:(op == CmpOp.NotIn)=false:=by cases op <;> first | rfl | exact absurd rfl h2
 cases b <;> simp [eK,e1,e2]
noncomputable def tB (t:TE):TT:=λσ H Q=>t σ H λx H1=>∃c,x = .bl c/\Q c H1
theorem Eu {t:TE}(h:PC X op a b t) (h1:eK op b=false:=by first | exact Us _ ⋯ ⋯ | rfl):PT X (.Compare a [op] [b] pos) (tB t):=by
 intro pins s σ H Q I hw
 refine mQ (thn (h pins s σ H _ I hw) λv s1 h1=>thn h1 λu s2 h2=>thn h2 λc s3 ⟨x,H1,I1,r1,q1⟩=>?_) h1
 obtain ⟨d,rfl,q⟩:=q1
 cases r1
 exact bQ ⟨H1,I1,q⟩
theorem y8 {t:TE}(h:PE X e t) (he:∀whole,isTrue e X.env whole=(do let v <- whole;ff e.pos;ef [v] (AX v)):=by intro _;rfl):PT X e (tB t):=by
 intro pins s σ H Q I hw
 refine isTrue_plain (thn (h pins s σ H _ I hw) λv s1 ⟨x,H1,I1,r1,q1⟩=>?_) (he _)
 obtain ⟨d,rfl,q⟩:=q1
 cases r1
 exact bQ ⟨H1,I1,q⟩
variable {tA tB':TT}{vj:List Expr}
noncomputable def EN (t u:TT):TT:=λσ H Q=>t σ H λc H1=>if c=true then u σ H1 Q else Q false H1
noncomputable def tOr (t u:TT):TT:=λσ H Q=>t σ H λc H1=>if c=true then Q true H1 else u σ H1 Q
noncomputable def tNot (t:TT):TT:=λσ H Q=>t σ H λc H1=>Q (!c) H1
theorem QI (ha:PT X a tA):PW X (.BoolOp .And [a] pos) tA:=by
 intro wh pins s σ H Q I h
 refine isTrue_and (thn (ha pins s σ H Q I h) λc s1 e=>?_)
 cases c with
 | true=>exact isTrue_and_nil e
 | false=>exact e
theorem hV (ha:PT X a tA):PW X (.BoolOp .Or [a] pos) tA:=by
 intro wh pins s σ H Q I h
 refine isTrue_or (thn (ha pins s σ H Q I h) λc s1 e=>?_)
 cases c with
 | false=>exact isTrue_or_nil e
 | true=>exact e
theorem ZO (ha:PT X a tA) (hb:PW X (.BoolOp .And (b::vj) pos) tB'):PW X (.BoolOp .And (a::b::vj) pos) (EN tA tB'):=by
 intro wh pins s σ H Q I h
 refine isTrue_and (thn (ha pins s σ H _ I h) λc s1 ⟨H1,I1,q1⟩=>?_)
 cases c with
 | true=>exact hb wh pins s1 σ H1 Q I1 q1
 | false=>exact ⟨H1,I1,q1⟩
theorem Ju (ha:PT X a tA) (hb:PW X (.BoolOp .Or (b::vj) pos) tB'):PW X (.BoolOp .Or (a::b::vj) pos) (tOr tA tB'):=by
 intro wh pins s σ H Q I h
 refine isTrue_or (thn (ha pins s σ H _ I h) λc s1 ⟨H1,I1,q1⟩=>?_)
 cases c with
 | true=>exact ⟨H1,I1,q1⟩
 | false=>exact hb wh pins s1 σ H1 Q I1 q1
theorem x4 (ha:PT X a tA):PT X (.UnaryOp .Not a pos) (tNot tA):=by
 intro pins s σ H Q I h
 exact isTrue_not (ha pins s σ H (λc H1=>Q (!c) H1) I h)
noncomputable def A5 (ta tb:TE):TE:=λσ H Q=>ta σ H λx H1=>∃c,x = .bl c/\if c=true then tb σ H1 Q else Q (.bl false) H1
noncomputable def tOrV (ta tb:TE):TE:=λσ H Q=>ta σ H λx H1=>∃c,x = .bl c/\if c=true then Q (.bl true) H1 else tb σ H1 Q
noncomputable def A9 (ta:TE):TE:=λσ H Q=>ta σ H λx H1=>∃c,x = .bl c/\Q (.bl (!c)) H1
theorem yu {op}{t:TE}(h:PE X a t):PE X (.BoolOp op [a] pos) t:=λpins s σ H Q I hw=>BoolOp_one (h pins s σ H Q I hw)
theorem yH (ha:PE X a ta) (hb:PE X (.BoolOp .And (b::vj) pos) tb):PE X (.BoolOp .And (a::b::vj) pos) (A5 ta tb):=by
 intro pins s σ H Q I h
 refine BoolOp_and (thn (ha pins s σ H _ I h) λv s1 ⟨x,H1,I1,r1,q1⟩=>?_)
 obtain ⟨c,rfl,q1⟩:=q1
 cases r1
 refine bQ ?_
 cases c with
 | true=>exact hb pins s1 σ H1 Q I1 q1
 | false=>exact ⟨.bl false,H1,I1,rfl,q1⟩
theorem A0 (ha:PE X a ta) (hb:PE X (.BoolOp .Or (b::vj) pos) tb):PE X (.BoolOp .Or (a::b::vj) pos) (tOrV ta tb):=by
 intro pins s σ H Q I h
 refine BoolOp_or (thn (ha pins s σ H _ I h) λv s1 ⟨x,H1,I1,r1,q1⟩=>?_)
 obtain ⟨c,rfl,q1⟩:=q1
 cases r1
 refine bQ ?_
 cases c with
 | false=>exact hb pins s1 σ H1 Q I1 q1
 | true=>exact ⟨.bl true,H1,I1,rfl,q1⟩
theorem Ey (ha:PE X a ta):PE X (.UnaryOp .Not a pos) (A9 ta):=by
 intro pins s σ H Q I h
 refine UnaryOp_ (thn (ha pins s σ H _ I h) λv s1 ⟨x,H1,I1,r1,q1⟩=>?_)
 obtain ⟨c,rfl,q1⟩:=q1
 cases r1
 exact not_of (bQ ⟨.bl (!c),H1,I1,rfl,q1⟩)
noncomputable def tIf (t:TT) (ta tb:TE):TE:=λσ H Q=>t σ H λc H1=>if c=true then ta σ H1 Q else tb σ H1 Q
theorem UE (hc:PT X c tA) (ha:PE X a ta) (hb:PE X b tb):PE X (.IfExp c a b pos) (tIf tA ta tb):=by
 intro pins s σ H Q I h
 refine wpAny_IfExp (thn (hc pins s σ H _ I h) λd s1 ⟨H1,I1,q1⟩=>?_)
 cases d with
 | true=>exact ha pins s1 σ H1 Q I1 q1
 | false=>exact hb pins s1 σ H1 Q I1 q1
end
end L2
namespace L2
noncomputable def SqL (K:ag) (H:Hp) (a:Addr) (xs:List V):Prop :=
 Rd H a (.lst xs) \/
  ∃(o:Obj) (its:Array aj) (n:Nat),K.lookup a=some o/\o.cls = .type "list" /\ o.dict=none/\o.data = .seq its n/\its.size<=sizeLine/\jE xs its.toList
noncomputable def SqT (K:ag) (H:Hp) (a:Addr) (xs:List V):Prop :=
 Rd H a (.tup xs) \/
  ∃(o:Obj) (its:Array aj) (n:Nat),K.lookup a=some o/\o.cls = .type "tuple" /\ o.data = .seq its n/\its.size<=sizeLine/\jE xs its.toList
noncomputable def absV:aj->Option V
 | .none=>some .non
 | .bool b=>some (.bl b)
 | .int i _=>some (.int i)
 | .str x _=>some (.str x)
 | .bytes b _=>some (.byt b)
 | .float b _=>some (.flt b)
 | .ref a=>some (.ref a)
 | .type n=>some (.ty n)
 | _=>none
theorem jF.abs {x:V}(r:jF x u):absV u=some x:=by
 cases x with
 | non=>cases r;rfl
 | bl _=>cases r;rfl
 | int _=>obtain ⟨t,rfl⟩:=r;rfl
 | str _=>obtain ⟨t,rfl⟩:=r;rfl
 | byt _=>obtain ⟨t,rfl⟩:=r;rfl
 | flt _=>obtain ⟨t,rfl⟩:=r;rfl
 | ref _=>cases r;rfl
 | ty _=>cases r;rfl
theorem jF.inj {x:V}(r:jF x u) (q:jF y u):x=y:=aW (r.abs.symm.trans q.abs)
theorem jE.inj:∀{xs ys:List V}{us:List aj},jE xs us->jE ys us->xs=ys
 | _,_,_,.nil,.nil=>rfl
 | _,_,_,.cons r t,.cons r' t'=>by rw [r.inj r',jE.inj t t']
section
variable {X:Cx}{pins:List (Addr×Obj)}{σ:St}{H:Hp}{s:Shared}{a:Addr}{xs ys:List V}
theorem SqL.of {K:ag}(h:H a=some (.lst xs)):SqL K H a xs:=.inl (.inl h)
theorem SqT.of {K:ag}(h:H a=some (.tup xs)):SqT K H a xs:=.inl (.inl h)
theorem Inv.list (I:Inv X pins σ H s) (h:SqL X.K H a xs):∃its:List aj,jE xs its/\PlainL s.heap a its.toArray/\xs.length<=sizeLine:=by
 rcases h with h | ⟨o,its,n,hk,hc,hd,hs,hz,r⟩
 ·obtain ⟨z,its,n,r,e⟩:=h.ok I.hok
  exact ⟨its,r,⟨_,n,e,rfl,rfl,rfl⟩,z⟩
 ·refine ⟨its.toList,r,⟨o,n,I.kIn a o hk,hc,hd,by simpa using hs⟩,?_⟩
  have e:=r.length
  simp only [cw] at e
  omega
theorem Inv.tuple (I:Inv X pins σ H s) (h:SqT X.K H a xs):∃its:List aj,jE xs its/\rS s.heap a its.toArray/\xs.length<=sizeLine:=by
 rcases h with h | ⟨o,its,n,hk,hc,hs,hz,r⟩
 ·obtain ⟨z,its,r,p⟩:=h.ok I.hok
  exact ⟨its,r,p,z⟩
 ·refine ⟨its.toList,r,⟨o,I.kIn a o hk,hc,n,by simpa using hs⟩,?_⟩
  have e:=r.length
  simp only [cw] at e
  omega
theorem Inv.list_inj (I:Inv X pins σ H s) (h:SqL X.K H a xs) (h':SqL X.K H a ys):xs=ys:=by
 obtain ⟨its,r,⟨o,n,e,_,_,d⟩,_⟩:=I.list h
 obtain ⟨its',r',⟨o',n',e',_,_,d'⟩,_⟩:=I.list h'
 rw [e] at e';cases e'
 rw [d] at d'
 injection d' with d1 _
 have:its=its':=by simpa using congrArg Array.toList d1
 subst this
 exact r.inj r'
theorem Inv.tuple_inj (I:Inv X pins σ H s) (h:SqT X.K H a xs) (h':SqT X.K H a ys):xs=ys:=by
 obtain ⟨its,r,⟨o,e,_,n,d⟩,_⟩:=I.tuple h
 obtain ⟨its',r',⟨o',e',_,n',d'⟩,_⟩:=I.tuple h'
 rw [e] at e';cases e'
 rw [d] at d'
 injection d' with d1 _
 have:its=its':=by simpa using congrArg Array.toList d1
 subst this
 exact r.inj r'
end
noncomputable abbrev Cx.wish (X:Cx) (E:aj->Shared->Prop):Cx:={ X with xe:=E }
noncomputable abbrev Cx.nox (X:Cx):Cx:=X.wish λ_ _=>False
theorem Cx.Ok.wish {X:Cx}(ok:X.Ok) (E:aj->Shared->Prop):(X.wish E).Ok :=
 ⟨ok.mod,ok.kind,ok.glob,ok.blt,ok.above,ok.inj,ok.has,ok.cab,ok.hd,ok.frames,ok.stk,ok.exf,ok.bs,ok.bsz,ok.noex,ok.exfs,ok.funs,ok.frf⟩
theorem Cx.Ok.unwish {X:Cx}(ok:(X.wish E).Ok):X.Ok :=
 ⟨ok.mod,ok.kind,ok.glob,ok.blt,ok.above,ok.inj,ok.has,ok.cab,ok.hd,ok.frames,ok.stk,ok.exf,ok.bs,ok.bsz,ok.noex,ok.exfs,ok.funs,ok.frf⟩
section
variable {X:Cx}{pins:List (Addr×Obj)}{σ:St}{H:Hp}{s:Shared}{E:aj->Shared->Prop}
theorem Inv.wish (I:Inv X pins σ H s) (E:aj->Shared->Prop):Inv (X.wish E) pins σ H s:=⟨I.ok.wish E,I.os,I.bare,I.base,I.loc,I.cell,I.free,I.freeC,I.pin,I.hok,I.len⟩
theorem Inv.unwish (I:Inv (X.wish E) pins σ H s):Inv X pins σ H s:=⟨I.ok.unwish,I.os,I.bare,I.base,I.loc,I.cell,I.free,I.freeC,I.pin,I.hok,I.len⟩
theorem SP.unwish {D:Ends}(h:SP (X.wish E) pins D f s'):SP X pins D f s':=by
 cases f with
 | next=>obtain ⟨σ',H',I,q⟩:=h;exact ⟨σ',H',I.unwish,q⟩
 | brk=>obtain ⟨σ',H',I,q⟩:=h;exact ⟨σ',H',I.unwish,q⟩
 | cont=>obtain ⟨σ',H',I,q⟩:=h;exact ⟨σ',H',I.unwish,q⟩
 | ret u=>obtain ⟨v,σ',H',I,r,q⟩:=h;exact ⟨v,σ',H',I.unwish,r,q⟩
theorem PE.nox {e:Expr}{t:TE}(h:PE X.nox e t):PE X e t:=λpins s σ H Q I hw =>
 aZ (h pins s σ H Q (I.wish _) hw) (λ_ _ ⟨v,H',I',r,q⟩=>⟨v,H',I'.unwish,r,q⟩) λ_ _ z=>bt z
theorem PSs.nox {st:List Stmt}{t:TS}(h:PSs X.nox st t):PSs X st t:=λpins s σ H D I hw =>
 aZ (h pins s σ H D (I.wish _) hw) (λ_ _ q=>q.unwish) λ_ _ z=>bt z
end
section
variable {X:Cx}{st:Stmt}{vj:List Stmt}{t u:TS}{e:Expr}{te:TE}{pos:Pos}
noncomputable def A6:TS:=λD σ H=>D.nx σ H
noncomputable def tSeq (t u:TS):TS:=λD σ H=>t { D with nx:=u D } σ H
theorem jx:PSs X [] A6:=λ_ _ σ H _ I h=>fC ⟨σ,H,I,h⟩
theorem j4 (h1:PS X st t) (h2:PSs X vj u):PSs X (st::vj) (tSeq t u):=by
 intro pins s σ H D I h
 refine m6 (thn (h1 pins s σ H { D with nx:=u D } I h) λf s1 q=>?_)
 cases f with
 | next =>
  obtain ⟨σ',H',I',q⟩:=q
  exact h2 pins s1 σ' H' D I' q
 | ret v=>exact q
 | brk=>exact q
 | cont=>exact q
theorem j9 (h1:PS X st t):PSs X [st] t:=by
 intro pins s σ H D I h
 refine m6 (thn (h1 pins s σ H D I h) λf s1 q=>?_)
 cases f with
 | next=>exact fC q
 | ret v=>exact q
 | brk=>exact q
 | cont=>exact q
noncomputable def GS:TS:=λD σ H=>D.bk σ H
theorem Uw:PS X (.Break pos) GS:=λ_ _ σ H _ I h=>wpAny_Break ⟨σ,H,I,h⟩
theorem Inv.quiet (I:Inv X pins σ H s):interactive X.env=false:=by simp [interactive,I.ok.kind]
noncomputable def A1 (te:TE):TS:=λD σ H=>te σ H λ_ H1=>D.nx σ H1
theorem jP (he:PE X e te) (hs:iX e none pos.line X.env=pure false:=by rfl):PS X (.Expr e pos) (A1 te):=by
 intro pins s σ H D I h
 exact wpAny_Expr_any (thn (he pins s σ H _ I h) λv s1 ⟨x,H1,I1,r1,q1⟩=>⟨σ,H1,I1,q1⟩) I.quiet hs
noncomputable def Wg (te:TE):TS:=λD σ H=>te σ H D.rt
theorem jk (he:PE X e te):PS X (.Return (some e) pos) (Wg te):=by
 intro pins s σ H D I h
 exact wpAny_Return_some (thn (he pins s σ H _ I h) λv s1 ⟨x,H1,I1,r1,q1⟩=>⟨x,σ,H1,I1,r1,q1⟩)
noncomputable def tIfS (c:TT) (t u:TS):TS:=λD σ H=>c σ H λb H1=>if b=true then t D σ H1 else u D σ H1
theorem jS (hc:PT X c tc) (ha:PSs X a t) (hb:PSs X b u):PS X (.If c a b pos) (tIfS tc t u):=by
 intro pins s σ H D I h
 refine wpAny_If (thn (hc pins s σ H _ I h) λd s1 ⟨H1,I1,q1⟩=>?_)
 cases d with
 | true=>exact ha pins s1 σ H1 D I1 q1
 | false=>exact hb pins s1 σ H1 D I1 q1
end
noncomputable abbrev TG:=V->St->Hp->(St->Hp->Prop)->Prop
noncomputable abbrev TGs:=List V->St->Hp->(St->Hp->Prop)->Prop
noncomputable def PG (X:Cx) (target:Expr) (t:TG):Prop :=
 ∀(pins:List (Addr×Obj)) (s:Shared) (σ:St) (H:Hp) (v:V) (u:aj) (Q:St->Hp->Prop),Inv X pins σ H s->jF v u->t v σ H Q ->
  ax (aE X.prog X.w) X.A (ip target X.env u) (λ_ s'=>∃σ' H',Inv X pins σ' H' s'/\Q σ' H') X.xe s
noncomputable def PGs (X:Cx) (ts:List Expr) (t:TGs):Prop :=
 ∀(pins:List (Addr×Obj)) (s:Shared) (σ:St) (H:Hp) (vs:List V) (us:List aj) (Q:St->Hp->Prop),Inv X pins σ H s->jE vs us->t vs σ H Q ->
  ax (aE X.prog X.w) X.A (tI ((d8 ts X.env).map (·.2)) us) (λ_ s'=>∃σ' H',Inv X pins σ' H' s'/\Q σ' H') X.xe s
noncomputable abbrev E9:=V->V->V->Hp->(Hp->Prop)->Prop
noncomputable def Aq (X:Cx) (t:E9):Prop :=
 ∀(pins:List (Addr×Obj)) (s:Shared) (σ:St) (H:Hp) (o i v:V) (ov iv u:aj) (Q:Hp->Prop),Inv X pins σ H s->jF o ov->jF i iv->jF v u->t o i v H Q ->
  ax (aE X.prog X.w) X.A (setItem ov iv u) (λ_ s'=>∃H',Inv X pins σ H' s'/\Q H') X.xe s
noncomputable abbrev TIp:=V->V->Hp->VK->Prop
noncomputable def PIp (X:Cx) (op:Operator) (t:TIp):Prop :=
 ∀(pins:List (Addr×Obj)) (s:Shared) (σ:St) (H:Hp) (x y:V) (v u:aj) (Q:VK),Inv X pins σ H s->jF x v->jF y u->t x y H Q ->
  ax (aE X.prog X.w) X.A (inplaceOp op v u) (EP X pins σ Q) X.xe s
section
variable {X:Cx}{pos:Pos}
noncomputable def uu (i:Nat):TG:=λv σ H Q=>Q (σ.set i (some v)) H
theorem ja {i:Nat}(hN:X.N.Nodup) (hi:X.N[i]? = some x) (hx:Loc X.env.scope x) (hf:X.fn x=true\/X.env.scope.names.lookup x=some .local:=by first | exact .inl rfl | exact .inr rfl | assumption):PG X (.Name x pos) (uu i):=by
 intro pins s σ H v u Q I r h
 exact pf (uy I hN hi hx r (λs' I'=>⟨_,H,I',h⟩) hf)
noncomputable def gNil:TGs:=λvs σ H Q=>vs=[]/\Q σ H
noncomputable def Am (t:TG) (u:TGs):TGs:=λvs σ H Q=>∃v r,vs=v::r/\t v σ H λσ' H'=>u r σ' H' Q
theorem qh:PGs X [] gNil:=by
 intro pins s σ H vs us Q I r h
 obtain ⟨e,h⟩:=h
 subst e
 cases r
 exact assignInOrder_nil ⟨σ,H,I,h⟩
theorem jm {t:TG}(h1:PG X e t) (h2:PGs X es u)
  (hs:(d8 (e::es) X.env).map (·.2)=ip e X.env::(d8 es X.env).map (·.2):=by rfl):PGs X (e::es) (Am t u):=by
 intro pins s σ H vs us Q I r h
 obtain ⟨v,vr,e1,h⟩:=h
 subst e1
 cases r with
 | cons r rr =>
  rw [hs]
  refine assignInOrder_cons (thn (h1 pins s σ H _ _ _ I r h) λ_ s1 ⟨σ1,H1,I1,q1⟩=>?_)
  exact h2 pins s1 σ1 H1 _ _ Q I1 rr q1
noncomputable def EO (K:ag) (n:Nat) (t:TGs):TG:=λv σ H Q=>∃a xs,v = .ref a/\SqT K H a xs/\xs.length=n/\t xs σ H Q
theorem Er {k:Nat}{t:TGs}{n:Nat}(hc:X.calm=true) (h:PGs X es t)
  (hn:(d8 es X.env).length=n:=by rfl) (hst:(d8 es X.env).findIdx? (·.1)=none:=by rfl):PG X (.Tuple es k pos) (EO X.K n t):=by
 intro pins s σ H v u Q I r hw
 obtain ⟨a,xs,e1,hq,hl,hw⟩:=hw
 subst e1
 cases r
 obtain ⟨its,rv,ht,hz⟩:=I.tuple hq
 refine assign_Tuple_tuple (I.ok.hd hc) ht (by simp [hn,<- hl,rv.length]) hst λh' hx=>?_
 have I1:Inv X pins σ H { s with heap:=h' }:=I.kept (t':=s.toks) λb o e=>hx b o (aC (aw e)) e
 exact h pins _ σ H xs _ Q I1 (by simpa using rv) hw
noncomputable def gSub (to ti:TE) (t:E9):TG:=λv σ H Q=>to σ H λo H1=>ti σ H1 λi H2=>t o i v H2 λH3=>Q σ H3
theorem kz {t:E9}(ho:PE X o to) (hi:PE X i ti) (hs:Aq X t)
  (ha:∀v,ip (.Subscript o i pos) X.env v=(do
   let ov <- ef [v] (eval o X.env)
   let iv <- ef [v,ov] (eval i X.env)
   ff pos
   ef [v,ov,iv] (setItem ov iv v)
   release [v,ov,iv] []):=by intro _;rfl):PG X (.Subscript o i pos) (gSub to ti t):=by
 intro pins s σ H v u Q I r h
 rw [ha]
 refine aa (bw (thn (ho pins s σ H _ I h) λov s1 ⟨x,H1,I1,r1,q1⟩=>?_))
 refine aa (bw (thn (hi pins s1 σ H1 _ I1 q1) λiv s2 ⟨y,H2,I2,r2,q2⟩=>?_))
 refine aa (cY (aa (bw (thn (hs pins s2 σ H2 x y v ov iv u _ I2 r1 r2 r q2) λ_ s3 ⟨H3,I3,q3⟩=>?_))))
 exact wpAny_release ⟨σ,H3,I3,q3⟩
noncomputable def WX (te:TE) (g:TG):TS:=λD σ H=>te σ H λx H1=>g x σ H1 D.nx
theorem xF (he:PE X e te) (hg:PG X tg g) (hs:swapsWithSole [tg] e pos.line X.env=pure false:=by rfl) (hw:swappedStores [tg] e X.env=pure none:=by rfl)
  (h1:(d8 [tg] X.env).map (·.2)=[ip tg X.env]:=by rfl):PS X (.Assign [tg] e pos) (WX te g):=by
 intro pins s σ H D I h
 refine wpAny_Assign_stores (thn (he pins s σ H _ I h) λv s1 ⟨x,H1,I1,r1,q1⟩=>?_) hs hw
 rw [h1]
 exact thn (hg pins s1 σ H1 x v _ I1 r1 q1) λ_ s2 q=>q
theorem yI {i:Nat}(hN:X.N.Nodup) (hi:X.N[i]? = some x) (hx:Loc X.env.scope x) (he:PE X e te) (hs:iX e (some (.Name x pos')) pos.line X.env=pure false:=by rfl) (hf:X.fn x=true\/X.env.scope.names.lookup x=some .local:=by first | exact .inl rfl | exact .inr rfl | assumption) :
  PS X (.Assign [.Name x pos'] e pos) (WX te (uu i)):=by
 intro pins s σ H D I h
 refine wpAny_Assign_Name (thn (he pins s σ H _ I h) λv s1 ⟨y,H1,I1,r1,q1⟩=>?_) hs
 exact uy I1 hN hi hx r1 (λs2 I2=>⟨_,H1,I2,q1⟩) hf
theorem jr (i:Nat)(hN:X.N.Nodup) (he:PE X e te) (hi:X.N[i]?=some x:=by rfl) (hx:Loc X.env.scope x:=by exact aQ rfl) (hs:iX e (some (.Name x pos')) pos.line X.env=pure false:=by rfl) (hf:X.fn x=true\/X.env.scope.names.lookup x=some .local:=by first | exact .inl rfl | exact .inr rfl | assumption):PS X (.Assign [.Name x pos'] e pos) (WX te (uu i)):=yI hN hi hx he hs hf
noncomputable def tAug (i:Nat) (te:TE) (ti:TIp):TS:=λD σ H=>∃x,σ[i]? = some (some x)/\te σ H λy H1=>ti x y H1 λz H2=>D.nx (σ.set i (some z)) H2
theorem Qi {i:Nat}(hN:X.N.Nodup) (hi:X.N[i]? = some x) (hx:Loc X.env.scope x) (he:PE X e te) (ho:PIp X op ti) (hf:X.fn x=true\/X.env.scope.names.lookup x=some .local:=by first | exact .inl rfl | exact .inr rfl | assumption) :
  PS X (.AugAssign (.Name x pos') op e pos) (tAug i te ti):=by
 intro pins s σ H D I h
 obtain ⟨v,e1,h⟩:=h
 obtain ⟨m,hn,hl⟩:=I.loc
 have vis:Vis X.env.scope x:=by rcases hx with k | k;exact .inl k;exact .inr (.inl k)
 obtain ⟨u,r,l⟩:=hl i x v hi e1 vis
 refine wpAny_AugAssign_Name ?_
 have go:ax (aE X.prog X.w) X.A (eval e X.env) (λw s₂=>ax (aE X.prog X.w) X.A (inplaceOp op u w) (λr s₃=>ax (aE X.prog X.w) X.A (tT X.env x r) (λ_=>SP X pins D .next) X.xe s₃) X.xe s₂) X.xe s:=by
  refine thn (he pins s σ H _ I h) λw s1 ⟨y,H1,I1,r1,q1⟩=>?_
  refine thn (ho pins s1 σ H1 v y u w _ I1 r r1 q1) λz s2 ⟨zv,H2,I2,r2,q2⟩=>?_
  exact uy I2 hN hi hx r2 (λs3 I3=>⟨_,H2,I3,q2⟩) hf
 rcases l with ⟨hk,hm⟩ | ⟨hk,c,hc,hcell⟩
 ·exact nj I.ok.kind hk hn hm go
 ·rcases hk with hk | hk
  ·exact om I.ok.kind hk hc hcell go
  ·rcases hx with k | k
   ·have:X.env.scope.names.lookup x=some .free:=hk
    rw [k] at this;cases this
   ·have:X.env.scope.names.lookup x=some .free:=hk
    rw [k] at this;cases this
noncomputable def ipI (f:Int->Int->Int):TIp:=λx y H Q=>∃i j,x = .int i/\y = .int j/\Q (.int (f i j)) H
theorem Z2:PIp X .Add (ipI λi j=>i+j):=by
 intro pins s σ H x y v u Q I r1 r2 h
 obtain ⟨i,j,e1,e2,q⟩:=h
 subst e1;subst e2
 obtain ⟨t,rfl⟩:=r1
 obtain ⟨t',rfl⟩:=r2
 exact iadd_int ⟨.int _,H,I.tok _,⟨_,rfl⟩,q⟩
theorem Eh:PIp X .Sub (ipI λi j=>i-j):=by
 intro pins s σ H x y v u Q I r1 r2 h
 obtain ⟨i,j,e1,e2,q⟩:=h
 subst e1;subst e2
 obtain ⟨t,rfl⟩:=r1
 obtain ⟨t',rfl⟩:=r2
 exact isub_int ⟨.int _,H,I.tok _,⟨_,rfl⟩,q⟩
end
section
variable {X:Cx}{pos:Pos}
noncomputable def Ue (c:TT) (tb:TS):TS:=λD σ H=>∃W:Nat->St->Hp->Prop,(∃m,W m σ H)/\∀m σ H,W m σ H ->
 c σ H λb H1=>if b=true then ∃N:St->Hp->Prop,(∀σ' H',N σ' H'->∃m',m'<m/\W m' σ' H')/\tb { D with nx:=N,ct:=N,bk:=D.nx } σ H1 else D.nx σ H1
theorem J4 (hp:PassesOwn (aE X.prog X.w) X.A X.env X.xe) (hc:PT X c tc) (hb:PSs X body tb):PS X (.While c body [] pos) (Ue tc tb):=by
 intro pins s σ H D I h
 obtain ⟨W,⟨m0,w0⟩,turn⟩:=h
 refine wpAny_While (codeAny_whileLoop (λn s'=>∃σ' H',Inv X pins σ' H' s'/\W n σ' H') ?_ m0 ⟨σ,H,I,w0⟩)
 rintro n s1 ⟨σ1,H1,I1,w1⟩
 refine dC hp (thn (hc pins s1 σ1 H1 _ I1 (turn n σ1 H1 w1)) λb s2 ⟨H2,I2,q2⟩=>?_)
 cases b with
 | true =>
  obtain ⟨N,hN,q2⟩:=q2
  rw [if_pos rfl]
  refine dC hp (thn (hb pins s2 σ1 H2 _ I2 q2) λf s3 q3=>?_)
  cases f with
  | next =>
   obtain ⟨σ3,H3,I3,n3⟩:=q3
   obtain ⟨m',hm,w3⟩:=hN σ3 H3 n3
   exact ⟨m',hm,σ3,H3,I3,w3⟩
  | cont =>
   obtain ⟨σ3,H3,I3,n3⟩:=q3
   obtain ⟨m',hm,w3⟩:=hN σ3 H3 n3
   exact ⟨m',hm,σ3,H3,I3,w3⟩
  | brk=>exact q3
  | ret v=>exact q3
 | false =>
  rw [if_neg au]
  exact fC ⟨σ1,H2,I2,q2⟩
end
structure It where
 go:Nat->Hp->Prop
 yld:Nat->Hp->V->Hp->Prop
 stop:Nat->Hp->Prop
noncomputable def yF (X:Cx) (pins:List (Addr×Obj)) (H:Hp) (b:Addr):Prop :=
 H b=none/\b≠X.env.locals/\b∉X.fs/\(b∈X.ex\/X.s₀.heap.objs.size<=b)/\(∀x c,X.env.cells.lookup x=some c->c≠b)/\∀p∈X.pn++pins,p.1≠b
theorem Inv.fpOk {X:Cx}{H':Hp}{b:Addr}(I:Inv X pins σ H s) (hb:s.heap.objs.size<=b) (hn:H' b=none):yF X pins H' b:=by
 refine ⟨hn,cN (aO I.lt hb),I.nofs hb,.inr (aH I.sz hb),λx c e z=>?_,λp hp z=>?_⟩
 ·obtain ⟨v,q⟩:=I.cell x c e
  exact absurd (aO q.lt (by rw [z];exact hb)) (cK _)
 ·exact absurd (aO (aw (I.pin p hp).1) (by rw [z];exact hb)) (cK _)
structure Turn (P:Program) (w:bx) (K:ag) (tg:Expr) (J:It) (fp:List Addr) (it:Addr) (tn:Nat->Heap->Prop):Prop where
 mem:it∈fp
 obj:∀i h,tn i h->∀b∈fp,∃o,h.get? b=some o/\∀v,o.data≠.cell v
 keep:∀i h h',tn i h->(∀b∈fp,∀o,h.get? b=some o->h'.get? b=some o)->tn i h'
 item:∀(X:Cx),X.prog=P->X.w=w->X.K=K->X.calm=true->∀(i:Nat) (pins:List (Addr×Obj)) (s:Shared) (σ:St) (H:Hp) (E:aj->Shared->Prop),Inv X pins σ H s->(∀b∈fp,yF X pins H b)->tn i s.heap->J.go i H ->
  ax (aE P w) X.A (eP (.ref it)) (λr s1=>∃u,r=some u /\
   ax (aE P w) X.A (cT tg (.ref it) u) (λ_ s2=>∃x H',Inv X pins σ H' s2/\jF x u/\J.yld i H x H'/\tn (i+1) s2.heap/\∀b∈fp,H' b=none) E s1) E s
 done:∀(X:Cx),X.prog=P->X.w=w->X.K=K->X.calm=true->∀(i:Nat) (pins:List (Addr×Obj)) (s:Shared) (σ:St) (H:Hp) (E:aj->Shared->Prop),Inv X pins σ H s->(∀b∈fp,yF X pins H b)->tn i s.heap->J.stop i H ->
  ax (aE P w) X.A (eP (.ref it)) (λr s1=>r=none/\Inv X pins σ H s1) E s
 self:∀(A:bz) (i:Nat) (s:Shared) (Q:aj->Shared->Prop) (E:aj->Shared->Prop),tn i s.heap->Q (.ref it) s->ax (aE P w) A (lR (.ref it)) Q E s
noncomputable abbrev TI:=St->Hp->(It->Hp->Prop)->Prop
noncomputable def PIE (X:Cx) (pins:List (Addr×Obj)) (σ:St) (tg:Expr) (R:It->Hp->Prop) (itv:aj) (s2:Shared):Prop :=
 ∃(it:Addr) (fp:List Addr) (tn:Nat->Heap->Prop) (J:It) (H':Hp),itv = .ref it/\Inv X pins σ H' s2/\Turn X.prog X.w X.K tg J fp it tn/\tn 0 s2.heap/\(∀b∈fp,yF X pins H' b)/\R J H'
noncomputable def PI (X:Cx) (tg iter:Expr) (wi:TI):Prop :=
 ∀(pins:List (Addr×Obj)) (s:Shared) (σ:St) (H:Hp) (R:It->Hp->Prop),Inv X pins σ H s->wi σ H R ->
  ax (aE X.prog X.w) X.A (eval iter X.env) (λv s1=>ax (aE X.prog X.w) X.A (lR v) (PIE X pins σ tg R) X.xe s1) X.xe s
theorem Jr {s:Shared}{it:Addr}{n:String}{Q:Unit->Shared->Prop}(ho:s.heap.get? it=some o) (hc:o.cls = .type n) (hd:o.data = .fields vs)
  (hn:["enumerate","zip","dict_itemiterator","dict_reverseitemiterator","odict_iterator","itertools.zip_longest","itertools.pairwise"].contains n=false) (hQ:Q () s):ax M A (cT tg (.ref it) u) Q E s:=by
 unfold cT
 cases tg <;> first
  | exact wpAny_pure hQ
  | (cases u <;> first
    | exact wpAny_pure hQ
    | (refine aa (wpAny_load ho ?_)
       rw [hc,hd]
       show ax M A (if (["enumerate","zip","dict_itemiterator","dict_reverseitemiterator","odict_iterator","itertools.zip_longest","itertools.pairwise"].contains n && vs[0]? == some (cc _))=true then _ else _) Q E s
       rw [if_neg (by intro h;rw [hn,Bool.false_and] at h;cases h)]
       exact wpAny_pure hQ))
noncomputable def Itl (K:ag) (a:Addr):It :=
 ⟨λi H=>∃xs x,SqL K H a xs/\xs[i]? = some x,λi H x H'=>H'=H/\∀xs,SqL K H a xs->xs[i]? = some x,λi H=>∃xs,SqL K H a xs/\xs.length<=i⟩
noncomputable def Itt (K:ag) (a:Addr):It :=
 ⟨λi H=>∃xs x,SqT K H a xs/\xs[i]? = some x,λi H x H'=>H'=H/\∀xs,SqT K H a xs->xs[i]? = some x,λi H=>∃xs,SqT K H a xs/\xs.length<=i⟩
noncomputable def Itr (lo:Int) (n:Nat):It:=⟨λi _=>i<n,λi H x H'=>H'=H/\x = .int (lo+i),λi _=>n<=i⟩
theorem YH {K:ag}(a it:Addr):Turn P w K tg (Itl K a) [it] it (λi h=>h.IsListIter it a i) where
 mem:=by simp
 obj:=λi h st b hb=>by
  have e:b=it:=by simpa using hb
  subst e
  obtain ⟨o,e,c,d⟩:=st
  exact ⟨o,e,λv z=>by rw [d] at z;cases z⟩
 keep:=λi h h' st k=>st.at λo e=>k it (by simp) o e
 item:=by
  intro X hP hw hK hc i pins s σ H E I hf st hg
  subst hP hw hK
  obtain ⟨xs,x,hq,hx⟩:=hg
  obtain ⟨its,rv,p,hz⟩:=I.list hq
  obtain ⟨u,hu,ru⟩:=rv.get hx
  obtain ⟨f0,f1,f2,f3,f4,f5⟩:=hf it (by simp)
  refine fR st p.isList (x:=u) (by simpa using hu) λh' st' sb=>?_
  have I1:Inv X pins σ H { s with heap:=h' }:=I.turned (t':=s.toks) (λb o hb e=>(sb.2 b hb).trans e) f0 f1 f3 f4 f5
  obtain ⟨o,e,c,d⟩:=id st'
  exact ⟨u,rfl,Jr (s:={ s with heap:=h' }) e c d ⋯ ⟨x,H,I1,ru,⟨rfl,λys hy=>by rw [I.list_inj hy hq];exact hx⟩,st',λb hb=>(hf b hb).1⟩⟩
 done:=by
  intro X hP hw hK hc i pins s σ H E I hf st hg
  subst hP hw hK
  obtain ⟨xs,hq,hx⟩:=hg
  obtain ⟨its,rv,p,hz⟩:=I.list hq
  obtain ⟨f0,f1,f2,f3,f4,f5⟩:=hf it (by simp)
  have hl:=rv.length
  exact mR (I.ok.hd hc) st p.isList (by simp;omega) λh' eb=>⟨rfl,I.turned (t':=s.toks) (λb o hb e=>eb b o hb e) f0 f1 f3 f4 f5⟩
 self:=λ_ _ _ _ _ st h=>mS st h
theorem ZB {K:ag}(a it:Addr):Turn P w K tg (Itt K a) [it] it (λi h=>h.IsTupleIter it a i) where
 mem:=by simp
 obj:=λi h st b hb=>by
  have e:b=it:=by simpa using hb
  subst e
  obtain ⟨o,e,c,d⟩:=st
  exact ⟨o,e,λv z=>by rw [d] at z;cases z⟩
 keep:=λi h h' st k=>st.at λo e=>k it (by simp) o e
 item:=by
  intro X hP hw hK hc i pins s σ H E I hf st hg
  subst hP hw hK
  obtain ⟨xs,x,hq,hx⟩:=hg
  obtain ⟨its,rv,p,hz⟩:=I.tuple hq
  obtain ⟨u,hu,ru⟩:=rv.get hx
  obtain ⟨f0,f1,f2,f3,f4,f5⟩:=hf it (by simp)
  refine wpAny_pyNext_tuple_item st (show s.heap.IsTuple a its.toArray from p) (x:=u) (by simpa using hu) λh' st' sb=>?_
  have I1:Inv X pins σ H { s with heap:=h' }:=I.turned (t':=s.toks) (λb o hb e=>(sb.2 b hb).trans e) f0 f1 f3 f4 f5
  obtain ⟨o,e,c,d⟩:=id st'
  exact ⟨u,rfl,Jr (s:={ s with heap:=h' }) e c d ⋯ ⟨x,H,I1,ru,⟨rfl,λys hy=>by rw [I.tuple_inj hy hq];exact hx⟩,st',λb hb=>(hf b hb).1⟩⟩
 done:=by
  intro X hP hw hK hc i pins s σ H E I hf st hg
  subst hP hw hK
  obtain ⟨xs,hq,hx⟩:=hg
  obtain ⟨its,rv,p,hz⟩:=I.tuple hq
  obtain ⟨f0,f1,f2,f3,f4,f5⟩:=hf it (by simp)
  have hl:=rv.length
  exact wpAny_pyNext_tuple_end (I.ok.hd hc) st (show s.heap.IsTuple a its.toArray from p) (by simp;omega) λh' eb=>⟨rfl,I.turned (t':=s.toks) (λb o hb e=>eb b o hb e) f0 f1 f3 f4 f5⟩
 self:=λ_ _ _ _ _ st h=>wpAny_pyIter_tupleiter st h
theorem gC {K:ag}(it:Addr) (lo:Int) (n:Nat):Turn P w K tg (Itr lo n) [it] it (λi h=>rT h it (lo+(i:Nat)*1) ((n:Int)-(i:Nat)) 1) where
 mem:=by simp
 obj:=λi h st b hb=>by
  have e:b=it:=by simpa using hb
  subst e
  exact ⟨_,st,λv z=>by
   have z':nk _=m7 v:=z
   cases z'⟩
 keep:=λi h h' st k=>k it (by simp) _ st
 item:=by
  intro X hP hw hK hc i pins s σ H E I hf st hg
  subst hP hw hK
  obtain ⟨f0,f1,f2,f3,f4,f5⟩:=hf it (by simp)
  have W:=Walks.range (prog:=X.prog) (w:=X.w) (I.ok.hd hc) it lo 1 n
  refine W.item i s _ _ hg st λv h' tk hv st' kk=>?_
  obtain ⟨t,rfl⟩:=hv
  have I1:Inv X pins σ H { s with heap:=h',toks:=tk }:=I.turned (λb o hb e=>kk b o (by simpa using hb) e) f0 f1 f3 f4 f5
  refine ⟨_,rfl,Jr (s:={ s with heap:=h',toks:=tk }) (n:="range_iterator") st' rfl rfl ⋯ ⟨.int (lo+i),H,I1,⟨t,?_⟩,⟨rfl,rfl⟩,st',λb hb=>(hf b hb).1⟩⟩
  rw [Int.mul_one]
 done:=by
  intro X hP hw hK hc i pins s σ H E I hf st hg
  subst hP hw hK
  obtain ⟨f0,f1,f2,f3,f4,f5⟩:=hf it (by simp)
  exact wpAny_pyNext_range_end (I.ok.hd hc) st (by have:n<=i:=hg;omega) λh' eb=>⟨rfl,I.turned (t':=s.toks) (λb o hb e=>eb b o hb e) f0 f1 f3 f4 f5⟩
 self:=λ_ _ _ _ _ st h=>wpAny_pyIter_rangeiter st h
end L2
namespace L2
section
variable {X:Cx}{tg:Expr}
noncomputable def Yg (K:ag) (tl:TE):TI:=λσ H R=>tl σ H λx H1=>∃a,x = .ref a/\(∃xs,SqL K H1 a xs)/\R (Itl K a) H1
noncomputable def Ak (K:ag) (tl:TE):TI:=λσ H R=>tl σ H λx H1=>∃a,x = .ref a/\(∃xs,SqT K H1 a xs)/\R (Itt K a) H1
theorem WH (hl:PE X l tl):PI X tg l (Yg X.K tl):=by
 intro pins s σ H R I h
 refine thn (hl pins s σ H _ I h) λv s1 ⟨x,H1,I1,r1,q1⟩=>?_
 obtain ⟨a,e,⟨xs,hq⟩,q⟩:=q1
 subst e
 cases r1
 obtain ⟨its,rv,p,hz⟩:=I1.list hq
 refine dE p.isList ?_
 refine ⟨s1.heap.objs.size,[s1.heap.objs.size],_,_,H1,rfl,I1.kept (t':=s1.toks) λb o e=>ai _ e,YH a _,⟨_,ay _ rfl,rfl,rfl⟩,λb hb=>?_,q⟩
 have e:b=s1.heap.objs.size:=by simpa using hb
 subst e
 exact I1.fpOk (ar _) (I1.hok.fresh (ar _))
theorem EF (hl:PE X l tl):PI X tg l (Ak X.K tl):=by
 intro pins s σ H R I h
 refine thn (hl pins s σ H _ I h) λv s1 ⟨x,H1,I1,r1,q1⟩=>?_
 obtain ⟨a,e,⟨xs,hq⟩,q⟩:=q1
 subst e
 cases r1
 obtain ⟨its,rv,p,hz⟩:=I1.tuple hq
 refine oI (show s1.heap.IsTuple a its.toArray from p) ?_
 refine ⟨s1.heap.objs.size,[s1.heap.objs.size],_,_,H1,rfl,I1.kept (t':=s1.toks) λb o e=>ai _ e,ZB a _,⟨_,ay _ rfl,rfl,rfl⟩,λb hb=>?_,q⟩
 have e:b=s1.heap.objs.size:=by simpa using hb
 subst e
 exact I1.fpOk (ar _) (I1.hok.fresh (ar _))
theorem QY {R:It->Hp->Prop}{lo hi:Int}{t:Tok}{tk:Nat}(I:Inv X pins σ H s) (h1 : -(2 ^ 62)<=lo) (h2:lo<2 ^ 62) (h3 : -(2 ^ 62)<=hi) (h4:hi<2 ^ 62)
  (q:R (Itr lo (hi-lo).toNat) H):ax (aE X.prog X.w) X.A (lR (.ref s.heap.objs.size)) (PIE X pins σ tg R) E { s with heap:=s.heap.push { cls:=.type "range",data:=.fields #[.int lo t,.int hi u,.int 1 v] },toks:=tk }:=by
 refine oJ (rV ..) (small_one h1 h2 h3 h4) ?_
 have I1:Inv X pins σ H { s with heap:=s.heap.push { cls:=.type "range",data:=.fields #[.int lo t,.int hi u,.int 1 v] },toks:=tk }:=I.kept λb o e=>ai _ e
 refine ⟨(s.heap.push { cls:=.type "range",data:=.fields #[.int lo t,.int hi u,.int 1 v] }).objs.size,[(s.heap.push { cls:=.type "range",data:=.fields #[.int lo t,.int hi u,.int 1 v] }).objs.size],_,_,H,rfl,
  I1.kept (t':=tk) λb o e=>ai _ e,gC _ lo (hi-lo).toNat,?_,λb hb=>?_,q⟩
 ·have e1:lo+((0:Nat):Int)*1=lo:=by simp
  have e2:(((hi-lo).toNat:Nat):Int)-((0:Nat):Int)=m8 lo hi 1:=by rw [tJ];split <;> omega
  show rT _ _ (lo+((0:Nat):Int)*1) ((((hi-lo).toNat:Nat):Int)-((0:Nat):Int)) 1
  rw [e1,e2]
  exact ay _ rfl
 ·have e:b=(s.heap.push { cls:=.type "range",data:=.fields #[.int lo t,.int hi u,.int 1 v] }).objs.size:=by simpa using hb
  subst e
  exact I1.fpOk (ar _) (I1.hok.fresh (ar _))
noncomputable def AA (ta:TA):TI:=λσ H R=>ta σ H λvs H1=>∃j:Int,vs=[.int j] /\ -(2 ^ 62)<=j/\j<2 ^ 62/\R (Itr 0 j.toNat) H1
noncomputable def A4 (ta:TA):TI:=λσ H R=>ta σ H λvs H1=>∃i j:Int,vs=[.int i,.int j]/\(-(2 ^ 62)<=i/\i<2 ^ 62 /\ -(2 ^ 62)<=j/\j<2 ^ 62)/\R (Itr i (j-i).toNat) H1
theorem qi {a:Expr}{p pos:Pos}(hg:Gl X "range") (hm:X.mg "range" = none) (ha:PA X [a] ta) (hs:aP [a] X.env=[(false,eval a X.env)]:=by rfl):PI X tg (.Call (.Name "range" p) [a] [] pos) (AA ta):=by
 intro pins s σ H R I h
 refine AZ (yN I hg hm sQ (cf (thn (ha pos pins s σ H _ I h) λus s1 ⟨vs,H1,I1,r1,q1⟩=>?_) hs rfl))
 obtain ⟨j,e,q1,q2,q⟩:=q1
 subst e
 cases r1 with
 | cons r rr =>
  cases rr
  obtain ⟨t,rfl⟩:=r
  exact call_range_1 (QY I1 ∅ ∅ q1 q2 (by simpa using q))
theorem Yz {a b:Expr}{p pos:Pos}(hg:Gl X "range") (hm:X.mg "range" = none) (ha:PA X [a,b] ta) (hs:aP [a,b] X.env=[(false,eval a X.env),(false,eval b X.env)]:=by rfl) (hs2:aP [b] X.env=[(false,eval b X.env)]:=by rfl) :
  PI X tg (.Call (.Name "range" p) [a,b] [] pos) (A4 ta):=by
 intro pins s σ H R I h
 refine AZ (yN I hg hm sQ (cf (thn (ha pos pins s σ H _ I h) λus s1 ⟨vs,H1,I1,r1,q1⟩=>?_) (by rw [hs,hs2]) (by rw [hs2];rfl)))
 obtain ⟨i,j,e,⟨q1,q2,q3,q4⟩,q⟩:=q1
 subst e
 cases r1 with
 | cons r rr =>
  cases rr with
  | cons r' rr =>
   cases rr
   obtain ⟨t,rfl⟩:=r
   obtain ⟨t',rfl⟩:=r'
   exact call_range_2 (QY I1 q1 q2 q3 q4 q)
noncomputable def tFor (wi:TI) (g:TG) (tb:TS):TS:=λD σ H=>wi σ H λJ H1=>∃W:Nat->Nat->St->Hp->Prop,(∃m,W 0 m σ H1)/\∀i m σ H,W i m σ H ->
 (J.stop i H/\D.nx σ H)\/(J.go i H/\∃N:St->Hp->Prop,(∀σ' H',N σ' H'->∃m',m'<m/\W (i+1) m' σ' H')/\∀x H',J.yld i H x H'->g x σ H' λσ2 H2=>tb { D with nx:=N,ct:=N,bk:=D.nx } σ2 H2)
noncomputable def zn (fp:List Addr) (h:Heap):List (Addr×Obj):=fp.filterMap λb=>(h.get? b).map λo=>(b,o)
theorem qE {fp:List Addr}{h:Heap}{b:Addr}(hb:b∈fp) (e:h.get? b=some o):(b,o)∈zn fp h:=List.mem_filterMap.mpr ⟨b,hb,by rw [e];rfl⟩
theorem YX {p:Addr×Obj}(hp:p∈zn fp h):p.1∈fp/\h.get? p.1=some p.2:=by
 obtain ⟨b,hb,e⟩:=List.mem_filterMap.mp hp
 cases q:h.get? b with
 | none=>rw [q] at e;cases e
 | some o =>
  rw [q] at e
  have e':(b,o)=p:=aW e
  subst e'
  exact ⟨hb,q⟩
theorem Inv.pinned {fp:List Addr}(I:Inv X pins σ H s) (hf:∀b∈fp,yF X pins H b) (ho:∀b∈fp,∃o,s.heap.get? b=some o/\∀v,o.data≠.cell v):Inv X (pins++zn fp s.heap) σ H s :=
 I.pins_of λp hp=>(List.mem_append.mp hp).elim (λz=>I.pin p (aD _ z)) λz=>by
  obtain ⟨hb,e⟩:=YX z
  obtain ⟨f0,f1,f2,_⟩:=hf p.1 hb
  obtain ⟨o,e',d⟩:=ho p.1 hb
  rw [e] at e';cases e'
  exact ⟨e,f0,f1,f2,d⟩
theorem Inv.unpinned {pins pl:List (Addr×Obj)}(I:Inv X (pins++pl) σ H s):Inv X pins σ H s:=I.pins_of λp hp=>I.pin p (aD _ (bL _ hp))
theorem qw {pos:Pos}(hp:PassesOwn (aE X.prog X.w) X.A X.env X.xe) (hc:X.calm=true) (hi:PI X tg iter wi) (hg:PG X tg g) (hb:PSs X body tb)
  (hs:∀x,cz iter X.env x=pure x:=by intro _;rfl):PS X (.For tg iter body [] pos) (tFor wi g tb):=by
 intro pins s σ H D I h
 refine wpAny_For (thn (hi pins s σ H _ I h) λv s1 h1=>thn h1 λitv s2 h2=>?_) hs
 obtain ⟨it,fp,tn,J,H2,e,I2,T,st2,f2,W,⟨m0,w0⟩,turn⟩:=h2
 subst e
 have stat:∀{H':Hp},(∀b∈fp,H' b=none)->∀b∈fp,yF X pins H' b:=λhn b hb=>⟨hn b hb,(f2 b hb).2⟩
 refine codeAny_forLoop_any (λn s'=>∃i σ' H',Inv X pins σ' H' s'/\tn i s'.heap/\(∀b∈fp,H' b=none)/\W i n σ' H') ?_ m0 ⟨0,σ,H2,I2,st2,λb hb=>(f2 b hb).1,w0⟩
 rintro n s3 ⟨i,σ3,H3,I3,st3,fr3,w3⟩
 rcases turn i n σ3 H3 w3 with ⟨stop,qn⟩ | ⟨go,N,hN,step⟩
 ·refine dC hp (thn (T.done X rfl rfl rfl hc i pins s3 σ3 H3 X.xe I3 (stat fr3) st3 stop) λr s4 ⟨hr,I4⟩=>?_)
  subst hr
  exact fC ⟨σ3,H3,I4,qn⟩
 ·refine dC hp (thn (T.item X rfl rfl rfl hc i pins s3 σ3 H3 X.xe I3 (stat fr3) st3 go) λr s4 ⟨u,hr,h4⟩=>?_)
  subst hr
  refine dC hp (thn h4 λ_ s5 ⟨x,H5,I5,r5,y5,st5,fr5⟩=>?_)
  have I5':=I5.pinned (stat fr5) (T.obj _ _ st5)
  refine dC hp (thn (hg _ s5 σ3 H5 x u _ I5' r5 (step x H5 y5)) λ_ s6 ⟨σ6,H6,I6,q6⟩=>?_)
  refine dC hp (thn (hb _ s6 σ6 H6 _ I6 q6) λf s7 q7=>?_)
  have again:∀{σ7:St} {H7:Hp},Inv X (pins++zn fp s5.heap) σ7 H7 s7->N σ7 H7->∃m,m<n/\∃i σ' H',Inv X pins σ' H' s7/\tn i s7.heap/\(∀b∈fp,H' b=none)/\W i m σ' H':=λ{σ7 H7} I7 n7=>by
   obtain ⟨m',hm,w7⟩:=hN σ7 H7 n7
   refine ⟨m',hm,i+1,σ7,H7,I7.unpinned,T.keep _ _ _ st5 λb hb o e=>(I7.pin (b,o) (aD _ (aD _ (qE hb e)))).1,λb hb=>?_,w7⟩
   obtain ⟨o,e,d⟩:=T.obj _ _ st5 b hb
   exact (I7.pin (b,o) (aD _ (aD _ (qE hb e)))).2.1
  cases f with
  | next=>obtain ⟨σ7,H7,I7,n7⟩:=q7;exact again I7 n7
  | cont=>obtain ⟨σ7,H7,I7,n7⟩:=q7;exact again I7 n7
  | brk=>obtain ⟨σ7,H7,I7,q7⟩:=q7;exact ⟨σ7,H7,I7.unpinned,q7⟩
  | ret v=>obtain ⟨x7,σ7,H7,I7,r7,q7⟩:=q7;exact ⟨x7,σ7,H7,I7.unpinned,r7,q7⟩
end
theorem zD {K:ag}{xs:List V}{g:TG}{tb:TS}{D:Ends}{σ:St}{H:Hp}(Pv:Nat->St->Hp->Prop) (h0:Pv 0 σ H) (hl:∀i σ H,i<=xs.length->Pv i σ H->SqL K H a xs)
  (hs:∀i x σ H,xs[i]? = some x->Pv i σ H->g x σ H λσ2 H2=>tb { D with nx:=Pv (i+1),ct:=Pv (i+1),bk:=D.nx } σ2 H2) (hd:∀σ H,Pv xs.length σ H->D.nx σ H) :
  ∃W:Nat->Nat->St->Hp->Prop,(∃m,W 0 m σ H)/\∀i m σ H,W i m σ H ->
   ((Itl K a).stop i H/\D.nx σ H)\/((Itl K a).go i H/\∃N:St->Hp->Prop,(∀σ' H',N σ' H'->∃m',m'<m/\W (i+1) m' σ' H')/\∀x H',(Itl K a).yld i H x H'->g x σ H' λσ2 H2=>tb { D with nx:=N,ct:=N,bk:=D.nx } σ2 H2):=by
 refine ⟨λi m σ H=>m=xs.length-i/\i<=xs.length/\Pv i σ H,⟨xs.length,by simp,aJ _,h0⟩,?_⟩
 rintro i m σ H ⟨rfl,hi,p⟩
 have q:=hl i σ H hi p
 by_cases hlt:i<xs.length
 ·refine .inr ⟨⟨xs,xs[i],q,by simp [hlt]⟩,Pv (i+1),λσ' H' p'=>⟨xs.length-(i+1),∅,rfl,hlt,p'⟩,λx H' y=>?_⟩
  obtain ⟨e,y⟩:=y
  subst e
  exact hs i x σ _ (y xs q) p
 ·have e:i=xs.length:=∅
  subst e
  exact .inl ⟨⟨xs,q,ar _⟩,hd σ H p⟩
theorem Wi {K:ag}{xs:List V}{g:TG}{tb:TS}{D:Ends}{σ:St}{H:Hp}(Pv:Nat->St->Hp->Prop) (h0:Pv 0 σ H) (hl:∀i σ H,i<=xs.length->Pv i σ H->SqT K H a xs)
  (hs:∀i x σ H,xs[i]? = some x->Pv i σ H->g x σ H λσ2 H2=>tb { D with nx:=Pv (i+1),ct:=Pv (i+1),bk:=D.nx } σ2 H2) (hd:∀σ H,Pv xs.length σ H->D.nx σ H) :
  ∃W:Nat->Nat->St->Hp->Prop,(∃m,W 0 m σ H)/\∀i m σ H,W i m σ H ->
   ((Itt K a).stop i H/\D.nx σ H)\/((Itt K a).go i H/\∃N:St->Hp->Prop,(∀σ' H',N σ' H'->∃m',m'<m/\W (i+1) m' σ' H')/\∀x H',(Itt K a).yld i H x H'->g x σ H' λσ2 H2=>tb { D with nx:=N,ct:=N,bk:=D.nx } σ2 H2):=by
 refine ⟨λi m σ H=>m=xs.length-i/\i<=xs.length/\Pv i σ H,⟨xs.length,by simp,aJ _,h0⟩,?_⟩
 rintro i m σ H ⟨rfl,hi,p⟩
 have q:=hl i σ H hi p
 by_cases hlt:i<xs.length
 ·refine .inr ⟨⟨xs,xs[i],q,by simp [hlt]⟩,Pv (i+1),λσ' H' p'=>⟨xs.length-(i+1),∅,rfl,hlt,p'⟩,λx H' y=>?_⟩
  obtain ⟨e,y⟩:=y
  subst e
  exact hs i x σ _ (y xs q) p
 ·have e:i=xs.length:=∅
  subst e
  exact .inl ⟨⟨xs,q,ar _⟩,hd σ H p⟩
theorem xu {lo:Int}{n:Nat}{g:TG}{tb:TS}{D:Ends}{σ:St}{H:Hp}(Pv:Nat->St->Hp->Prop) (h0:Pv 0 σ H)
  (hs:∀i σ H,i<n->Pv i σ H->g (.int (lo+i)) σ H λσ2 H2=>tb { D with nx:=Pv (i+1),ct:=Pv (i+1),bk:=D.nx } σ2 H2) (hd:∀σ H,Pv n σ H->D.nx σ H) :
  ∃W:Nat->Nat->St->Hp->Prop,(∃m,W 0 m σ H)/\∀i m σ H,W i m σ H ->
   ((Itr lo n).stop i H/\D.nx σ H)\/((Itr lo n).go i H/\∃N:St->Hp->Prop,(∀σ' H',N σ' H'->∃m',m'<m/\W (i+1) m' σ' H')/\∀x H',(Itr lo n).yld i H x H'->g x σ H' λσ2 H2=>tb { D with nx:=N,ct:=N,bk:=D.nx } σ2 H2):=by
 refine ⟨λi m σ H=>m=n-i/\i<=n/\Pv i σ H,⟨n,by simp,aJ _,h0⟩,?_⟩
 rintro i m σ H ⟨rfl,hi,p⟩
 by_cases hlt:i<n
 ·refine .inr ⟨hlt,Pv (i+1),λσ' H' p'=>⟨n-(i+1),∅,rfl,hlt,p'⟩,λx H' y=>?_⟩
  obtain ⟨e,y⟩:=y
  subst e y
  exact hs i σ _ hlt p
 ·have e:i=n:=∅
  subst e
  exact .inl ⟨ar _,hd σ H p⟩
theorem kC {c:TT}{tb:TS}{D:Ends}{σ:St}{H:Hp}(Pv:St->Hp->Prop) (μ:St->Hp->Nat) (h0:Pv σ H)
  (hs:∀σ H,Pv σ H->c σ H λb H1=>if b=true then tb { D with nx:=λσ' H'=>Pv σ' H'/\μ σ' H'<μ σ H,ct:=λσ' H'=>Pv σ' H'/\μ σ' H'<μ σ H,bk:=D.nx } σ H1 else D.nx σ H1)
  (mono:∀σ H Q Q',(∀b H1,Q b H1->Q' b H1)->c σ H Q->c σ H Q'):Ue c tb D σ H:=by
 refine ⟨λm σ H=>m=μ σ H/\Pv σ H,⟨_,rfl,h0⟩,?_⟩
 rintro m σ H ⟨rfl,p⟩
 refine mono σ H _ _ (λb H1 q=>?_) (hs σ H p)
 cases b with
 | true=>exact ⟨_,λσ' H' ⟨p',l⟩=>⟨_,l,rfl,p'⟩,q⟩
 | false=>exact q
end L2
namespace L2
noncomputable abbrev R2:=V->V->Hp->VK->Prop
noncomputable def OpR (X:Cx) (f:aj->aj->Sem aj) (r:R2):Prop :=
 ∀(pins:List (Addr×Obj)) (s:Shared) (σ:St) (H:Hp) (x y:V) (v u:aj) (Q:VK),Inv X pins σ H s->jF x v->jF y u->r x y H Q ->
  ax (aE X.prog X.w) X.A (f v u) (EP X pins σ Q) X.xe s
noncomputable def UnR (X:Cx) (f:aj->Sem aj) (r:V->Hp->VK->Prop):Prop :=
 ∀(pins:List (Addr×Obj)) (s:Shared) (σ:St) (H:Hp) (x:V) (v:aj) (Q:VK),Inv X pins σ H s->jF x v->r x H Q ->
  ax (aE X.prog X.w) X.A (f v) (EP X pins σ Q) X.xe s
noncomputable def xh (X:Cx) (f:aj) (r:List V->Hp->VK->Prop):Prop :=
 ∀(pins:List (Addr×Obj)) (s:Shared) (σ:St) (H:Hp) (xs:List V) (us:List aj) (Q:VK),Inv X pins σ H s->jE xs us->r xs H Q ->
  ax (aE X.prog X.w) X.A (call f us) (EP X pins σ Q) X.xe s
noncomputable def TruR (X:Cx) (r:V->Hp->(Bool->Hp->Prop)->Prop):Prop :=
 ∀(pins:List (Addr×Obj)) (s:Shared) (σ:St) (H:Hp) (x:V) (v:aj) (Q:Bool->Hp->Prop),Inv X pins σ H s->jF x v->r x H Q ->
  ax (aE X.prog X.w) X.A (AX v) (TP X pins σ Q) X.xe s
noncomputable def tOp (r:R2) (ta tb:TE):TE:=λσ H Q=>ta σ H λx H1=>tb σ H1 λy H2=>r x y H2 Q
noncomputable def tUn (r:V->Hp->VK->Prop) (ta:TE):TE:=λσ H Q=>ta σ H λx H1=>r x H1 Q
noncomputable def rI (C:Int->Int->Prop) (g:Int->Int->V):R2:=λx y H Q=>∃i j,x = .int i/\y = .int j/\C i j/\Q (g i j) H
noncomputable def rI0 (g:Int->Int->V):R2:=λx y H Q=>∃i j,x = .int i/\y = .int j/\Q (g i j) H
noncomputable def rU (g:Int->V):V->Hp->VK->Prop:=λx H Q=>∃i,x = .int i/\Q (g i) H
section
variable {X:Cx}{a b c:Expr}{ta tb tc:TE}{pos:Pos}
theorem Eb (ha:PE X a ta) (hb:PE X b tb) {s:Shared}{σ:St}{R:V->V->Hp->Prop}(I:Inv X pins σ H s)
  (h:ta σ H λx H1=>tb σ H1 λy H2=>R x y H2) {Q:aj->Shared->Prop} {f:aj->aj->Sem aj}
  (hf:∀v u s2 x y H2,Inv X pins σ H2 s2->jF x v->jF y u->R x y H2->ax (aE X.prog X.w) X.A (f v u) Q X.xe s2) :
  ax (aE X.prog X.w) X.A (eval a X.env) (λv s₁=>ax (aE X.prog X.w) X.A (eval b X.env) (λu s₂=>ax (aE X.prog X.w) X.A (f v u) Q X.xe s₂) X.xe s₁) X.xe s:=by
 refine thn (ha pins s σ H _ I h) λv s1 ⟨x,H1,I1,r1,q1⟩=>?_
 refine thn (hb pins s1 σ H1 _ I1 q1) λu s2 ⟨y,H2,I2,r2,q2⟩=>?_
 exact hf v u s2 x y H2 I2 r1 r2 q2
theorem jo (ho:OpR X (eS op) r) (ha:PE X a ta) (hb:PE X b tb):PE X (.BinOp a op b pos) (tOp r ta tb):=by
 intro pins s σ H Q I h
 exact wpAny_BinOp (Eb ha hb I h λv u s2 x y H2 I2 rx ry q=>ho pins s2 σ H2 x y v u Q I2 rx ry q)
theorem vP (ho:UnR X (unaryOp op) r) (ha:PE X a ta):PE X (.UnaryOp op a pos) (tUn r ta):=by
 intro pins s σ H Q I h
 exact UnaryOp_ (thn (ha pins s σ H _ I h) λv s1 ⟨x,H1,I1,r1,q1⟩=>ho pins s1 σ H1 x v Q I1 r1 q1)
theorem opI {f:aj->aj->Sem aj}{C:Int->Int->Prop}{g:Int->Int->Int}
  (rule:∀(i j:Int) (t u:Tok) (s:Shared) (Q:aj->Shared->Prop) (E:aj->Shared->Prop),C i j->Q (.int (g i j) s.toks) { s with toks:=s.toks+1 }->ax (aE X.prog X.w) X.A (f (.int i t) (.int j u)) Q E s) :
  OpR X f (rI C λi j=>.int (g i j)):=by
 intro pins s σ H x y v u Q I rx ry h
 obtain ⟨i,j,rfl,rfl,hc,q⟩:=h
 obtain ⟨t,rfl⟩:=rx
 obtain ⟨t',rfl⟩:=ry
 exact rule i j t t' s _ _ hc ⟨.int (g i j),H,I.tok _,⟨_,rfl⟩,q⟩
theorem Az {f:aj->aj->Sem aj}{g:Int->Int->Int}
  (rule:∀(i j:Int) (t u:Tok) (s:Shared) (Q:aj->Shared->Prop) (E:aj->Shared->Prop),Q (.int (g i j) s.toks) { s with toks:=s.toks+1 }->ax (aE X.prog X.w) X.A (f (.int i t) (.int j u)) Q E s) :
  OpR X f (rI0 λi j=>.int (g i j)):=by
 intro pins s σ H x y v u Q I rx ry h
 obtain ⟨i,j,rfl,rfl,q⟩:=h
 obtain ⟨t,rfl⟩:=rx
 obtain ⟨t',rfl⟩:=ry
 exact rule i j t t' s _ _ ⟨.int (g i j),H,I.tok _,⟨_,rfl⟩,q⟩
theorem WQ {f:aj->aj->Sem aj}{g:Int->Int->Bool}
  (rule:∀(i j:Int) (t u:Tok) (s:Shared) (Q:aj->Shared->Prop) (E:aj->Shared->Prop),Q (.bool (g i j)) s->ax (aE X.prog X.w) X.A (f (.int i t) (.int j u)) Q E s) :
  OpR X f (rI0 λi j=>.bl (g i j)):=by
 intro pins s σ H x y v u Q I rx ry h
 obtain ⟨i,j,rfl,rfl,q⟩:=h
 obtain ⟨t,rfl⟩:=rx
 obtain ⟨t',rfl⟩:=ry
 exact rule i j t t' s _ _ ⟨.bl (g i j),H,I,rfl,q⟩
noncomputable def AF (i j:Int):Prop:=0<=j/\j<=1000000/\i.natAbs<2 ^ 64
noncomputable def UH (i j:Int):Prop:=(-(2 ^ 64)<i/\i<2 ^ 64)\/(-(2 ^ 64)<j/\j<2 ^ 64)
theorem UH.ok {i j:Int}(h:UH i j):IntMulOk i j:=by
 rcases h with ⟨h1,h2⟩ | ⟨h1,h2⟩
 ·exact .of_left (tK h1 h2)
 ·exact .of_right (tK h1 h2)
theorem jT:OpR X (eS .Add) (rI0 λi j=>.int (i+j)):=Az λ_ _ _ _ _ _ _ q=>add_int q
theorem qx:OpR X (eS .Sub) (rI0 λi j=>.int (i-j)):=Az λ_ _ _ _ _ _ _ q=>sub_int q
theorem w5:OpR X (eS .Mult) (rI UH λi j=>.int (i*j)):=opI λ_ _ _ _ _ _ _ hc q=>mul_int q hc.ok
theorem zk:OpR X (eS .Mod) (rI (λ_ j=>0<j) λi j=>.int (i % j)):=opI λi j _ _ _ _ _ hc q=>by
 have h1:(0:Int)<j:=hc
 exact mod_int' ∅ (by rw [Int.fmod_eq_emod_of_nonneg i ∅];exact q)
theorem uk:OpR X (eS .Pow) (rI AF λi j=>.int (i ^ j.toNat)):=opI λ_ _ _ _ _ _ _ hc q=>pow_int_small hc.1 hc.2.1 hc.2.2 q
theorem unI {f:aj->Sem aj}{g:Int->Int}
  (rule:∀(i:Int) (t:Tok) (s:Shared) (Q:aj->Shared->Prop) (E:aj->Shared->Prop),Q (.int (g i) s.toks) { s with toks:=s.toks+1 }->ax (aE X.prog X.w) X.A (f (.int i t)) Q E s) :
  UnR X f (rU λi=>.int (g i)):=by
 intro pins s σ H x v Q I rx h
 obtain ⟨i,rfl,q⟩:=h
 obtain ⟨t,rfl⟩:=rx
 exact rule i t s _ _ ⟨.int (g i),H,I.tok _,⟨_,rfl⟩,q⟩
theorem y7:UnR X (unaryOp .USub) (rU λi=>.int (-i)):=unI λ_ _ _ _ _ q=>neg_int q
end
noncomputable def A3:V->V->Bool
 | .non,.non=>true | .non,.int _=>true | .int _,.non=>true | .non,.bl _=>true | .bl _,.non=>true | .non,.str _=>true | .str _,.non=>true
 | .int _,.int _=>true | .bl _,.bl _=>true | .str _,.str _=>true | .byt _,.byt _=>true
 | .int _,.str _=>true | .str _,.int _=>true | .bl _,.str _=>true | .str _,.bl _=>true
 | _,_=>false
noncomputable def rEq:R2:=λx y H Q=>A3 x y=true/\Q (.bl (decide (x=y))) H
noncomputable def rNe:R2:=λx y H Q=>A3 x y=true/\Q (.bl (!decide (x=y))) H
theorem Yt {i j:Int}:decide (V.int i=V.int j)=(i == j):=by
 rw [eF]
 simp
theorem Wc {i j:Bool}:decide (V.bl i=V.bl j)=(i == j):=by
 rw [eF]
 simp
theorem Yo :decide (V.str i=V.str j)=(i == j):=by
 rw [eF]
 simp
theorem Yv :decide (V.byt i=V.byt j)=(i.toList == j.toList):=by
 rw [eF]
 cases i
 cases j
 simp
section
variable {X:Cx}{a b c:Expr}{ta tb tc:TE}{pos:Pos}
theorem jQ {Q:VK}{k k':Bool}(I:Inv X pins σ H s) (q:Q (.bl k) H) (e:k=k'):EP X pins σ Q (.bool k') s:=by
 subst e
 exact ⟨.bl k,H,I,rfl,q⟩
theorem zy:OpR X (ck .Eq) rEq:=by
 intro pins s σ H x y v u Q I rx ry h
 obtain ⟨hs,q⟩:=h
 cases x with
 | non =>
  cases rx
  cases y with
  | non=>cases ry;exact PySem.EqNone.eq_none_none (jQ I q (by simp))
  | bl j=>cases ry;exact PySem.EqNone.eq_none_bool (jQ I q (by simp))
  | int j=>obtain ⟨t',rfl⟩:=ry;exact PySem.EqNone.eq_none_int (jQ I q (by simp))
  | str j=>obtain ⟨t',rfl⟩:=ry;exact PySem.EqNone.eq_none_str (jQ I q (by simp))
  | _=>exact absurd (show false=true from hs) au
 | bl i =>
  cases rx
  cases y with
  | non=>cases ry;exact PySem.EqNone.eq_bool_none (jQ I q (by simp))
  | bl j=>cases ry;exact eq_bool (jQ I q Wc)
  | str j=>obtain ⟨t',rfl⟩:=ry;exact PySem.EqMixed.eq_bool_str (jQ I q (by simp))
  | _=>exact absurd (show false=true from hs) au
 | int i =>
  obtain ⟨t,rfl⟩:=rx
  cases y with
  | non=>cases ry;exact PySem.EqNone.eq_int_none (jQ I q (by simp))
  | int j=>obtain ⟨t',rfl⟩:=ry;exact eq_int (jQ I q Yt)
  | str j=>obtain ⟨t',rfl⟩:=ry;exact PySem.EqMixed.eq_int_str (jQ I q (by simp))
  | _=>exact absurd (show false=true from hs) au
 | str i =>
  obtain ⟨t,rfl⟩:=rx
  cases y with
  | non=>cases ry;exact PySem.EqNone.eq_str_none (jQ I q (by simp))
  | bl j=>cases ry;exact PySem.EqMixed.eq_str_bool (jQ I q (by simp))
  | int j=>obtain ⟨t',rfl⟩:=ry;exact PySem.EqMixed.eq_str_int (jQ I q (by simp))
  | str j=>obtain ⟨t',rfl⟩:=ry;exact eq_str (jQ I q Yo)
  | _=>exact absurd (show false=true from hs) au
 | byt i =>
  obtain ⟨t,rfl⟩:=rx
  cases y with
  | byt j=>obtain ⟨t',rfl⟩:=ry;exact PySem.W.eq_bytes (jQ I q Yv)
  | _=>exact absurd (show false=true from hs) au
 | _=>cases y <;> exact absurd (show false=true from hs) au
theorem UU:OpR X (ck .NotEq) rNe:=by
 intro pins s σ H x y v u Q I rx ry h
 obtain ⟨hs,q⟩:=h
 cases x with
 | non =>
  cases rx
  cases y with
  | non=>cases ry;exact PySem.EqNone.ne_none_none (jQ I q (by simp))
  | bl j=>cases ry;exact PySem.EqNone.ne_none_bool (jQ I q (by simp))
  | int j=>obtain ⟨t',rfl⟩:=ry;exact PySem.EqNone.ne_none_int (jQ I q (by simp))
  | str j=>obtain ⟨t',rfl⟩:=ry;exact PySem.EqNone.ne_none_str (jQ I q (by simp))
  | _=>exact absurd (show false=true from hs) au
 | bl i =>
  cases rx
  cases y with
  | non=>cases ry;exact PySem.EqNone.ne_bool_none (jQ I q (by simp))
  | bl j=>cases ry;exact ne_bool (jQ I q (congrArg not Wc))
  | str j=>obtain ⟨t',rfl⟩:=ry;exact PySem.EqMixed.ne_bool_str (jQ I q (by simp))
  | _=>exact absurd (show false=true from hs) au
 | int i =>
  obtain ⟨t,rfl⟩:=rx
  cases y with
  | non=>cases ry;exact PySem.EqNone.ne_int_none (jQ I q (by simp))
  | int j=>obtain ⟨t',rfl⟩:=ry;exact ne_int (jQ I q (congrArg not Yt))
  | str j=>obtain ⟨t',rfl⟩:=ry;exact PySem.EqMixed.ne_int_str (jQ I q (by simp))
  | _=>exact absurd (show false=true from hs) au
 | str i =>
  obtain ⟨t,rfl⟩:=rx
  cases y with
  | non=>cases ry;exact PySem.EqNone.ne_str_none (jQ I q (by simp))
  | bl j=>cases ry;exact PySem.EqMixed.ne_str_bool (jQ I q (by simp))
  | int j=>obtain ⟨t',rfl⟩:=ry;exact PySem.EqMixed.ne_str_int (jQ I q (by simp))
  | str j=>obtain ⟨t',rfl⟩:=ry;exact ne_str (jQ I q (congrArg not Yo))
  | _=>exact absurd (show false=true from hs) au
 | byt i =>
  obtain ⟨t,rfl⟩:=rx
  cases y with
  | byt j=>obtain ⟨t',rfl⟩:=ry;exact PySem.W.ne_bytes (jQ I q (congrArg not Yv))
  | _=>exact absurd (show false=true from hs) au
 | _=>cases y <;> exact absurd (show false=true from hs) au
theorem yQ:OpR X (ck .Lt) (rI0 λi j=>.bl (decide (i<j))):=WQ λ_ _ _ _ _ _ _ q=>lt_int q
theorem qq:OpR X (ck .LtE) (rI0 λi j=>.bl (decide (i<=j))):=WQ λ_ _ _ _ _ _ _ q=>le_int q
theorem Yk:OpR X (ck .Gt) (rI0 λi j=>.bl (decide (j<i))):=WQ λ_ _ _ _ _ _ _ q=>gt_int q
theorem VH:OpR X (ck .GtE) (rI0 λi j=>.bl (decide (j<=i))):=WQ λ_ _ _ _ _ _ _ q=>ge_int q
theorem Ql:OpR X (ck .Is) (λx y H Q=>y = .non/\Q (.bl (decide (x = .non))) H):=by
 intro pins s σ H x y v u Q I rx ry h
 obtain ⟨rfl,q⟩:=h
 cases ry
 refine is_none_gen (jQ I q ?_)
 cases x <;> first
  | (cases rx;rfl)
  | (obtain ⟨t,rfl⟩:=rx;rfl)
theorem jD (b:Expr) {op:CmpOp}(h:op≠.In:=by decide) (h2:op≠.NotIn:=by decide):eK op b=false:=by
 have e1:(op == CmpOp.In)=false:=by cases op <;> first | rfl | exact absurd rfl h
 have e2:(op == CmpOp.NotIn)=false:=by cases op <;> first | rfl | exact absurd rfl h2
 cases b <;> simp [eK,e1,e2]
theorem xV (ho:OpR X (ck op) r) (ha:PE X a ta) (hb:PE X b tb) (hm:eK op b=false):PE X (.Compare a [op] [b] pos) (tOp r ta tb):=by
 intro pins s σ H Q I h
 exact wpAny_Compare1 (Eb ha hb I h λv u s2 x y H2 I2 rx ry q=>ho pins s2 σ H2 x y v u Q I2 rx ry q) hm
noncomputable def Xg (t:TE):TT:=λσ H Q=>t σ H λx H'=>∃k,x = .bl k/\Q k H'
theorem jA (ho:OpR X (ck op) r) (ha:PE X a ta) (hb:PE X b tb) (hm:eK op b=false):PT X (.Compare a [op] [b] pos) (Xg (tOp r ta tb)):=by
 intro pins s σ H Q I h
 refine mQ (thn (ha pins s σ H _ I h) λv s1 ⟨x,H1,I1,r1,q1⟩=>thn (hb pins s1 σ H1 _ I1 q1) λu s2 ⟨y,H2,I2,r2,q2⟩ =>
  thn (ho pins s2 σ H2 x y v u _ I2 r1 r2 q2) λc s3 ⟨z,H3,I3,r3,k,e,q3⟩=>?_) hm
 subst e
 cases r3
 exact bQ ⟨H3,I3,q3⟩
noncomputable def VQ (r r':R2) (ta tb tc:TE):TE:=λσ H Q=>ta σ H λx H1=>tb σ H1 λy H2=>r x y H2 λz H3=>∃k,z = .bl k /\
 (if k=true then tc σ H3 λw' H4=>r' y w' H4 Q else Q (.bl false) H3)
theorem yo (ho:OpR X (ck op) r) (ho':OpR X (ck op') r') (ha:PE X a ta) (hb:PE X b tb) (hc:PE X c tc)
  (hm:lastMarks [op,op'] [b,c]=false:=by with_unfolding_all rfl):PE X (.Compare a [op,op'] [b,c] pos) (VQ r r' ta tb tc):=by
 intro pins s σ H Q I h
 refine Compare_chain (thn (ha pins s σ H _ I h) λv s1 ⟨x,H1,I1,r1,q1⟩=>chain_link (thn (hb pins s1 σ H1 _ I1 q1) λu s2 ⟨y,H2,I2,r2,q2⟩ =>
  thn (ho pins s2 σ H2 x y v u _ I2 r1 r2 q2) λd s3 ⟨z,H3,I3,r3,k,e,q3⟩=>?_)) hm
 subst e
 cases r3
 refine bQ ?_
 cases k with
 | false=>exact ite_ff ⟨.bl false,H3,I3,rfl,q3⟩
 | true=>exact ite_tt (chain_last (thn (hc pins s3 σ H3 _ I3 q3) λw' s4 ⟨z',H4,I4,r4,q4⟩=>ho' pins s4 σ H4 y z' u w' Q I4 r2 r4 q4))
theorem qY (ho:OpR X (ck op) r) (ho':OpR X (ck op') r') (ha:PE X a ta) (hb:PE X b tb) (hc:PE X c tc)
  (hm:lastMarks [op,op'] [b,c]=false:=by with_unfolding_all rfl):PT X (.Compare a [op,op'] [b,c] pos) (Xg (VQ r r' ta tb tc)):=by
 intro pins s σ H Q I h
 refine isTrue_chain (thn (ha pins s σ H _ I h) λv s1 ⟨x,H1,I1,r1,q1⟩=>test_link (thn (hb pins s1 σ H1 _ I1 q1) λu s2 ⟨y,H2,I2,r2,q2⟩ =>
  thn (ho pins s2 σ H2 x y v u _ I2 r1 r2 q2) λd s3 ⟨z,H3,I3,r3,k,e,q3⟩=>?_)) hm
 subst e
 cases r3
 refine bQ ?_
 cases k with
 | false =>
  obtain ⟨k',e',q'⟩:=q3
  cases e'
  exact ite_ff ⟨H3,I3,q'⟩
 | true =>
  refine ite_tt (test_last (thn (hc pins s3 σ H3 _ I3 q3) λw' s4 ⟨z',H4,I4,r4,q4⟩=>thn (ho' pins s4 σ H4 y z' u w' _ I4 r2 r4 q4) λd' s5 ⟨z2,H5,I5,r5,k2,e2,q5⟩=>?_))
  subst e2
  cases r5
  exact bQ ⟨H5,I5,q5⟩
noncomputable def GK (K:ag) (x:V) (H:Hp) (k:Bool):Prop :=
 match x with
 | .non=>k=false
 | .bl b=>k=b
 | .int i=>k=(i != 0)
 | .str y=>y.length<=sizeLine/\k=((y.length:Int) != 0)
 | .byt y=>y.size<=sizeLine/\k=((y.size:Int) != 0)
 | .ref p=>(∃xs,SqL K H p xs/\k = !xs.isEmpty)\/(∃xs,SqT K H p xs/\k = !xs.isEmpty)\/∃kvs,H p=some (.dK kvs)/\k = !kvs.isEmpty
 | _=>False
theorem ZQ {κ:Type}{kvs:List (κ×V)}{vs:List (κ×aj)}(r:KV kvs vs):(!vs.isEmpty) = !kvs.isEmpty:=by
 cases r <;> rfl
theorem gh (r:jE xs its):(!its.toArray.isEmpty) = !xs.isEmpty:=by
 cases r <;> simp
theorem kR:(sizeLine:Nat)<2 ^ 63:=by rw [bE];decide
theorem EX:TruR X (λx H Q=>∃k,GK X.K x H k/\Q k H):=by
 intro pins s σ H x v Q I rx h
 obtain ⟨k,e,q⟩:=h
 have hl:=kR
 have hs:sizeLine=16777216:=bE
 cases x with
 | non =>
  cases rx
  have e':k=false:=e
  subst e'
  exact truthy_none ⟨H,I,q⟩
 | bl b =>
  cases rx
  have e':k=b:=e
  subst e'
  exact bQ ⟨H,I,q⟩
 | int i =>
  obtain ⟨t,rfl⟩:=rx
  have e':k=(i != 0):=e
  subst e'
  exact PySem.P.truthy_int ⟨H,I,q⟩
 | str y =>
  obtain ⟨t,rfl⟩:=rx
  obtain ⟨hy,e'⟩:y.length<=sizeLine/\k=((y.length:Int) != 0):=e
  subst e'
  exact PySem.P.truthy_str ∅ ⟨H,I.tok _,q⟩
 | byt y =>
  obtain ⟨t,rfl⟩:=rx
  obtain ⟨hy,e'⟩:y.size<=sizeLine/\k=((y.size:Int) != 0):=e
  subst e'
  exact PySem.W.truthy_bytes ∅ ⟨H,I.tok _,q⟩
 | ref p =>
  cases rx
  have e':(∃xs,SqL X.K H p xs/\k = !xs.isEmpty)\/(∃xs,SqT X.K H p xs/\k = !xs.isEmpty)\/∃kvs,H p=some (.dK kvs)/\k = !kvs.isEmpty:=e
  rcases e' with ⟨xs,hx,e'⟩ | ⟨xs,hx,e'⟩ | ⟨kvs,hx,e'⟩
  ·subst e'
   obtain ⟨its,r,pl,hz⟩:=I.list hx
   have hlen:=r.length
   exact wpAny_truthy_list pl.isList (by simp only [av];omega) ⟨H,I.tok _,by rw [gh r];exact q⟩
  ·subst e'
   obtain ⟨its,r,pl,hz⟩:=I.tuple hx
   have hlen:=r.length
   exact truthy_tuple pl (by simp only [av];omega) ⟨H,I.tok _,by rw [gh r];exact q⟩
  ·subst e'
   obtain ⟨hz,hS,vs,r,m⟩:kvs.length<=sizeLine/\(p == dj)=false/\∃vs,KV kvs vs/\s.heap.DictOf (jJ X.prog X.w) p vs:=I.hok p _ hx
   have hlen:kvs.length=vs.length:=aT r
   exact wpAny_truthy_dict hS m ∅ ⟨H,I.tok _,by rw [ZQ r];exact q⟩
 | _=>exact (show False from e).elim
theorem Uz (ha:PE X a ta) (he:∀whole,isTrue a X.env whole=(do let v <- whole;ff a.pos;ef [v] (AX v))) :
  PT X a (λσ H Q=>ta σ H λx H'=>∃k,GK X.K x H' k/\Q k H'):=by
 intro pins s σ H Q I h
 exact isTrue_plain (thn (ha pins s σ H _ I h) λv s1 ⟨x,H1,I1,r1,q1⟩=>EX pins s1 σ H1 x v Q I1 r1 q1) (he _)
theorem vQ {x:V}(r:jE [x] us):∃u,us=[u]/\jF x u:=by
 cases r with
 | cons r1 r2=>cases r2;exact ⟨_,rfl,r1⟩
theorem Yb {x y:V}(r:jE [x,y] us):∃u w',us=[u,w']/\jF x u/\jF y w':=by
 cases r with
 | cons r1 r2 =>
  cases r2 with
  | cons r3 r4=>cases r4;exact ⟨_,_,rfl,r1,r3⟩
theorem zx (hc:X.calm=true):xh X (.builtin "max") (λxs H Q=>∃i j,xs=[.int i,.int j]/\Q (.int (if j > i then j else i)) H):=by
 intro pins s σ H xs us Q I r h
 obtain ⟨i,j,rfl,q⟩:=h
 obtain ⟨u,w',rfl,⟨t,rfl⟩,⟨t',rfl⟩⟩:=Yb r
 refine max_two_ints (I.ok.hd hc) λh' tk k=>⟨_,H,I.kept k,?_,q⟩
 by_cases hj:j > i
 ·rw [if_pos hj,if_pos hj];exact ⟨_,rfl⟩
 ·rw [if_neg hj,if_neg hj];exact ⟨_,rfl⟩
theorem yi (hc:X.calm=true):xh X (.builtin "min") (λxs H Q=>∃i j,xs=[.int i,.int j]/\Q (.int (if j<i then j else i)) H):=by
 intro pins s σ H xs us Q I r h
 obtain ⟨i,j,rfl,q⟩:=h
 obtain ⟨u,w',rfl,⟨t,rfl⟩,⟨t',rfl⟩⟩:=Yb r
 refine min_two_ints (I.ok.hd hc) λh' tk k=>⟨_,H,I.kept k,?_,q⟩
 by_cases hj:j<i
 ·rw [if_pos hj,if_pos hj];exact ⟨_,rfl⟩
 ·rw [if_neg hj,if_neg hj];exact ⟨_,rfl⟩
end
end L2
namespace L2
structure ObjM (h:Heap) (x dx C:Addr) (mA:Str->Option aj):Prop where
 obj:h.get? x=some (d6 C dx)
 ns:h.Ns1 dx mA
 ne:dx≠x
theorem Yy {h:Heap}(n:h.Ns1 dx mA):∃od,h.get? dx=some od/\∀name,lg name od=some (mA name):=by
 obtain ⟨o,es,ep,ho,hd,hk,_,hm⟩:=n
 refine ⟨o,ho,λname=>?_⟩
 have e:=hm name
 unfold nsFind findBy at e
 rw [<- Array.find?_toList] at e
 unfold lg
 rw [hd]
 dsimp only
 split
 ·rename_i y q
  rw [q] at e
  exact congrArg some e
 ·rename_i q
  rw [q] at e
  have a:es.toList.any (·.refKey)=false:=by
   rw [List.any_eq_false]
   intro y hy
   obtain ⟨z,t,hkey⟩:=hk y (Array.mem_toList_iff.mp hy)
   simp [DictEntry.refKey,hkey]
  have a':¬es.toList.any (·.refKey)=true:=by rw [a];exact au
  rw [if_neg a']
  exact congrArg some e
theorem ObjM.look {x dx:Addr}(I:ObjM h x dx C mA):∃od,sR h x (d6 C dx) C (some od)/\∀name,lg name od=some (mA name) :=
 let ⟨od,ho,hl⟩:=Yy I.ns
 ⟨od,⟨I.obj,rfl,rfl,ho⟩,hl⟩
section
variable {prog:Program}{w:bx}{A:bz}{E:aj->Shared->Prop}{s:Shared}{K:ag}{x dx C f:Addr}{mA:Str->Option aj}{name:Str}{v:aj}
theorem WJ {expr:Bool}{Q:aj->Shared->Prop}(X:K.In s.heap) (I:ObjM s.heap x dx C mA) (hg:fg K C name=true) (hh:fS K C=true)
  (ha:bM K (.ref C) name=some none) (hv:mA name=some v) (hv':rh v=true) (h:Q v { s with toks:=s.toks+1 }) :
  ax (aE prog w) A (getAttr (.ref x) name expr) Q E s:=by
 obtain ⟨od,J,hl⟩:=I.look
 exact PySem.W.get_value X J (iS hg).1 (PySem.W.findObj_own hh ha rfl (by rw [hl,hv])) hv' h
theorem Ug {Q:aj×List aj->Shared->Prop}(X:K.In s.heap) (I:ObjM s.heap x dx C mA) (hg:fg K C name=true)
  (hf:bM K (.ref C) name=some (some (.ref f))) (ht:ph K (.ref f)=true) (hv:mA name=none) (h:Q (.ref f,[.ref x]) s) :
  ax (aE prog w) A (ma (.ref x) name pl) Q E s:=by
 obtain ⟨od,J,hl⟩:=I.look
 exact PySem.W.method_fn X J (iS hg).1 (iS hg).2 hf (beq_iff_eq.mp ht) (by show (lg name od).map (·.isSome)=some false;rw [hl,hv];rfl) h
theorem WK {Q:Unit->Shared->Prop}(X:K.In s.heap) (I:ObjM s.heap x dx C mA)
  (hs:bM K (.ref C) "__setattr__" = some (some (.builtin "object.__setattr__"))) (hp:lL K C=true) (ht:mG K C name=some none) (hh:fS K C=true)
  (hw:pe mA ns) (hsz:ns.length<=sizeLine)
  (h:∀h',ObjM h' x dx C (λy=>if y=name then some v else mA y)->ee dx s.heap h'->Q () { s with heap:=h',toks:=s.toks+2 }) :
  ax (aE prog w) A (setAttr (.ref x) name v) Q E s:=by
 obtain ⟨od,J,hl⟩:=I.look
 refine PySem.W.set_plain X J hs (PySem.W.osa_open (s:={ s with toks:=s.toks+1 }) (r:=none) X J hp ht λb=>?_)
 obtain ⟨cd,hc,hd'⟩:=PySem.W.any_some hh
 have hx:s.heap.get? x=some ⟨.ref C,some dx,.plain,#[]⟩:=I.obj
 refine aa (wpAny_pure (aa (aa (sS hx (aa (PySem.W.Looks.here (s:={ s with toks:=s.toks+1 }) (PySem.W.looks_clsIn X hc) ?_))))))
 rw [hd']
 refine wpAny_pure (a:=some dx) (aa (wpAny_pure (aa ?_)))
 refine wpAny_nsSet1 (s:={ s with toks:=s.toks+1 }) I.ns λh' hn2 hs2=>?_
 obtain ⟨oD,esD,epD,hoD,hdD,hcD⟩:=hn2.count (PySem.Within.cons name v hw)
 refine aa (wpAny_lookBehind hoD (by rw [hdD];exact pastItsLine_dict (aH hcD (by rw [bh];omega))) ?_)
 exact wpAny_pure (h _ ⟨(hs2.2 _ (cF I.ne)).trans I.obj,hn2,I.ne⟩ hs2)
theorem VN {vs:List aj}{kw:List (Str×aj)}(X:K.In s.heap) (hm:mH K C=true)
  (hi:bM K (.ref C) "__init__" = some (some (.ref f))) (hf:PySem.W.typeIn K (.ref f)=some (.type "function"))
  (h:cU (aE prog w) (A.under (.builtin "type.__call__" ⟨.ref C::vs,kw⟩)) (.call (.ref f) ⟨.ref (s.heap.objs.size+1)::vs,kw⟩) (PySem.W.InitBack (s.heap.objs.size+1) R)
   { s with heap:=(s.heap.push cA).push (d6 C s.heap.objs.size) }) :
  cU (aE prog w) A (.call (.ref C) ⟨vs,kw⟩) R s:=by
 obtain ⟨hh,g,d,t,os⟩:=s
 exact PySem.W.make_core (PySem.W.makes_of X hm) (PySem.W.looks_findIn X hi) (λself=>PySem.W.bind_fn X self hf) (.inl rfl) h
end
noncomputable def ju (f:Str) (v:V):List (Str×V)->List (Str×V)
 | []=>[(f,v)]
 | (g,x)::r=>if g=f then (g,v)::r else (g,x)::ju f v r
theorem jB (f g:Str) (v:V):∀fs:List (Str×V),(ju f v fs).lookup g=if g=f then some v else fs.lookup g
 | []=>by
  show dX g [(f,v)]=_
  by_cases h:g=f
  ·have hb:(g == f)=true:=beq_iff_eq.mpr h
   simp only [dX,hb,if_pos h]
  ·have hb:(g == f)=false:=beq_eq_false_iff_ne.mpr h
   simp only [dX,hb,if_neg h]
 | (k,x)::r=>by
  have ih:=jB f g v r
  rw [show ju f v ((k,x)::r)=(if k=f then (k,v)::r else (k,x)::ju f v r) from rfl]
  by_cases hk:k=f
  ·rw [if_pos hk]
   by_cases h:g=k
   ·have hb:(g == k)=true:=beq_iff_eq.mpr h
    simp only [dX,hb,if_pos (h.trans hk)]
   ·have hb:(g == k)=false:=beq_eq_false_iff_ne.mpr h
    simp only [dX,hb,if_neg (λe:g=f=>h (e.trans hk.symm))]
  ·rw [if_neg hk]
   by_cases h:g=k
   ·have hb:(g == k)=true:=beq_iff_eq.mpr h
    simp only [dX,hb,if_neg (λe:g=f=>hk (h.symm.trans e))]
   ·have hb:(g == k)=false:=beq_eq_false_iff_ne.mpr h
    simp only [dX,hb]
    exact ih
theorem we (f:Str) (v:V):∀fs:List (Str×V),f∈(ju f v fs).map (·.1)/\∀g,g∈fs.map (·.1)->g∈(ju f v fs).map (·.1)
 | []=>⟨by simp [ju],λg h=>by simp at h⟩
 | (k,x)::r=>by
  obtain ⟨i1,i2⟩:=we f v r
  rw [show ju f v ((k,x)::r)=(if k=f then (k,v)::r else (k,x)::ju f v r) from rfl]
  by_cases hk:k=f
  ·rw [if_pos hk]
   subst hk
   exact ⟨by simp,λg h=>by simpa using h⟩
  ·rw [if_neg hk]
   refine ⟨?_,λg h=>?_⟩
   ·rw [aM]
    exact aF _ i1
   ·rw [aM] at h ⊢
    rcases List.mem_cons.mp h with e | e
    ·exact List.mem_cons.mpr (.inl e)
    ·exact aF _ (i2 g e)
theorem jY (f:Str) (v:V):∀fs:List (Str×V),(ju f v fs).length<=fs.length+1
 | []=>by simp [ju]
 | (k,x)::r=>by
  have ih:=jY f v r
  rw [show ju f v ((k,x)::r)=(if k=f then (k,v)::r else (k,x)::ju f v r) from rfl]
  by_cases hk:k=f
  ·rw [if_pos hk,bh,bh];omega
  ·rw [if_neg hk,bh,bh];omega
theorem yV.some_of (r:yV (some v) o):∃u,o=some u/\jF v u:=by
 cases o with
 | none=>exact (show False from r).elim
 | some u=>exact ⟨u,rfl,r⟩
theorem yV.none_of (r:yV none o):o=none:=by
 cases o with
 | none=>rfl
 | some u=>exact (show False from r).elim
theorem YG (r:jF v u):rh u=true:=by
 cases v with
 | non=>cases (show u=aU from r);rfl
 | bl b=>cases (show u=mn b from r);rfl
 | int i=>obtain ⟨t,e⟩:=(show ∃t,u=lX i t from r);cases e;rfl
 | str x=>obtain ⟨t,e⟩:=(show ∃t,u=nZ x t from r);cases e;rfl
 | byt b=>obtain ⟨t,e⟩:=(show ∃t,u=Value.bytes b t from r);cases e;rfl
 | flt b=>obtain ⟨t,e⟩:=(show ∃t,u=rR b t from r);cases e;rfl
 | ref a=>cases (show u=aV a from r);rfl
 | ty n=>cases (show u=il n from r);rfl
section
variable {P:Program}{w:bx}{H H':Hp}{h h':Heap}{a C dx:Addr}{fs fs':List (Str×V)}
theorem kj (hok:HOk P w H h) (e:H a=some (.ins C dx fs)):∃mA,ObjM h a dx C mA/\(∀f,yV (fs.lookup f) (mA f))/\pe mA (fs.map (·.1))/\fs.length<=1000/\H dx=some (.own a):=by
 obtain ⟨d,z,ne,ob,mA,n,r,q⟩:=(show qo P w H h a (.ins C dx fs) from hok a _ e)
 exact ⟨mA,⟨ob,n,ne⟩,r,q,z,d⟩
end
structure Cls (K:ag) (C:Addr):Prop where
 pg:fg K C Str.empty=true
 hd:fS K C=true
 po:lL K C=true
 sa:bM K (.ref C) "__setattr__" = some (some (.builtin "object.__setattr__"))
theorem Cls.get {K:ag}(c:Cls K C) (f:Str):fg K C f=true:=c.pg
noncomputable def zA (K:ag) (C:Addr) (f:Str):Prop:=bM K (.ref C) f=some none
theorem zA.taker {K:ag}(n:zA K C f):mG K C f=some none:=by
 unfold mG
 rw [show bM K (.ref C) f=some none from n]
 rfl
structure Meth (K:ag) (C:Addr) (m:Str) (f:Addr):Prop where
 at_:bM K (.ref C) m=some (some (.ref f))
 fn:ph K (.ref f)=true
 kp:bR K (.ref f)=true
section
variable {X:Cx}{pins:List (Addr×Obj)}{σ:St}{H:Hp}{s:Shared}{a C dx:Addr}{fs:List (Str×V)}{f:Str}{v:V}{A:bz}{E:aj->Shared->Prop}
theorem Zf {b:Bool}{Q:aj->Shared->Prop}(I:Inv X pins σ H s) (e:H a=some (.ins C dx fs)) (c:Cls X.K C) (n:zA X.K C f) (l:fs.lookup f=some v)
  (h:∀u s',Inv X pins σ H s'->jF v u->Q u s'):ax (aE X.prog X.w) A (getAttr (.ref a) f b) Q E s:=by
 obtain ⟨mA,O,r,_,_,_⟩:=kj I.hok e
 obtain ⟨u,hu,ru⟩:=yV.some_of (v:=v) (o:=mA f) (by rw [<- l];exact r f)
 exact WJ I.kIn O (c.get f) c.hd n hu (YG ru) (h u _ (I.tok _) ru)
theorem ud {Q:aj×List aj->Shared->Prop}(I:Inv X pins σ H s) (e:H a=some (.ins C dx fs)) (c:Cls X.K C) (k:Meth X.K C m g) (l:fs.lookup m=none)
  (h:Q (.ref g,[.ref a]) s):ax (aE X.prog X.w) A (ma (.ref a) m pl) Q E s:=by
 obtain ⟨mA,O,r,_,_,_⟩:=kj I.hok e
 have hn:mA m=none:=yV.none_of (by rw [<- l];exact r m)
 exact Ug I.kIn O (c.get m) k.at_ k.fn hn h
theorem ZL {Q:Unit->Shared->Prop}(I:Inv X pins σ H s) (e:H a=some (.ins C dx fs)) (c:Cls X.K C) (n:zA X.K C f) (hl:fs.length<1000) (ry:jF y u)
  (h:∀s',Inv X pins σ (upd H a (.ins C dx (ju f y fs))) s'->Q () s'):ax (aE X.prog X.w) A (setAttr (.ref a) f u) Q E s:=by
 obtain ⟨mA,O,r,wi,_,ho⟩:=kj I.hok e
 have hz:(fs.map (·.1)).length<=sizeLine:=by rw [ah,bE];omega
 refine WK I.kIn O c.sa c.po n.taker c.hd wi hz λh' O' sb=>h _ ?_
 have hd:∃o,h'.get? dx=some o:=let ⟨o,_,_,e',_⟩:=O'.ns;⟨o,e'⟩
 refine I.write (x:=a) (e:=dx) (by rw [e];exact d9) (.inr ho) (λb q hb z=>(sb.2 b hb).trans z) hd ?_
 refine ⟨by rw [j7 O.ne];exact ho,?_,O.ne,O'.obj,_,O'.ns,λg=>?_,λg hg=>?_⟩
 ·have:=jY f y fs;omega
 ·show yV ((ju f y fs).lookup g) (if g=f then some u else mA g)
  rw [jB]
  by_cases q:g=f
  ·rw [if_pos q,if_pos q];exact ry
  ·rw [if_neg q,if_neg q];exact r g
 ·by_cases q:g=f
  ·rw [q];exact (we f y fs).1
  ·refine (we f y fs).2 g (wi g λz=>hg ?_)
   show (if g=f then some u else mA g)=none
   rw [if_neg q];exact z
theorem Inv.made (I:Inv X pins σ H s):Inv X pins σ (upd (upd H s.heap.objs.size (.own (s.heap.objs.size+1))) (s.heap.objs.size+1) (.ins C s.heap.objs.size []))
  { s with heap:=(s.heap.push cA).push (d6 C s.heap.objs.size) }:=by
 have e1:(s.heap.push cA).get? s.heap.objs.size=some cA:=ay s.heap rfl
 have e2:((s.heap.push cA).push (d6 C s.heap.objs.size)).get? (s.heap.objs.size+1)=some (d6 C s.heap.objs.size):=by
  have:=ay (s.heap.push cA) (o:=d6 C s.heap.objs.size) rfl
  rwa [cB] at this
 have e3:(s.heap.push cA).Ns s.heap.objs.size (λ_=>none):=⟨cA,#[],_,e1,rfl,(λe he=>absurd he (by simp)),λ_=>rfl⟩
 have I1:=I.laid (a:=s.heap.objs.size) (o:=.own (s.heap.objs.size+1)) (h':=s.heap.push cA) (t':=s.toks) (λb u q=>ai _ q) (ar _) ⟨_,e1⟩
 refine I1.laid (a:=s.heap.objs.size+1) (o:=.ins C s.heap.objs.size []) (t':=s.toks) (λb u q=>ai _ q) (pj (cB _ _)) ?_
 have ne:s.heap.objs.size≠s.heap.objs.size+1:=aC (iq _)
 refine ⟨by rw [j7 ne,j6],aJ _,ne,e2,λ_=>none,(Heap.Ns1.of_empty e3).at λo q=>ai _ q,λ_=>d9,λy hy=>absurd rfl hy⟩
theorem Wl {prog:Program}{w:bx}{env:Env}{e:Expr}{f:Str}{pos:Pos}{s:Shared}{Q:aj->Shared->Prop}(hb:dG e f env (eval e env)=eval e env)
  (h:ax (aE prog w) A (eval e env) (λo s₁=>ax (aE prog w) A (getAttr o f true) Q E s₁) E s):ax (aE prog w) A (eval (.Attribute e f pos) env) Q E s :=
 Attribute_any_ h (by rw [arm_eval_Attribute,hb])
end
noncomputable def Af (K:ag) (ta:TE) (f:Str):TE:=λσ H Q=>ta σ H λx H1=>∃a C dx fs v,x = .ref a/\H1 a=some (.ins C dx fs)/\Cls K C/\zA K C f/\fs.lookup f=some v/\Q v H1
noncomputable def Al (K:ag) (ta tv:TE) (f:Str):TS:=λD σ H=>tv σ H λy H1=>ta σ H1 λx H2=>∃a C dx fs,x = .ref a/\H2 a=some (.ins C dx fs)/\Cls K C/\zA K C f/\fs.length<1000 /\
 D.nx σ (upd H2 a (.ins C dx (ju f y fs)))
section
variable {X:Cx}{o e value:Expr}{f:Str}{pos pos' tpos:Pos}{ta tv:TE}
theorem Ep (he:PE X e ta) (hb:dG e f X.env (eval e X.env)=eval e X.env):PE X (.Attribute e f pos) (Af X.K ta f):=by
 intro pins s σ H Q I h
 refine Wl hb (thn (he pins s σ H _ I h) λu s1 ⟨x,H1,I1,rx,a,C,dx,fs,v,ex,ea,c,n,l,q⟩=>?_)
 subst ex
 obtain rfl:u=aV a:=rx
 exact Zf I1 ea c n l λu' s2 I2 ru=>⟨v,H1,I2,ru,q⟩
theorem GI (ha:PE X o ta) (hv:PE X value tv) (hs:iX value (some (.Attribute o f pos')) pos.line X.env=pure false):PS X (.Assign [.Attribute o f pos'] value pos) (Al X.K ta tv f):=by
 intro pins s σ H D I h
 refine plainObj_wpAny_Assign_Attribute (thn (hv pins s σ H _ I h) λu s1 ⟨y,H1,I1,ry,q⟩=>thn (ha pins s1 σ H1 _ I1 q) λov s2 ⟨x,H2,I2,rx,a,C,dx,fs,ex,ea,c,n,l,q2⟩=>?_) hs
 subst ex
 obtain rfl:ov=aV a:=rx
 exact ZL I2 ea c n l ry λs3 I3=>⟨σ,_,I3,q2⟩
theorem GB (he:PE X e te) (I:Inv X pins σ H s)
  (h:te σ H λx H1=>∃a C dx fs g,x = .ref a/\H1 a=some (.ins C dx fs)/\Cls X.K C/\Meth X.K C m g/\fs.lookup m=none /\
   ∀s1,Inv X pins σ H1 s1->ax (aE X.prog X.w) X.A (pq pos (.ref g) [.ref a] (cM pos (aP args X.env)) (lh pos (eU [] X.env))) Q X.xe s1)
  (ht:eval (.Call (.Attribute e m apos) args [] pos) X.env=(do
   let ov <- eval e X.env
   ff apos.atName
   let (f,first) <- ef [ov] (ma ov m pl)
   pq pos f first (cM pos (aP args X.env)) (lh pos (eU [] X.env)))) :
  ax (aE X.prog X.w) X.A (eval (.Call (.Attribute e m apos) args [] pos) X.env) Q X.xe s:=by
 refine ij (pl:=pl) (thn (he pins s σ H _ I h) λu s1 ⟨x,H1,I1,rx,a,C,dx,fs,g,ex,ea,c,k,l,q⟩=>?_) ht
 subst ex
 obtain rfl:u=aV a:=rx
 exact ud I1 ea c k l (q s1 I1)
end
section
variable {X:Cx}{pins:List (Addr×Obj)}{σ:St}{H:Hp}{s:Shared}{A:bz}{E:aj->Shared->Prop}{Q:aj->Shared->Prop}{c:aj}{b:Bool}
inductive TyOf (K:ag) (H:Hp):V->aj->Prop where
 | non:TyOf K H .non (.type "NoneType")
 | bl (x:Bool):TyOf K H (.bl x) (.type "bool")
 | int (i:Int):TyOf K H (.int i) (.type "int")
 | str (x:Str):TyOf K H (.str x) (.type "str")
 | flt (x:UInt64):TyOf K H (.flt x) (.type "float")
 | lst {a:Addr} {xs:List V} (e:H a=some (.lst xs)):TyOf K H (.ref a) (.type "list")
 | frz {a:Addr} {o:Obj} {xs:List V} (e:H a=some (.frz o (.lst xs))):TyOf K H (.ref a) (.type "list")
 | tup {a:Addr} {xs:List V} (e:H a=some (.tup xs)):TyOf K H (.ref a) (.type "tuple")
 | dK {a:Addr} {kvs:List (Key×V)} (e:H a=some (.dK kvs)):TyOf K H (.ref a) (.type "dict")
 | dT {a:Addr} {kvs:List (List Key×V)} (e:H a=some (.dT kvs)):TyOf K H (.ref a) (.type "dict")
 | ins {a C dx:Addr} {fs:List (Str×V)} (e:H a=some (.ins C dx fs)) (cl:Cls K C) (ha:bM K (.ref C) "__class__" = some (some (.builtin "object.__class__")))
   (hn:PySem.W.specialIn K (.builtin "object.__class__") "__get__" = some (some (.builtin "getset_descriptor.__get__"))) (htk:PySem.W.takesIn K (.builtin "object.__class__")=some true)
   (hm:PySem.W.mroIn K C (.type "object")=some true):TyOf K H (.ref a) (.ref C)
theorem Vu {t:aj}(I:Inv X pins σ H s) (rx:jF x u) (ty:TyOf X.K H x t) (e:b8 X.K t c=some b) (h:∀tk,Q (.bool b) { s with toks:=tk }) :
  ax (aE X.prog X.w) A (call (.builtin "isinstance") [u,c]) Q E s:=by
 cases ty with
 | non=>cases (show u=aU from rx);exact c3 PySem.W.kitx_none I.kIn d9 e (λz=>nomatch z) h
 | bl y=>cases (show u=mn y from rx);exact c3 PySem.W.kitx_bool I.kIn d9 e (λz=>nomatch z) h
 | int i=>obtain ⟨t,q⟩:=(show ∃t,u=lX i t from rx);cases q;exact c3 PySem.W.kitx_int I.kIn d9 e (λz=>nomatch z) h
 | str y=>obtain ⟨t,q⟩:=(show ∃t,u=nZ y t from rx);cases q;exact c3 PySem.W.kitx_str I.kIn d9 e (λz=>nomatch z) h
 | flt y=>obtain ⟨t,q⟩:=(show ∃t,u=rR y t from rx);cases q;exact c3 PySem.W.kitx_float I.kIn d9 e (λz=>nomatch z) h
 | @lst a xs ea =>
  cases (show u=aV a from rx)
  obtain ⟨_,_,n,_,h1⟩:=(show qo X.prog X.w H s.heap a (.lst xs) from I.hok a _ ea)
  exact c3 px I.kIn ⟨_,h1,rfl⟩ e (λz=>nomatch z) h
 | @frz a ob xs ea =>
  cases (show u=aV a from rx)
  obtain ⟨_,_,_,n,_,h1⟩:=(show qo X.prog X.w H s.heap a (.frz ob (.lst xs)) from I.hok a _ ea)
  exact c3 px I.kIn ⟨_,h1,rfl⟩ e (λz=>nomatch z) h
 | @tup a xs ea =>
  cases (show u=aV a from rx)
  obtain ⟨_,_,_,p⟩:=(show qo X.prog X.w H s.heap a (.tup xs) from I.hok a _ ea)
  obtain ⟨o,h1,h2,_⟩:=p
  exact c3 PySem.W.kitx_tuple I.kIn ⟨o,h1,h2⟩ e (λz=>nomatch z) h
 | @dK a kvs ea =>
  cases (show u=aV a from rx)
  obtain ⟨_,_,vs,_,p⟩:=(show qo X.prog X.w H s.heap a (.dK kvs) from I.hok a _ ea)
  obtain ⟨o,es,ep,h1,h2,_⟩:=p
  exact c3 pz I.kIn ⟨o,h1,h2.1⟩ e (λz=>nomatch z) h
 | @dT a kvs ea =>
  cases (show u=aV a from rx)
  obtain ⟨_,_,xs,_,o,es,ep,h1,h2,_⟩:=(show qo X.prog X.w H s.heap a (.dT kvs) from I.hok a _ ea)
  exact c3 pz I.kIn ⟨o,h1,h2.1⟩ e (λz=>nomatch z) h
 | @ins a C dx fs ea cl ha hn htk hm =>
  cases (show u=aV a from rx)
  obtain ⟨mA,O,_⟩:=kj I.hok ea
  obtain ⟨od,J,_⟩:=O.look
  exact c3 (PySem.W.kitx_own (cl.get _) cl.hd ha hn htk hm) I.kIn J e (λz=>nomatch z) h
end
end L2
namespace L2
structure Room (k:Nat) (A:bz):Prop where
 hd:A.handled=none
 dp:A.depth+3*k+5<recursionLimit
 un:A.units+16*k+200<cLine
theorem Room.mono {j k:Nat}{A:bz}(r:Room k A) (h:j<=k):Room j A:=⟨r.hd,by have:=r.dp;omega,by have:=r.un;omega⟩
theorem Room.deeper {k:Nat}{A:bz}(r:Room (k+1) A) (env:Env):Room k (A.deeper env) :=
 ⟨r.hd,by have:=r.dp;show A.depth+1+3*k+5<_;omega,by have:=r.un;show A.units+3+16*k+200<_;omega⟩
theorem Room.in1 {k:Nat}{A:bz}(r:Room (k+1) A):Room k A.in1 :=
 ⟨r.hd,by have:=r.dp;show A.depth+3*k+5<_;omega,by have:=r.un;show A.units+1+16*k+200<_;omega⟩
theorem ZV {A:bz}{us:List aj}{kw:List (Str×aj)}:(A.under (.builtin "type.__call__" ⟨.ref C::us,kw⟩)).depth=A.depth+1:=by
 first | rfl | simp [pA,Code.weight,Code.isCreation,Code.isGuard,Code.isCaller,Code.frames,pC,guardIds]
theorem Z7 {A:bz}{us:List aj}{kw:List (Str×aj)}:(A.under (.builtin "type.__call__" ⟨.ref C::us,kw⟩)).units=A.units+1:=by
 first | rfl | simp [pA,Code.cUnits,Code.frames,pC]
theorem Room.make {k:Nat}{A:bz}(r:Room (k+1) A) (C:Addr) (us:List aj) (kw:List (Str×aj)):Room k (A.under (.builtin "type.__call__" ⟨.ref C::us,kw⟩)) :=
 ⟨r.hd,by have:=r.dp;rw [ZV];omega,by have:=r.un;rw [Z7];omega⟩
theorem Room.depth {k:Nat}{A:bz}(r:Room k A):A.depth<recursionLimit:=by have:=r.dp;omega
theorem Room.units {k:Nat}{A:bz}(r:Room k A):A.units+64<cLine:=by have:=r.un;omega
noncomputable def Vg:TA:=λ_ H Q=>Q [] H
noncomputable def Aj (ta:TE) (tr:TA):TA:=λσ H Q=>ta σ H λx H1=>tr σ H1 λxs H2=>Q (x::xs) H2
section
variable {X:Cx}{e:Expr}{es:List Expr}{te:TE}{t:TA}{pos:Pos}
theorem j2:PA X [] Vg:=λ_ _ _ _ H Q I h=>pE ⟨[],H,I,.nil,h⟩
theorem j0 (ha:PE X e te) (hr:PA X es t) (hs:aP (e::es) X.env=(false,eval e X.env)::aP es X.env:=by rfl):PA X (e::es) (Aj te t):=by
 intro pos pins s σ H Q I h
 rw [hs]
 show ax _ _ (spliced ((false,eval e X.env)::cM pos (aP es X.env))) _ _ s
 refine lj (thn (ha pins s σ H _ I h) λu s1 ⟨x,H1,I1,r1,q1⟩=>?_)
 exact thn (hr pos pins s1 σ H1 _ I1 q1) λus s2 ⟨xs,H2,I2,r2,q2⟩=>⟨x::xs,H2,I2,.cons r1 r2,q2⟩
end
noncomputable abbrev Sp:=List V->Hp->VK->XK->Prop
noncomputable abbrev CXT:=List Env->Hp->Shared->XK->aj->Shared->Prop
structure Env0 (P:Program) (w:bx) (K:ag) (mg:Str->Option aj) (base:Heap) (A:bz) (outer:List Env) (s:Shared) (H:Hp):Prop where
 frames:A.frames=some outer
 mod:Mod K mg base
 bs:∀b o,base.get? b=some o->s.heap.get? b=some o/\H b=none
 bsz:base.objs.size<=s.heap.objs.size
 funs:s.heap.FunFrames base outer
 frf:∀b∈frs outer,H b=none
 hok:HOk P w H s.heap
 bare:iz s.gens
noncomputable def CE (outer:List Env) (P:Program) (w:bx) (H:Hp) (s:Shared) (Q:VK) (u:aj) (s':Shared):Prop :=
 ∃v H',s'.os=s.os/\iz s'.gens/\Un (frs outer) [] H H' s.heap s'.heap/\HOk P w H' s'.heap/\jF v u/\Q v H'
noncomputable def CR (CX:CXT) (outer:List Env) (P:Program) (w:bx) (H:Hp) (s:Shared) (Q:VK) (E:XK) (r:oK) (s':Shared):Prop :=
 match r with
 | .ok (.ret u)=>CE outer P w H s Q u s'
 | .ok _=>False
 | .error e=>CX outer H s E e s'
structure FnOk (P:Program) (w:bx) (K:ag) (mg:Str->Option aj) (base:Heap) (CX:CXT) (k:Nat) (f:Addr) (fd:FuncData) (ps:List Str) (sp:Sp):Prop where
 len:∀vs H Q E,sp vs H Q E->vs.length=ps.length
 run:∀(A:bz) (outer:List Env) (s:Shared) (H:Hp) (args:Args) (us:List aj) (vs:List V) (Q:VK) (E:XK),Room k A->Env0 P w K mg base A outer s H->pG s fd args (ps.zip us)->jE vs us->sp vs H Q E ->
  cU (aE P w) A (.call (.ref f) args) (CR CX outer P w H s Q E) s
theorem Env0.make {w:bx}{K:ag}{mg:Str->Option aj}{base:Heap}{A:bz}{outer:List Env}(e:Env0 P w K mg base A outer s H) (C:Addr) (us:List aj) (kw:List (Str×aj)) :
  Env0 P w K mg base (A.under (.builtin "type.__call__" ⟨.ref C::us,kw⟩)) outer s H:=⟨by first | exact e.frames | (simpa [pA,Code.envs,pC,pushEnvs] using e.frames),e.mod,e.bs,e.bsz,e.funs,e.frf,e.hok,e.bare⟩
theorem Env0.in1 {w:bx}{K:ag}{mg:Str->Option aj}{base:Heap}{A:bz}{outer:List Env}(e:Env0 P w K mg base A outer s H) :
  Env0 P w K mg base A.in1 outer s H:=⟨e.frames,e.mod,e.bs,e.bsz,e.funs,e.frf,e.hok,e.bare⟩
section
variable {X:Cx}{pins:List (Addr×Obj)}{σ:St}{H:Hp}{s s':Shared}
theorem Inv.env0 (I:Inv X pins σ H s):Env0 X.prog X.w X.K X.mg X.base X.A X.stack s H :=
 ⟨I.ok.frames,I.ok.mod,I.bs,aH I.ok.bsz I.sz,I.stack,I.stkFree,I.hok,I.bare⟩
theorem Inv.after (I:Inv X pins σ H s) (h:CE X.stack X.prog X.w H s Q u s'):EP X pins σ Q u s':=by
 obtain ⟨v,H',os,bare,un,hok,r,q⟩:=h
 obtain ⟨hh,g,d,t,os'⟩:=s'
 obtain rfl:os'=s.os:=os
 exact ⟨v,H',I.call (h':=hh) (g':=g) (d':=d) (t':=t) (ch:=[]) un hok bare (λb z=>absurd z (by simp)),r,q⟩
end
noncomputable def GG (sp:Sp) (dvs:List V) (E:XK) (t:TA):TE:=λσ H Q=>t σ H λvs H1=>sp (vs++dvs) H1 Q E
noncomputable def GD (C:Addr) (m:Str) (sp:Sp) (dvs:List V) (E:XK) (ta:TE) (t:TA):TE:=λσ H Q=>ta σ H λx H1=>∃a dx fs,x = .ref a/\H1 a=some (.ins C dx fs)/\fs.lookup m=none /\
 t σ H1 λvs H2=>sp (x::(vs++dvs)) H2 Q E
noncomputable def yr (K:ag) (fd:FuncData) (ps:List Str) (ds:List aj):Prop :=
 ∀(s:Shared) (us:List aj),K.In s.heap->(us++ds).length=ps.length->pG s fd ⟨us,[]⟩ (ps.zip (us++ds))
theorem yr.all {K:ag}{ps:List Str}(h:∀us:List aj,us.length=ps.length->cH fd ⟨us,[]⟩=pure (ps.zip us)):yr K fd ps []:=λs us _ hl=>by
 rw [aN] at hl ⊢
 exact .of_eq (h us hl)
noncomputable def Qk (CX:CXT) (X:Cx) (E:XK):Prop:=∀(pins:List (Addr×Obj)) (σ:St) (H:Hp) (s:Shared) (e:aj) (s':Shared),Inv X pins σ H s->CX X.stack H s E e s'->X.xe e s'
section
variable {X:Cx}{CX:CXT}{k:Nat}{f C:Addr}{fd:FuncData}{ps:List Str}{sp:Sp}{dvs:List V}{ds:List aj}{E:XK}{x m:Str}{p pos apos:Pos}{e o:Expr}{es:List Expr}{ta:TE}{t:TA}
theorem VW (F:FnOk X.prog X.w X.K X.mg X.base CX k f fd ps sp) (hr:Room k X.A) (hb:yr X.K fd ps ds) (hd:jE dvs ds) (hx:Qk CX X E)
  (I:Inv X pins σ H s) (r:jE vs us) (h:sp (vs++dvs) H Q E):ax (aE X.prog X.w) X.A (call (.ref f) us) (EP X pins σ Q) X.xe s:=by
 have r2:jE (vs++dvs) (us++ds):=r.append hd
 have hl:(us++ds).length=ps.length:=by rw [<- r2.length];exact F.len _ _ _ _ h
 refine fF (dg (F.run X.A X.stack s H ⟨us,[]⟩ (us++ds) (vs++dvs) Q E hr I.env0 (hb s us I.kIn hl) r2 h) λr s' hq=>?_)
 cases r with
 | error e=>exact hx pins σ H s e s' I hq
 | ok fl =>
  cases fl with
  | ret u=>exact I.after hq
  | next=>exact bt hq
  | brk=>exact bt hq
  | cont=>exact bt hq
theorem WY (F:FnOk X.prog X.w X.K X.mg X.base CX k f fd ps sp) (hr:Room k X.A) (hg:Gl X x) (hm:X.mg x=some (.ref f)) (hk:bR X.K (.ref f)=true) (hb:yr X.K fd ps ds) (hd:jE dvs ds) (hx:Qk CX X E)
  (ha:PA X (e::es) t) (hdb:(x == ("__debug__" : Str))=false:=by decide) (he:aP (e::es) X.env=(false,eval e X.env)::aP es X.env:=by rfl) (hpl:(cM pos (aP es X.env)).any (·.1)=false:=by rfl) :
  PE X (.Call (.Name x p) (e::es) [] pos) (GG sp dvs E t):=by
 intro pins s σ H Q I h
 refine cX (yx I hg hm ?_ hdb)
 refine dm (h₀:=X.base) I.ok.mod.kin hk (thn (ha pos pins s σ H _ I h) λus s1 ⟨vs,H1,I1,r,q⟩=>⟨I1.kIn,?_⟩) he hpl
 exact VW F hr hb hd hx I1 r q
theorem Gu (he:PE X o ta) (c:Cls X.K C) (hm:Meth X.K C m f) (F:FnOk X.prog X.w X.K X.mg X.base CX k f fd ps sp) (hr:Room k X.A) (hb:yr X.K fd ps ds) (hd:jE dvs ds) (hx:Qk CX X E) (ha:PA X (e::es) t)
  (hst:aP (e::es) X.env=(false,eval e X.env)::aP es X.env:=by rfl) (hpl:(cM pos (aP es X.env)).any (·.1)=false:=by rfl)
  (ht:eval (.Call (.Attribute o m apos) (e::es) [] pos) X.env=(do
   let ov <- eval o X.env
   ff apos.atName
   let (f,first) <- ef [ov] (ma ov m pl)
   pq pos f first (cM pos (aP (e::es) X.env)) (lh pos (eU [] X.env))):=by rfl) :
  PE X (.Call (.Attribute o m apos) (e::es) [] pos) (GD C m sp dvs E ta t):=by
 intro pins s σ H Q I h
 refine ij (pl:=pl) (thn (he pins s σ H _ I h) λu s1 ⟨x,H1,I1,rx,a,dx,fs,ex,ea,l,q⟩=>?_) ht
 subst ex
 obtain rfl:u=aV a:=rx
 refine ud I1 ea c hm l ?_
 refine dm (first:=[.ref a]) (h₀:=X.base) I.ok.mod.kin hm.kp (thn (ha pos pins s1 σ H1 _ I1 q) λus s2 ⟨vs,H2,I2,r,q2⟩=>⟨I2.kIn,?_⟩) hst hpl
 exact VW (us:=.ref a::us) (vs:=.ref a::vs) F hr hb hd hx I2 (.cons rfl r) q2
structure Mk (K:ag) (C f:Addr):Prop where
 makes:mH K C=true
 init:bM K (.ref C) "__init__" = some (some (.ref f))
 fn:ph K (.ref f)=true
 kp:bR K (.ref C)=true
end
section
variable {X:Cx}{CX:CXT}{k:Nat}{f C:Addr}{fd:FuncData}{ps ks:List Str}{sp:Sp}{E:XK}{x m:Str}{p pos apos kpos:Pos}{e o:Expr}{es:List Expr}{kws:List mr}{te ta:TE}{t tk:TA}{nm:Option Str}
variable {g:List aj->List aj->List aj}{gV:List V->List V->List V}
end
structure FnScope (N P:List Str) (sc:Scope):Prop where
 kind:sc.kind = .function
 co:sc.isCoroutine=false
 gen:sc.isGenerator=false
 nd:N.Nodup
 pre:N.take P.length=P
 par:∀x∈P,sc.names.lookup x=some .local\/sc.names.lookup x=some .cell
 nofree:∀y∈sc.names,y.2≠.free
theorem JQ {kindOf:Str->Option fT}{x:Str}:∀{binds:List (Str×aj)}{m:Str->Option aj},(∀v,(x,v)∉binds)->rW kindOf binds m x=m x
 | [],_,_=>rfl
 | (n,v)::r,m,h=>by
  unfold rW
  rw [JQ λw hw=>h w (aF _ hw)]
  split
  ·have:x≠n:=by rintro rfl;exact h v aB
   simp [this]
  ·rfl
theorem JH {kindOf:Str->Option fT}{x:Str}:∀{binds:List (Str×aj)}{m:Str->Option aj},(∀v,(x,v)∉binds)->rX kindOf binds m x=m x
 | [],_,_=>rfl
 | (n,v)::r,m,h=>by
  unfold rX
  rw [JH λw hw=>h w (aF _ hw)]
  split
  ·rfl
  ·have:x≠n:=by rintro rfl;exact h v aB
   simp [this]
theorem JA {kindOf:Str->Option fT}:∀{P:List Str}{vs:List aj}{i:Nat}{m:Str->Option aj},P.Nodup->P[i]? = some x->vs[i]? = some v->kindOf x=some .local ->
  rW kindOf (P.zip vs) m x=some v
 | [],_,_,_,_,h,_,_=>by simp at h
 | _::_,[],_,_,_,_,h,_=>by simp at h
 | p::P,w::vs,0,m,nd,h1,h2,hk=>by
  simp at h1 h2;subst h1;subst h2
  show rW kindOf ((p,w)::P.zip vs) m p=_
  unfold rW
  rw [JQ λv hv=>(List.nodup_cons.mp nd).1 (fD hv).1,if_pos hk]
  simp
 | p::P,w::vs,i+1,m,nd,h1,h2,hk=>by
  show rW kindOf ((p,w)::P.zip vs) m x=_
  unfold rW
  exact JA (i:=i) (List.nodup_cons.mp nd).2 (by simpa using h1) (by simpa using h2) hk
theorem Jz {kindOf:Str->Option fT}:∀{P:List Str}{vs:List aj}{i:Nat}{m:Str->Option aj},P.Nodup->P[i]? = some x->vs[i]? = some v->kindOf x≠some .local ->
  rX kindOf (P.zip vs) m x=some v
 | [],_,_,_,_,h,_,_=>by simp at h
 | _::_,[],_,_,_,_,h,_=>by simp at h
 | p::P,w::vs,0,m,nd,h1,h2,hk=>by
  simp at h1 h2;subst h1;subst h2
  show rX kindOf ((p,w)::P.zip vs) m p=_
  unfold rX
  rw [JH λv hv=>(List.nodup_cons.mp nd).1 (fD hv).1,if_neg hk]
  simp
 | p::P,w::vs,i+1,m,nd,h1,h2,hk=>by
  show rX kindOf ((p,w)::P.zip vs) m x=_
  unfold rX
  exact Jz (i:=i) (List.nodup_cons.mp nd).2 (by simpa using h1) (by simpa using h2) hk
noncomputable def start (N:List Str) (vs:List V):St:=vs.map some++bJ (N.length-vs.length) none
noncomputable def vJ (CX:CXT) (P:Program) (w:bx) (K:ag) (mg:Str->Option aj) (base:Heap) (N:List Str) (qual:Str) (scope:Scope) (f:Addr) (cd:aj) (A:bz) (outer:List Env) (s:Shared) (H:Hp) (E:XK):Cx where
 prog:=P
 w:=w
 K:=K
 mg:=mg
 base:=base
 A:=A.deeper (iK qual scope s.heap.objs.size f cd)
 N:=N
 s₀:=s
 H₀:=H
 env:=iK qual scope s.heap.objs.size f cd
 outer:=outer
 stack:=iK qual scope s.heap.objs.size f cd::outer
 ex:=[]
 calm:=true
 fn:=λ_=>true
 pn:=[]
 xe:=λe s'=>ax (aE P w) (A.deeper (iK qual scope s.heap.objs.size f cd)) (oa (iK qual scope s.heap.objs.size f cd) e) (λ_ s''=>CX outer H s E e s'') (λe' s''=>CX outer H s E e' s'') s'
theorem Xs {sc:Scope}{n:Nat}(h:sc.names.lookup x=some .cell):∃c,(md n sc.names []).lookup x=some c:=by
 have q:=eA sc.names n [] (.inl h)
 exact Option.isSome_iff_exists.mp q
theorem wt {CX:CXT}{P:Program}{w:bx}{K:ag}{mg:Str->Option aj}{base:Heap}{N ps:List Str}{qual:Str}{scope:Scope}{f:Addr}{cd:aj}{A:bz}{outer:List Env}{s s1:Shared}{H:Hp}{E:XK}{us:List aj}{vs:List V}
  (S:FnScope N ps scope) (hd:A.handled=none) (e0:Env0 P w K mg base A outer s H) (hl:vs.length=ps.length) (r:jE vs us)
  (x:InCallC s s.heap.objs.size (rW (iK qual scope s.heap.objs.size f cd).kindOf (ps.zip us) λ_=>none) (md (s.heap.objs.size+1) scope.names []) (rX (iK qual scope s.heap.objs.size f cd).kindOf (ps.zip us) λ_=>none) s1) :
  Inv (vJ CX P w K mg base N qual scope f cd A outer s H E) [] (start N vs) H s1:=by
 have hpl:ps.length<=N.length:=by have:=congrArg fI S.pre;rw [aK] at this;omega
 obtain ⟨h1,tk,rfl,hk⟩:=x.done
 have noA:∀b:Addr,b∉(vJ CX P w K mg base N qual scope f cd A outer s H E).ex:=λb z=>absurd (show b∈([]:List Addr) from z) (by simp)
 refine ⟨⟨e0.mod,S.kind,rfl,rfl,ar _,λy z c h1 h2=>?_,λy hy=>?_,λy c _ h=>?_,λ_=>hd,nu e0.frames,.inr ⟨rfl,rfl⟩,λb z=>absurd z (noA b),e0.bs,e0.bsz,λb _ _=>noA b,λb z=>absurd z (noA b),e0.funs,e0.frf⟩,
  rfl,e0.bare,Un.kept hk,⟨_,x.toInCall.ns,λi y v h1 h2 h3=>?_⟩,λy c h=>⟨_,x.cell y c h⟩,e0.hok.fresh (ar _),λy c h=>?_,λp hp=>absurd (show p∈([]:List (Addr×Obj)) from hp) (by simp),e0.hok.kept hk,?_⟩
 ·exact name_of_addr x.apart (df h1) (df h2)
 ·have hy:scope.names.lookup y=some .cell\/scope.names.lookup y=some .free:=hy
  rcases hy with hy | hy
  ·exact Xs hy
  ·exact absurd rfl (S.nofree _ (df hy))
 ·exact dZ (x.above y c (df h))
 ·have hi:i<vs.length:=by
   unfold start at h2
   by_cases hi:i<vs.length
   ·exact hi
   ·rw [cO (by simpa using hi)] at h2
    rw [me] at h2
    split at h2 <;> cases h2
  have ha:vs[i]? = some v:=by
   unfold start at h2
   rw [cV (by simpa using hi),aA] at h2
   cases e:vs[i]? with
   | none=>rw [e] at h2;cases h2
   | some a=>rw [e] at h2;cases h2;rfl
  obtain ⟨u,hu,rv⟩:=r.get ha
  have hp:ps[i]? = some y:=by
   rw [<- S.pre,lS ∅];exact h1
  have ndP:ps.Nodup:=by rw [<- S.pre];exact S.nd.sublist (List.take_sublist _ _)
  refine ⟨u,rv,?_⟩
  rcases S.par y (az hp) with k | k
  ·exact .inl ⟨k,JA ndP hp hu k⟩
  ·obtain ⟨c,e⟩:=Xs (n:=s.heap.objs.size+1) k
   refine .inr ⟨.inl k,c,e,?_⟩
   have q:=x.cell y c e
   rw [Jz ndP hp hu (by show scope.names.lookup y≠_;rw [k];decide)] at q
   exact q
 ·exact e0.hok.fresh (dZ (x.above y c (df h)))
 ·unfold start
  show _=N.length
  rw [aq,ah,bX]
  omega
theorem Uj {K:ag}{k:Nat}{kV pm oc:aj}{od:Option Addr}
  {osl:Array (Option aj)}  {sp:Sp} (lk:K.lookup f=some ⟨oc,od,.func (bG name qual params body scope dV kV doc pm an cdv ct),osl⟩) (hcd:cC K cdv qual=true) (S:FnScope N ps scope)
  (len:∀vs H Q E,sp vs H Q E->vs.length=ps.length)
  (hbody:∀(A:bz) (outer:List Env) (s:Shared) (H:Hp) (vs:List V) (Q:VK) (E:XK),Room k (A.deeper (iK qual scope s.heap.objs.size f cdv))->sp vs H Q E ->
   ∃t,PSs (vJ CX P w K mg base N qual scope f cdv A outer s H E) body t/\t { nx:=λ_ H'=>Q .non H',rt:=Q } (start N vs) H) :
  FnOk P w K mg base CX (k+1) f (bG name qual params body scope dV kV doc pm an cdv ct) ps sp:=by
 refine ⟨len,λA outer s H args us vs Q E hr e0 hb r hsp=>?_⟩
 have hl:=len _ _ _ _ hsp
 have KX:K.In s.heap:=e0.mod.kin.keeps λb o e=>(e0.bs b o e).1
 have lim:s.heap.NoLimit:=e0.mod.nolimit.keeps λb o e=>(e0.bs b o e).1
 have hkind:∀y∈ps.zip us,scope.names.lookup y.1=some .local\/(scope.names.lookup y.1=some .cell/\((md (s.heap.objs.size+1) scope.names []).lookup y.1).isSome=true):=λ⟨n,v⟩ hy=>by
  rcases S.par n (fD hy).1 with q | q
  ·exact .inl q
  ·exact .inr ⟨q,eA _ _ _ (.inl q)⟩
 refine mT hr.depth (KX _ _ lk) rfl S.co S.gen rfl (oM KX hcd) (hb _ _ _ _ ?_)
 refine eV S.kind hkind λenv he s1 x=>?_
 subst he
 refine ⟨lim.keeps x.toInCall.keep,codeAny_func ?_⟩
 obtain ⟨t,ht,hq⟩:=hbody A outer s H vs Q E (hr.deeper _) hsp
 have I:Inv (vJ CX P w K mg base N qual scope f cdv A outer s H E) [] (start N vs) H s1:=wt S hr.hd e0 hl r x
 refine aZ (ht [] s1 (start N vs) H _ I hq) (λfl s' hs=>?_) λe s' hs=>hs
 have fin:∀{σ':St} {H':Hp} {v:V} {u:aj},Inv (vJ CX P w K mg base N qual scope f cdv A outer s H E) [] σ' H' s'->jF v u->Q v H'->CE outer P w H s Q u s' :=
  λ{σ' H' v u} J rv q=>⟨v,H',J.os,J.bare,J.base,J.hok,rv,q⟩
 cases fl with
 | ret u =>
  obtain ⟨v,σ',H',J,rv,q⟩:=hs
  exact fin J rv q
 | next =>
  obtain ⟨σ',H',J,q⟩:=hs
  exact fin (v:=V.non) (u:=aU) J rfl q
 | brk =>
  obtain ⟨_,_,_,q⟩:=hs
  exact bt q
 | cont =>
  obtain ⟨_,_,_,q⟩:=hs
  exact bt q
end L2
namespace L2
section
variable {X:Cx}{x:Str}{p pos:Pos}{e:Expr}{es:List Expr}{t:TA}{id T:String}{r:List V->Hp->VK->Prop}
noncomputable def tCB (r:List V->Hp->VK->Prop) (t:TA):TE:=λσ H Q=>t σ H λvs H1=>r vs H1 Q
theorem jc (hc:xh X (.builtin id) r) (hg:Gl X x) (hm:X.mg x=none) (hv:fe x=some (.builtin id)) (ha:PA X (e::es) t) (hn:x ≠ "__name__":=by decide) (hdb:(x == ("__debug__" : Str))=false:=by decide)
  (he:aP (e::es) X.env=(false,eval e X.env)::aP es X.env:=by rfl) (hpl:(cM pos (aP es X.env)).any (·.1)=false:=by rfl):PE X (.Call (.Name x p) (e::es) [] pos) (tCB r t):=by
 intro pins s σ H Q I h
 refine cX (yN I hg hm hv ?_ hn hdb)
 exact PyProof.Rows.callWith_builtin1 (thn (ha pos pins s σ H _ I h) λus s1 ⟨vs,H1,I1,r1,q1⟩=>hc pins s1 σ H1 vs us Q I1 r1 q1) he hpl
theorem qA (hc:xh X (.type T) r) (hg:Gl X x) (hm:X.mg x=none) (hv:fe x=some (.type T)) (ha:PA X (e::es) t) (hn:x ≠ "__name__":=by decide) (hdb:(x == ("__debug__" : Str))=false:=by decide)
  (he:aP (e::es) X.env=(false,eval e X.env)::aP es X.env:=by rfl) (hpl:(cM pos (aP es X.env)).any (·.1)=false:=by rfl):PE X (.Call (.Name x p) (e::es) [] pos) (tCB r t):=by
 intro pins s σ H Q I h
 refine cX (yN I hg hm hv ?_ hn hdb)
 exact cf (thn (ha pos pins s σ H _ I h) λus s1 ⟨vs,H1,I1,r1,q1⟩=>hc pins s1 σ H1 vs us Q I1 r1 q1) he hpl
end
end L2
namespace HT
open PySem PyProof.Rows
section
open PySem.SeqAt
open PySem.AutoSeq1 (wpAny_loadPart')
open PySem.MeetsSeq PySem.MeetsSeq2 PySem.MeetsSeq3
end
section
variable {prog:Program}{w:bx}{A:bz}{E:aj->Shared->Prop}{s:Shared}
theorem cat_tup {t:Addr}{vs ws:List aj}{Q:aj->Shared->Prop}(ht:rS s.heap t vs.toArray) (hb:rS s.heap b ws.toArray) (hv:vs≠[])
  (h1:ws=[]->Q (.ref t) s) (h2:ws≠[]->Q (.ref s.heap.objs.size) { s with heap:=s.heap.push { cls:=.type "tuple",data:=.seq (vs++ws).toArray } })
  (hsz:vs.length+ws.length<=sizeLine):ax (aE prog w) A (eS .Add (.ref t) (.ref b)) Q E s:=by
 obtain ⟨⟨cls,dd,data,sl⟩,ho,hc,n,hd⟩:=id ht
 obtain ⟨⟨cls2,dd2,data2,sl2⟩,ho2,hc2,n2,hd2⟩:=id hb
 simp only at hc hd hc2 hd2
 subst hc hd hc2 hd2
 have e:vs.toArray++ws.toArray=(vs++ws).toArray:=by simp
 by_cases hw:ws=[]
 ·exact pH ⟨_,ho,rfl⟩ ⟨_,ho2,rfl⟩ mf ow fU fJ (fq _ _)
   (tuple_addW1 t b vs.toArray ws.toArray n n2 dd dd2 sl sl2 (by simpa using hv) (by simp [hw])) ⟨ho,ho2,h1 hw⟩
 ·refine pH ⟨_,ho,rfl⟩ ⟨_,ho2,rfl⟩ mf ow fU fJ (fq _ _)
   (tuple_addW2 t b vs.toArray ws.toArray n n2 dd dd2 sl sl2 (by simpa using hv) (by simpa using hw) (by rw [av,av];exact hsz)) ⟨ho,ho2,?_⟩
  rw [e]
  exact h2 hw
noncomputable def sIx (n d:Nat):Option Int->Nat
 | none=>d
 | some v=>if v<0 then (v+(n:Int)).toNat else min v.toNat n
theorem sIx_none (n d:Nat):sIx n d none=d:=rfl
theorem sIx_nat (n d k:Nat):sIx n d (some (k:Int))=min k n:=by
 show (if (k:Int)<0 then ((k:Int)+(n:Int)).toNat else min (k:Int).toNat n)=min k n
 rw [if_neg ∅,bF]
theorem EC (n d:Nat) (hd:d<=n) (o:Option Int):sIx n d o<=n:=by
 cases o with
 | none=>exact hd
 | some v =>
  show (if v<0 then (v+(n:Int)).toNat else min v.toNat n)<=n
  by_cases hv:v<0
  ·rw [if_pos hv];omega
  ·rw [if_neg hv];exact Nat.min_le_right _ _
theorem ZX (v:Int) (n d:Nat):(if v<0 then max (v+(n:Int)) 0 else min v (n:Int))=((sIx n d (some v):Nat):Int):=by
 show (if v<0 then max (v+(n:Int)) 0 else min v (n:Int))=(((if v<0 then (v+(n:Int)).toNat else min v.toNat n):Nat):Int)
 by_cases hv:v<0
 ·simp only [if_pos hv];omega
 ·simp only [if_neg hv];omega
theorem ZR (lo hi:Option Int) (n:Nat):cu lo hi 1 (n:Int)=(((sIx n 0 lo:Nat):Int),((sIx n n hi:Nat):Int)):=by
 have h1:¬((1:Int)<0):=∅
 unfold cu
 simp only [h1,if_false]
 refine AL ?_ ?_
 ·cases lo with
  | none=>rfl
  | some v=>exact ZX v n 0
 ·cases hi with
  | none=>rfl
  | some v=>exact ZX v n n
theorem ZM (i j:Nat):bO (i:Int) (j:Int) 1=j-i:=by
 unfold bO
 have h1:(1:Int) > 0:=∅
 simp only [h1,if_true,Int.ediv_one]
 split <;> omega
theorem slicePart_ {Q:Option Int->Shared->Prop}(p:lp v o) (h:Q o s):ax (aE prog w) A (Builtin.Slice.slicePartIndex v) Q E s:=by
 cases p with
 | none=>exact sU h
 | int i t=>exact slicePart_int h
theorem sliceApplied_gen {lo:Option Int}{n:Nat}{Q:Int×Int×Nat->Shared->Prop}(hs:s.heap.IsSliceOf sl vl vu .none) (pl:lp vl lo) (pu:lp vu hi)
  (h:Q (((sIx n 0 lo:Nat):Int),1,sIx n n hi-sIx n 0 lo) s):ax (aE prog w) A (dq (.ref sl) (pure (n:Int))) Q E s:=by
 obtain ⟨os,hos,hcs,hds⟩:=id hs
 unfold dq lE
 refine aa (aa (bB hos hds (x:=vl) rfl (aa (bB hos hds (x:=vu) rfl (aa (bB hos hds (x:=.none) rfl (wpAny_pure ?_)))))))
 refine aa (sU ?_)
 show ax _ _ (if ((1:Int) == 0)=true then _ else _) _ _ s
 rw [if_neg ⋯]
 refine aa (slicePart_ pl (aa (slicePart_ pu (aa (wpAny_pure ?_)))))
 show ax _ _ (match cu lo hi 1 (n:Int) with | (lo,hi)=>pure (lo,(1:Int),bO lo hi 1)) _ _ s
 rw [ZR lo hi n]
 show ax _ _ (pure (((sIx n 0 lo:Nat):Int),(1:Int),bO ((sIx n 0 lo:Nat):Int) ((sIx n n hi:Nat):Int) 1)) _ _ s
 rw [ZM]
 exact wpAny_pure h
theorem U3 (xs:Array aj) (i k:Nat):((aI k).filterMap λ(m:Nat)=>xs[((i:Int)+(m:Int)*1).toNat]?).toArray=((xs.toList.drop i).take k).toArray:=by
 have e:(λ(m:Nat)=>xs[((i:Int)+(m:Int)*1).toNat]?)=λm=>xs[i+m]?:=by
  funext m
  have:((i:Int)+(m:Int)*1).toNat=i+m:=∅
  rw [this]
 rw [e]
 have:=pick_run xs i k
 rw [oN] at this
 have e2:((λx=>xs[x]?) ∘ λx=>i+x)=λm=>xs[i+m]?:=rfl
 rw [e2] at this
 rw [this]
theorem getItem_tuple_cut {t:Addr}{lo:Option Int}{Q:aj->Shared->Prop}(ht:rS s.heap t items) (hs:s.heap.IsSliceOf sl vl vu .none) (pl:lp vl lo) (pu:lp vu hi)
  (hw:¬(sIx items.size 0 lo=0/\sIx items.size items.size hi=items.size))
  (h:Q (.ref s.heap.objs.size) { s with heap:=s.heap.push { cls:=.type "tuple",data:=.seq ((items.toList.drop (sIx items.size 0 lo)).take (sIx items.size items.size hi-sIx items.size 0 lo)).toArray } })
  (hsz:items.size<=sizeLine):ax (aE prog w) A (fV (.ref t) (.ref sl)) Q E s:=by
 have htake:sizeOk (.seq ((items.toList.drop (sIx items.size 0 lo)).take (sIx items.size items.size hi-sIx items.size 0 lo)).toArray):=by
  show ((items.toList.drop (sIx items.size 0 lo)).take (sIx items.size items.size hi-sIx items.size 0 lo)).toArray.size<=sizeLine
  rw [av,aK,ir,cw]
  omega
 have hj:sIx items.size items.size hi<=items.size:=EC _ _ (ar _) hi
 obtain ⟨os,hos,hcs,hds⟩:=id hs
 have hTs:s.TypeIs (.ref sl) "slice":=⟨os,hos,hcs⟩
 unfold fV
 try with_reducible refine bw ?_
 first | refine aa (wpAny_pure ?_) | skip
 refine aa (lM ht.typeIs ⋯ ?_)
 refine aa (bN (name:=ak "__getitem__") ht.typeIs bW
  (c7 bW ht.typeIs iT ?_ (lu _ _)))
 show ax _ _ (eW (.ref t) >>= _) _ _ s
 refine aa (oz ht ?_)
 refine aa (fW hTs ?_)
 rw [if_pos ⋯]
 refine aa (sliceApplied_gen hs pl pu ?_)
 have hno:¬((((sIx items.size 0 lo:Nat):Int) == 0 && (1:Int) == 1 && (sIx items.size items.size hi-sIx items.size 0 lo) == items.size)=true):=by
  intro q
  rw [bb,bb] at q
  have q1:((sIx items.size 0 lo:Nat):Int)=0:=tU q.1.1
  have q2:sIx items.size items.size hi-sIx items.size 0 lo=items.size:=tU q.2
  exact hw ⟨∅,∅⟩
 show ax _ _ (if (((sIx items.size 0 lo:Nat):Int) == 0 && (1:Int) == 1 && (sIx items.size items.size hi-sIx items.size 0 lo) == items.size)=true then _ else _) _ _ s
 rw [if_neg hno,U3]
 first
  | exact aa (m:=bU _) (bC (wpAny_pure ⟨_,rfl,wpAny_pure h⟩) htake)
  | exact aa (m:=bU _) (bC (aa (wpAny_pure (wpAny_pure ⟨_,rfl,wpAny_pure h⟩))) htake)
  | exact aa (aa (m:=bU _) (bC (wpAny_pure (wpAny_pure ⟨_,rfl,wpAny_pure h⟩)) htake))
  | exact aa (aa (m:=bU _) (bC (wpAny_pure ⟨_,rfl,wpAny_pure h⟩) htake))
end
end HT
namespace L2
noncomputable abbrev TO:=St->Hp->(Option Int->Hp->Prop)->Prop
noncomputable def PO (X:Cx) (e:Option Expr) (t:TO):Prop :=
 ∀(pins:List (Addr×Obj)) (s:Shared) (σ:St) (H:Hp) (Q:Option Int->Hp->Prop),Inv X pins σ H s->t σ H Q ->
  ax (aE X.prog X.w) X.A (evalPart e X.env) (λu s'=>∃o H',Inv X pins σ H' s'/\lp u o/\Q o H') X.xe s
noncomputable def Wp:TO:=λ_ H Q=>Q none H
noncomputable def A2 (t:TE):TO:=λσ H Q=>t σ H λx H1=>∃i,x = .int i/\Q (some i) H1
section
variable {X:Cx}{e:Expr}{te:TE}{lo hi:Option Expr}{tl th:TO}{pos p2:Pos}
theorem kh:PO X none Wp:=by
 intro pins s σ H Q I h
 rw [lT]
 exact wpAny_pure ⟨none,H,I,.none,h⟩
theorem ke (h:PE X e te):PO X (some e) (A2 te):=by
 intro pins s σ H Q I hw
 rw [oA]
 refine thn (h pins s σ H _ I hw) λu s1 ⟨x,H1,I1,r1,q1⟩=>?_
 obtain ⟨i,rfl,q⟩:=q1
 obtain ⟨t,rfl⟩:=r1
 exact ⟨some i,H1,I1,.int i t,q⟩
noncomputable def SlR (X:Cx) (r:V->Option Int->Option Int->Hp->VK->Prop):Prop :=
 ∀(pins:List (Addr×Obj)) (s:Shared) (σ:St) (H:Hp) (x:V) (v vl vu:aj) (lo hi:Option Int) (sl:Addr) (Q:VK),Inv X pins σ H s->jF x v->s.heap.IsSliceOf sl vl vu .none->lp vl lo->lp vu hi->r x lo hi H Q ->
  ∃T id,oO (.type T) "__getitem__" = pure (some (.builtin id))/\s.TypeIs v T/\ax (aE X.prog X.w) X.A (fV v (.ref sl)) (EP X pins σ Q) X.xe s
noncomputable def tSl (r:V->Option Int->Option Int->Hp->VK->Prop) (te:TE) (tl th:TO):TE:=λσ H Q=>te σ H λx H1=>tl σ H1 λl H2=>th σ H2 λu H3=>r x l u H3 Q
theorem uA (hr:SlR X r) (he:PE X e te) (hl:PO X lo tl) (hu:PO X hi th):PE X (.Subscript e (.Slice lo hi none p2) pos) (tSl r te tl th):=by
 intro pins s σ H Q I h
 refine mw (thn (he pins s σ H _ I h) λv s1 ⟨x,H1,I1,r1,q1⟩=>?_)
 refine rZ (thn (hl pins s1 σ H1 _ I1 q1) λvl s2 ⟨l,H2,I2,pl,q2⟩=>thn (hu pins s2 σ H2 _ I2 q2) λvu s3 ⟨u,H3,I3,pu,q3⟩=>?_)
 rw [lT]
 refine wpAny_pure ?_
 have I4:Inv X pins σ H3 { s3 with heap:=s3.heap.push { cls:=.type "slice",data:=.fields #[vl,vu,.none] } }:=I3.kept (t':=s3.toks) λb ob q=>ai _ q
 obtain ⟨T,id,hT,ht,hg⟩:=hr pins { s3 with heap:=s3.heap.push { cls:=.type "slice",data:=.fields #[vl,vu,.none] } } σ H3 x v vl vu l u s3.heap.objs.size Q I4 r1 (lx ..) pl pu q3
 show ax (aE X.prog X.w) X.A (iA e (.Slice lo hi none p2) v (.ref s3.heap.objs.size)) (EP X pins σ Q) X.xe { s3 with heap:=s3.heap.push { cls:=.type "slice",data:=.fields #[vl,vu,.none] } }
 exact AM (ops:=[.ref s3.heap.objs.size,v]) ht hT hg (by with_unfolding_all rfl)
noncomputable def wS (xs:List V) (lo hi:Option Int):List V:=(xs.drop (HT.sIx xs.length 0 lo)).take (HT.sIx xs.length xs.length hi-HT.sIx xs.length 0 lo)
theorem wI (xs:List V) (lo hi:Option Int):(wS xs lo hi).length<=xs.length:=by
 unfold wS
 rw [aK,ir]
 omega
noncomputable def Aa (K:ag):R2:=λx y H Q=>∃a b xs ys,x = .ref a/\y = .ref b/\SqT K H a xs/\SqT K H b ys/\xs≠[]/\xs.length+ys.length<=sizeLine /\
 (ys=[]->Q (.ref a) H)/\(ys≠[]->∀p,H p=none->Q (.ref p) (upd H p (.tup (xs++ys))))
theorem jE.nil_iff {xs:List V}(r:jE xs us):us=[]↔xs=[]:=by
 cases r with
 | nil=>simp
 | cons _ _=>simp
theorem Ws:OpR X (eS .Add) (Aa X.K):=by
 intro pins s σ H x y v u Q I rx ry h
 obtain ⟨a,b,xs,ys,rfl,rfl,ha,hb,hx,hz,q1,q2⟩:=h
 cases rx
 cases ry
 obtain ⟨its,r1,p1,_⟩:=I.tuple ha
 obtain ⟨its2,r2,p2,_⟩:=I.tuple hb
 refine HT.cat_tup p1 p2 (λz=>hx (r1.nil_iff.mp z)) (λz=>⟨.ref a,H,I,rfl,q1 (r2.nil_iff.mp z)⟩) (λz=>?_) (by rw [<- r1.length,<- r2.length];exact hz)
 refine ⟨.ref s.heap.objs.size,_,I.laid (t':=s.toks) (o:=.tup (xs++ys)) (λb ob q=>ai _ q) (ar _) ?_,rfl,q2 (λw=>z (r2.nil_iff.mpr w)) _ (I.hok.fresh (ar _))⟩
 exact ⟨by rw [aq];exact hz,_,r1.append r2,rj _ _⟩
end
end L2
namespace L2
noncomputable def ixN (n:Nat) (i:Int):Option Nat:=if 0<=i then (if i<n then some i.toNat else none) else if -(n:Int)<=i then some (i+n).toNat else none
noncomputable def atI {α:Type}(xs:List α) (i:Int):Option α:=(ixN xs.length i).bind λj=>xs[j]?
theorem ZY {n:Nat}{i:Int}{j:Nat}(h:ixN n i=some j):seqIndex? i n=some j/\j<n /\ -(n:Int)<=i/\i<n:=by
 unfold ixN at h
 by_cases h0:0<=i
 ·rw [if_pos h0] at h
  by_cases h1:i<n
  ·rw [if_pos h1] at h
   have e:i.toNat=j:=aW h
   exact ⟨by rw [se h0 h1,e],∅,∅,h1⟩
  ·rw [if_neg h1] at h;cases h
 ·rw [if_neg h0] at h
  by_cases h1 : -(n:Int)<=i
  ·rw [if_pos h1] at h
   have e:(i+n).toNat=j:=aW h
   exact ⟨by rw [pI ∅ h1,e],∅,h1,∅⟩
  ·rw [if_neg h1] at h;cases h
theorem Yw {α:Type}{xs:List α}{i:Int}{v:α}(h:atI xs i=some v):∃j,seqIndex? i xs.length=some j/\xs[j]? = some v/\j<xs.length /\ -(xs.length:Int)<=i/\i<xs.length:=by
 unfold atI at h
 cases e:ixN xs.length i with
 | none=>rw [e] at h;cases h
 | some j =>
  rw [e] at h
  obtain ⟨h1,h2,h3,h4⟩:=ZY e
  exact ⟨j,h1,h,h2,h3,h4⟩
theorem zV {α:Type}{xs:List α}{j:Nat}{v:α}(h:xs[j]? = some v):atI xs (j:Int)=some v:=by
 have hj:j<xs.length:=(List.getElem?_eq_some_iff.mp h).1
 have e:ixN xs.length (j:Int)=some j:=by
  unfold ixN
  rw [if_pos ∅,if_pos ∅];simp
 unfold atI;rw [e];exact h
theorem uC {α:Type}(xs:List α) (v:α):atI (xs++[v]) (-1)=some v:=by
 have hl:(xs++[v]).length=xs.length+1:=by simp
 have e:ixN (xs++[v]).length (-1)=some xs.length:=by
  unfold ixN
  rw [hl,if_neg ⋯,if_pos ∅]
  congr 1
  omega
 unfold atI
 rw [e]
 show (xs++[v])[xs.length]? = some v
 simp
noncomputable def G4 (b:Expr):Prop:=∀o i,nv b false o i=operate [o,i] (fV o i)
noncomputable def IxR (X:Cx) (r:R2):Prop :=
 ∀(value slice:Expr) (pins:List (Addr×Obj)) (s:Shared) (σ:St) (H:Hp) (x y:V) (v u:aj) (Q:VK),Inv X pins σ H s->jF x v->jF y u->r x y H Q ->
  nv slice false v u=operate [v,u] (fV v u)->ax (aE X.prog X.w) X.A (iA value slice v u) (EP X pins σ Q) X.xe s
noncomputable def MtR (X:Cx) (id:String) (r:V->List V->Hp->VK->Prop):Prop :=
 ∀(pins:List (Addr×Obj)) (s:Shared) (σ:St) (H:Hp) (x:V) (xs:List V) (v:aj) (us:List aj) (Q:VK),Inv X pins σ H s->jF x v->jE xs us->r x xs H Q ->
  ax (aE X.prog X.w) X.A (call (.builtin id) (v::us)) (EP X pins σ Q) X.xe s
section
variable {X:Cx}{a b:Expr}{ta tb:TE}{pos:Pos}
theorem js (hr:IxR X r) (ha:PE X a ta) (hb:PE X b tb) (hs:G4 b):PE X (.Subscript a b pos) (tOp r ta tb):=by
 intro pins s σ H Q I h
 exact mw (Eb ha hb I h λv u s2 x y H2 I2 rx ry q=>hr a b pins s2 σ H2 x y v u Q I2 rx ry q (hs _ _))
noncomputable def EI (K:ag):R2:=λx y H Q=>∃p xs i v,x = .ref p/\y = .int i/\SqL K H p xs/\atI xs i=some v/\Q v H
noncomputable def GN (K:ag):R2:=λx y H Q=>∃p xs i v,x = .ref p/\y = .int i/\SqT K H p xs/\atI xs i=some v/\Q v H
theorem Gv:IxR X (EI X.K):=by
 intro value slice pins s σ H x y v u Q I rx ry h hs
 obtain ⟨p,xs,i,z,rfl,rfl,hq,he,q⟩:=h
 cases rx
 obtain ⟨t,rfl⟩:=ry
 obtain ⟨its,r,pl,hz⟩:=I.list hq
 obtain ⟨j,h1,h2,h3,h4,h5⟩:=Yw he
 obtain ⟨w,ew,rw'⟩:=r.get h2
 have hl:=r.length
 have hn:=kR
 have fin:EP X pins σ Q w s:=⟨z,H,I,rw',q⟩
 by_cases h0:0<=i
 ·have hj:i.toNat=j:=by
   rw [se h0 h5] at h1
   exact aW h1
  exact item_listR pl.isList h0 ∅ (by rw [hj];simpa using ew) fin hs
 ·have hj:(i+(its.toArray.size:Int)).toNat=j:=by
   rw [pI ∅ h4] at h1
   rw [av,<- hl]
   exact aW h1
  exact mx (x:=w) pl.isList.typeIs slot_list_getitem.lookup
   (wpAny_getItem_list_neg (Q:=λr s'=>r=w/\EP X pins σ Q r s') pl.isList ∅ (by rw [av] <;> omega) ∅ (by rw [hj];simpa using ew) ⟨rfl,fin⟩) hs
theorem ER:IxR X (GN X.K):=by
 intro value slice pins s σ H x y v u Q I rx ry h hs
 obtain ⟨p,xs,i,z,rfl,rfl,hq,he,q⟩:=h
 cases rx
 obtain ⟨t,rfl⟩:=ry
 obtain ⟨its,r,pl,hz⟩:=I.tuple hq
 obtain ⟨j,h1,h2,h3,h4,h5⟩:=Yw he
 obtain ⟨w,ew,rw'⟩:=r.get h2
 have hl:=r.length
 have hn:=kR
 have fin:EP X pins σ Q w s:=⟨z,H,I,rw',q⟩
 exact mx (x:=w) pl.typeIs slot_tuple_getitem.lookup
  (getItem_tuple (j:=j) (Q:=λr s'=>r=w/\EP X pins σ Q r s') pl ∅ ∅ (by rw [av,<- hl];exact h1) (by simpa using ew) ⟨rfl,fin⟩) hs
theorem Zz (its:List aj) (n j:Nat) (u:aj):b9 (·.setIfInBounds j u) { cls:=.type "list",data:=.seq its.toArray n }={ cls:=.type "list",data:=.seq (its.set j u).toArray n }:=by
 simp [b9]
theorem Inv.lst {p:Addr}{xs:List V}(I:Inv X pins σ H s) (h:H p=some (.lst xs)) :
  ∃(its:List aj) (n:Nat),jE xs its/\s.heap.get? p=some { cls:=.type "list",data:=.seq its.toArray n }/\xs.length<=sizeLine:=by
 obtain ⟨z,its,n,r,e⟩:=I.hok p _ h
 exact ⟨its,n,r,e,z⟩
theorem Inv.lstUpd {p:Addr}{xs ys:List V}{its its':List aj}{n n':Nat}{f:Obj->Obj}(I:Inv X pins σ H s) (h:H p=some (.lst xs))
  (ho:s.heap.get? p=some { cls:=.type "list",data:=.seq its.toArray n }) (hf:f { cls:=.type "list",data:=.seq its.toArray n }={ cls:=.type "list",data:=.seq its'.toArray n' }) (r:jE ys its') (hz:ys.length<=sizeLine) (t:Nat) :
  Inv X pins σ (upd H p (.lst ys)) { s with heap:=s.heap.update p f,toks:=t }:=by
 have e:(s.heap.update p f).get? p=some { cls:=.type "list",data:=.seq its'.toArray n' }:=by
  rw [dA f ho (by rw [hf] <;> rfl),hf]
 refine I.write (x:=p) (e:=p) (by rw [h];trivial) (.inl rfl) (λb u hb q=>(c0 _ _ (cF hb)).trans q) ⟨_,e⟩ ?_
 exact ⟨hz,its',n',r,e⟩
noncomputable def AD:V->V->V->Hp->(Hp->Prop)->Prop:=λo i v H Q=>∃p xs k j,o = .ref p/\i = .int k/\H p=some (.lst xs)/\ixN xs.length k=some j/\Q (upd H p (.lst (xs.set j v)))
theorem vh:Aq X AD:=by
 intro pins s σ H o i v ov iv u Q I ro ri rv h
 obtain ⟨p,xs,k,j,rfl,rfl,hp,hj,q⟩:=h
 cases ro
 obtain ⟨t,rfl⟩:=ri
 obtain ⟨its,n,r,ho,hz⟩:=I.lst hp
 obtain ⟨h1,h2,h3,h4⟩:=ZY hj
 have hl:=r.length
 have hn:=kR
 have I':Inv X pins σ (upd H p (.lst (xs.set j v))) { s with heap:=s.heap.update p (b9 (·.setIfInBounds j u)) } :=
  I.lstUpd hp ho (Zz its n j u) (r.set rv j) (by rw [iL];exact hz) s.toks
 by_cases h0:0<=k
 ·have hk:k.toNat=j:=by
   rw [se h0 h4] at h1
   exact aW h1
  exact PySem.W.ki_setAt ho h0 ∅ (by rw [av,<- hl];exact h4) (by rw [hk];exact ⟨_,I',q⟩)
 ·have hk:(k+(its.toArray.size:Int)).toNat=j:=by
   rw [pI ∅ h3] at h1
   rw [av,<- hl]
   exact aW h1
  exact PySem.W.ki_setBack ho ∅ (by rw [av,<- hl];exact h3) ∅ (by rw [hk];exact ⟨_,I',q⟩)
theorem Qq (lo hi:Option Int) (n:Nat):(fK lo hi none n).1=((HT.sIx n 0 lo:Nat):Int)/\(fK lo hi none n).2.1=((HT.sIx n n hi:Nat):Int)/\(fK lo hi none n).2.2=1:=by
 refine ⟨?_,?_,rfl⟩
 ·cases lo with
  | none=>simp [fK,HT.sIx]
  | some i =>
   simp only [fK,HT.sIx,rm,show (1:Int) > 0 by decide,if_true]
   by_cases h:i<0
   ·simp only [h,if_true] <;> omega
   ·simp only [h,if_false] <;> omega
 ·cases hi with
  | none=>simp [fK,HT.sIx]
  | some i =>
   simp only [fK,HT.sIx,rm,show (1:Int) > 0 by decide,if_true]
   by_cases h:i<0
   ·simp only [h,if_true] <;> omega
   ·simp only [h,if_false] <;> omega
theorem Jn (its:List aj) (lo hi:Option Int):slicePick its.toArray lo hi none=((its.drop (HT.sIx its.length 0 lo)).take (HT.sIx its.length its.length hi-HT.sIx its.length 0 lo)).toArray:=by
 obtain ⟨h1,h2,h3⟩:=Qq lo hi its.toArray.size
 unfold slicePick
 rw [h1,h2,h3]
 simp only [sliceRange_one,pick_run,av] <;> rfl
noncomputable def rSlL (K:ag):V->Option Int->Option Int->Hp->VK->Prop:=λx lo hi H Q=>∃a xs,x = .ref a/\SqL K H a xs/\∀p,H p=none->Q (.ref p) (upd H p (.lst (wS xs lo hi)))
theorem Wn:SlR X (rSlL X.K):=by
 intro pins s σ H x v vl vu lo hi sl Q I rx hs pl pu h
 obtain ⟨a,xs,rfl,hx,q⟩:=h
 cases rx
 obtain ⟨its,r,ht,hz⟩:=I.list hx
 have hlen:=r.length
 refine ⟨"list",_,slot_list_getitem.lookup,ht.isList.typeIs,?_⟩
 refine lU ht.isList hs pl pu .none (by simp) ?_ (by rw [av] <;> omega)
 rw [Jn,<- hlen]
 refine ⟨.ref s.heap.objs.size,_,I.laid (t':=s.toks) (o:=.lst (wS xs lo hi)) (λb ob q=>ai _ q) (ar _) ?_,rfl,q _ (I.hok.fresh (ar _))⟩
 exact ⟨aH (wI xs lo hi) hz,_,0,(r.drop (HT.sIx xs.length 0 lo)).take (HT.sIx xs.length xs.length hi-HT.sIx xs.length 0 lo),ay _ rfl⟩
noncomputable def uN:V->Bool
 | .non=>true
 | .bl _=>true
 | .int _=>true
 | .str _=>true
 | _=>false
noncomputable def eqV:V->V->Bool
 | .non,.non=>true
 | .bl a,.bl b=>a == b
 | .bl a,.int b=>(if a then 1 else 0) == b
 | .int a,.bl b=>a == (if b then 1 else 0)
 | .int a,.int b=>a == b
 | .str a,.str b=>a == b
 | _,_=>false
theorem EG (ry:jF y u) (rx:jF x v) (fy:uN y=true) (fx:uN x=true):SeqAt.EqAt A s u v (eqV y x):=by
 cases y with
 | non =>
  cases ry
  cases x with
  | non=>cases rx;exact SeqAt.EqAt.same _
  | bl b=>cases rx;exact SeqAt.EqAt.none_bool b
  | int b=>obtain ⟨t,rfl⟩:=rx;exact SeqAt.EqAt.none_int b t
  | str b=>obtain ⟨t,rfl⟩:=rx;exact SeqAt.EqAt.none_str b t
  | _=>exact absurd (show false=true from fx) au
 | bl a =>
  cases ry
  cases x with
  | non=>cases rx;exact SeqAt.EqAt.bool_none a
  | bl b=>cases rx;exact SeqAt.EqAt.bool_bool a b
  | int b=>obtain ⟨t,rfl⟩:=rx;exact SeqAt.EqAt.bool_int a b t
  | str b=>obtain ⟨t,rfl⟩:=rx;exact SeqAt.EqAt.bool_str a b t
  | _=>exact absurd (show false=true from fx) au
 | int a =>
  obtain ⟨t',rfl⟩:=ry
  cases x with
  | non=>cases rx;exact SeqAt.EqAt.int_none a t'
  | bl b=>cases rx;exact SeqAt.EqAt.int_bool a t' b
  | int b=>obtain ⟨t,rfl⟩:=rx;exact SeqAt.EqAt.int_int a t' b t
  | str b=>obtain ⟨t,rfl⟩:=rx;exact oG a t' b t
  | _=>exact absurd (show false=true from fx) au
 | str a =>
  obtain ⟨t',rfl⟩:=ry
  cases x with
  | non=>cases rx;exact SeqAt.EqAt.str_none a t'
  | bl b=>cases rx;exact SeqAt.EqAt.str_bool a t' b
  | int b=>obtain ⟨t,rfl⟩:=rx;exact oH a t' b t
  | str b=>obtain ⟨t,rfl⟩:=rx;exact SeqAt.EqAt.str_str a t' b t
  | _=>exact absurd (show false=true from fx) au
 | _=>exact absurd (show false=true from fy) au
noncomputable def eqU (x:V) (u:aj):Bool:=match u with
 | .none=>eqV .non x
 | .bool b=>eqV (.bl b) x
 | .int i _=>eqV (.int i) x
 | .str z _=>eqV (.str z) x
 | _=>false
theorem Wb (r:jF y u) (f:uN y=true):eqU x u=eqV y x:=by
 cases y with
 | non=>cases r;rfl
 | bl b=>cases r;rfl
 | int i=>obtain ⟨t,rfl⟩:=r;rfl
 | str z=>obtain ⟨t,rfl⟩:=r;rfl
 | _=>exact absurd (show false=true from f) au
theorem uO {x:V}:∀{xs:List V}{us:List aj},jE xs us->xs.all uN=true->us.any (eqU x)=xs.any λy=>eqV y x
 | _,_,.nil,_=>rfl
 | y::xs,u::us,.cons r t,f=>by
  rw [oB,bb] at f
  rw [ft,ft,Wb r f.1,uO t f.2]
theorem vk (rx:jF x v) (fx:uN x=true):∀{xs:List V}{us:List aj},jE xs us->xs.all uN=true->∀u∈us,SeqAt.EqAt A s u v (eqU x u)
 | _,_,.nil,_=>λu hu=>by cases hu
 | y::xs,u::us,.cons r t,f=>λu' hu=>by
  rw [oB,bb] at f
  rcases List.mem_cons.mp hu with rfl | hu
  ·rw [Wb r f.1];exact EG r rx f.1 fx
  ·exact vk rx fx t f.2 u' hu
noncomputable def inV (x:V) (xs:List V):Bool:=xs.any λy=>eqV y x
noncomputable def rIn (K:ag) (neg:Bool):R2:=λx y H Q=>∃p xs,y = .ref p/\(SqL K H p xs\/SqT K H p xs)/\uN x=true/\xs.all uN=true/\Q (.bl (if neg then !inV x xs else inV x xs)) H
theorem Vh:OpR X (ck .In) (rIn X.K false):=by
 intro pins s σ H x y v u Q I rx ry h
 obtain ⟨p,xs,rfl,hq,fx,fs,q⟩:=h
 cases ry
 rcases hq with hq | hq
 ·obtain ⟨its,r,pl,hz⟩:=I.list hq
  refine SeqAt.in_listAt (eqU x) pl.isList (λw hw=>vk rx fx r fs w (by simpa using hw)) ⟨.bl _,H,I,rfl,?_⟩
  rw [show its.toArray.any (eqU x)=its.any (eqU x) by simp,uO r fs]
  exact q
 ·obtain ⟨its,r,pl,hz⟩:=I.tuple hq
  refine SeqAt.in_tupleAt (eqU x) pl (λw hw=>vk rx fx r fs w (by simpa using hw)) ⟨.bl _,H,I,rfl,?_⟩
  rw [show its.toArray.any (eqU x)=its.any (eqU x) by simp,uO r fs]
  exact q
theorem Qo:OpR X (ck .NotIn) (rIn X.K true):=by
 intro pins s σ H x y v u Q I rx ry h
 obtain ⟨p,xs,rfl,hq,fx,fs,q⟩:=h
 cases ry
 rcases hq with hq | hq
 ·obtain ⟨its,r,pl,hz⟩:=I.list hq
  refine SeqAt.notIn_listAt (eqU x) pl.isList (λw hw=>vk rx fx r fs w (by simpa using hw)) ⟨.bl _,H,I,rfl,?_⟩
  rw [show its.toArray.any (eqU x)=its.any (eqU x) by simp,uO r fs]
  exact q
 ·obtain ⟨its,r,pl,hz⟩:=I.tuple hq
  refine SeqAt.notIn_tupleAt (eqU x) pl (λw hw=>vk rx fx r fs w (by simpa using hw)) ⟨.bl _,H,I,rfl,?_⟩
  rw [show its.toArray.any (eqU x)=its.any (eqU x) by simp,uO r fs]
  exact q
theorem QC:xh X (.builtin "len") (λxs H Q=>∃p ys,xs=[.ref p]/\(SqL X.K H p ys\/SqT X.K H p ys)/\Q (.int ys.length) H):=by
 intro pins s σ H xs us Q I r h
 obtain ⟨p,ys,rfl,hq,q⟩:=h
 obtain ⟨u,rfl,rx⟩:=vQ r
 cases rx
 have hn:=kR
 rcases hq with hq | hq
 ·obtain ⟨its,r',pl,hz⟩:=I.list hq
  have hlen:=r'.length
  exact Calls.call_len_list pl.isList (by simp only [av] <;> omega) ⟨.int ys.length,H,I.tok _,⟨s.toks+1,by rw [av,hlen]⟩,q⟩
 ·obtain ⟨its,r',pl,hz⟩:=I.tuple hq
  have hlen:=r'.length
  exact len_tuple pl (by simp only [av] <;> omega) ⟨.int ys.length,H,I.tok _,⟨s.toks+1,by rw [av,hlen]⟩,q⟩
theorem Q6:xh X (.type "list") (λxs H Q=>∃p ys,xs=[.ref p]/\(SqL X.K H p ys\/SqT X.K H p ys)/\∀l,H l=none->Q (.ref l) (upd H l (.lst ys))):=by
 intro pins s σ H xs us Q I r h
 obtain ⟨p,ys,rfl,hq,q⟩:=h
 obtain ⟨u,rfl,rx⟩:=vQ r
 cases rx
 have fin:∀(its:List aj),jE ys its->ys.length<=sizeLine->∀(h':Heap) (c':Nat),(∀b o',s.heap.get? b=some o'->h'.get? b=some o') ->
   h'.get? s.heap.objs.size=some { cls:=.type "list",dict:=none,data:=.seq its.toArray c',slots:=#[] }->EP X pins σ Q (.ref s.heap.objs.size) { s with heap:=h' }:=λits r' hz h' c' kp e =>
  ⟨.ref s.heap.objs.size,_,I.laid (t':=s.toks) kp (ar _) (show qo X.prog X.w _ h' _ (.lst ys) from ⟨hz,its,c',r',e⟩),rfl,q _ (I.hok.fresh (ar _))⟩
 rcases hq with hq | hq
 ·obtain ⟨its,r',pl,hz⟩:=I.list hq
  have hlen:=r'.length
  obtain ⟨o,ho,hc,n,hd⟩:=pl.isList
  exact tM p (.inl rfl) ho hc hd (λh' c' kp e=>fin its r' hz h' c' kp e) (by simp only [av] <;> omega)
 ·obtain ⟨its,r',pl,hz⟩:=I.tuple hq
  have hlen:=r'.length
  obtain ⟨o,ho,hc,n,hd⟩:=pl
  exact tM p (.inr rfl) ho hc hd (λh' c' kp e=>fin its r' hz h' c' kp e) (by simp only [av] <;> omega)
theorem Jg:xh X (.type "tuple") (λxs H Q=>∃p ys,xs=[.ref p]/\((SqL X.K H p ys/\∀l,H l=none->Q (.ref l) (upd H l (.tup ys)))\/(SqT X.K H p ys/\Q (.ref p) H))):=by
 intro pins s σ H xs us Q I r h
 obtain ⟨p,ys,rfl,h⟩:=h
 obtain ⟨u,rfl,rx⟩:=vQ r
 cases rx
 rcases h with ⟨hq,q⟩ | ⟨hq,q⟩
 ·obtain ⟨its,r',pl,hz⟩:=I.list hq
  have hlen:=r'.length
  refine call_tuple_list pl.isList (λh' kp=>?_) (by simp only [av] <;> omega)
  have I1:Inv X pins σ H { s with heap:=h' }:=I.kept (t':=s.toks) kp
  have I2:Inv X pins σ (upd H h'.objs.size (.tup ys)) { s with heap:=h'.push { cls:=.type "tuple",data:=.seq its.toArray } } :=
   I1.laid (t':=s.toks) (λb o e=>ai _ e) (ar _) (show qo X.prog X.w _ _ _ (.tup ys) from ⟨hz,its,r',rj _ _⟩)
  exact ⟨.ref h'.objs.size,_,I2,rfl,q _ (I1.hok.fresh (ar _))⟩
 ·obtain ⟨its,r',pl,hz⟩:=I.tuple hq
  exact call_tuple_same pl ⟨.ref p,H,I,rfl,q⟩
noncomputable def tyV (K:ag) (T:String) (x:V) (H:Hp):Prop:=match x with
 | .str _=>T = "str"
 | .int _=>T = "int"
 | .ref p=>(T = "list" /\ ∃xs,SqL K H p xs)\/(T = "tuple" /\ ∃o,K.lookup p=some o/\o.cls = .type "tuple" /\ o.dict=none) \/
   (T = "dict" /\ ((∃kvs,H p=some (.dK kvs))\/∃kvs,H p=some (.dT kvs)))\/(T = "set" /\ ∃S n,H p=some (.set S n))
 | _=>False
theorem US {T:String}(I:Inv X pins σ H s) (r:jF x v) (ty:tyV X.K T x H) :
  s.TypeIs v T/\∀a,v = .ref a->∃ob,s.heap.get? a=some ob/\ob.dict=none:=by
 cases x with
 | str z =>
  obtain ⟨t,rfl⟩:=r
  cases (show T = "str" from ty)
  exact ⟨typeIs_str s z t,λ_ e=>nomatch e⟩
 | int i =>
  obtain ⟨t,rfl⟩:=r
  cases (show T = "int" from ty)
  exact ⟨typeIs_int s i t,λ_ e=>nomatch e⟩
 | ref p =>
  cases r
  rcases ty with ⟨rfl,xs,hq⟩ | ⟨rfl,o,hk,hc,hd⟩ | ⟨rfl,hk⟩ | ⟨rfl,S,n,hk⟩
  ·obtain ⟨its,_,pl,_⟩:=I.list hq
   refine ⟨pl.isList.typeIs,λa e=>?_⟩
   cases e
   obtain ⟨o,n,e,c,hd,_⟩:=pl
   exact ⟨o,e,hd⟩
  ·refine ⟨⟨o,I.kIn p o hk,hc⟩,λa e=>?_⟩
   cases e
   exact ⟨o,I.kIn _ o hk,hd⟩
  ·have z:∃o,s.heap.get? p=some o/\o.ExactDict:=by
    rcases hk with ⟨kvs,hk⟩ | ⟨kvs,hk⟩
    ·obtain ⟨_,_,_,_,o,_,_,e,ex,_⟩:=I.hok p _ hk
     exact ⟨o,e,ex⟩
    ·obtain ⟨_,_,_,_,o,_,_,e,ex,_⟩:=I.hok p _ hk
     exact ⟨o,e,ex⟩
   obtain ⟨o,e,ex⟩:=z
   refine ⟨⟨o,e,ex.1⟩,λa e2=>?_⟩
   cases e2
   exact ⟨o,e,ex.2.1⟩
  ·obtain ⟨o,_,_,_,e,ex,_⟩:=I.hok p _ hk
   refine ⟨⟨o,e,ex.1⟩,λa e2=>?_⟩
   cases e2
   exact ⟨o,e,ex.2.1⟩
 | _=>exact bt ty
noncomputable def Au (K:ag) (T:String) (r:V->List V->Hp->VK->Prop) (to:TE):TE:=λσ H Q=>to σ H λx H1=>tyV K T x H1/\r x [] H1 Q
noncomputable def tBM (K:ag) (T:String) (r:V->List V->Hp->VK->Prop) (to:TE) (t:TA):TE:=λσ H Q=>to σ H λx H1=>tyV K T x H1/\t σ H1 λxs H2=>r x xs H2 Q
variable {o e:Expr}{es:List Expr}{to:TE}{t:TA}{name:Str}{apos cpos:Pos}{T id:String}{r:V->List V->Hp->VK->Prop}
theorem Uv (pa:oP T) (slot:Slot T name id) (hty:oQ (.builtin id)=pure (.type "method_descriptor")) (hm:MtR X id r) (ho:PE X o to)
  (hbase:dG o name X.env (eval o X.env)=eval o X.env:=by rfl) (hline:(apos.endLine == cpos.line)=true:=by rfl):PE X (.Call (.Attribute o name apos) [] [] cpos) (Au X.K T r to):=by
 intro pins s σ H Q I h
 refine wpAny_Call_method0_late hbase hline (thn (ho pins s σ H _ I h) λv s1 ⟨x,H1,I1,r1,ty,q1⟩=>?_)
 obtain ⟨h1,h2⟩:=US I1 r1 ty
 exact ⟨T,id,pa,slot,hty,h1,h2,fX rfl (PySem.evalArgs_none (hm pins s1 σ H1 x [] v [] Q I1 r1 .nil q1))⟩
theorem Ap (pa:oP T) (slot:Slot T name id) (hty:oQ (.builtin id)=pure (.type "method_descriptor")) (hm:MtR X id r) (ho:PE X o to) (ha:PA X (e::es) t)
  (hbase:dG o name X.env (eval o X.env)=eval o X.env:=by rfl)
  (hfew:((cM cpos (aP (e::es) X.env)).all (λx=>!x.1) && (lh cpos (eU [] X.env)).all (λx=>x.1.isSome)
   && decide ((e::es).length+([]:List mr).length+(if ([]:List mr).isEmpty then 0 else 1)<30))=true:=by rfl)
  (hline:(apos.endLine == cpos.line)=true:=by rfl) (hs:aP (e::es) X.env=(false,eval e X.env)::aP es X.env:=by rfl) (hplain:(cM cpos (aP es X.env)).any (·.1)=false:=by rfl) :
  PE X (.Call (.Attribute o name apos) (e::es) [] cpos) (tBM X.K T r to t):=by
 intro pins s σ H Q I h
 refine wpAny_Call_method_late hbase hfew hline rfl (thn (ho pins s σ H _ I h) λv s1 ⟨x,H1,I1,r1,ty,q1⟩=>?_)
 obtain ⟨h1,h2⟩:=US I1 r1 ty
 refine ⟨T,id,pa,slot,hty,h1,h2,?_⟩
 have hA:=ha cpos pins s1 σ H1 _ I1 q1
 rw [hs] at hA ⊢
 refine fX (by show (false || (cM cpos (aP es X.env)).any (·.1))=false;rw [hplain] <;> rfl) (iE ?_)
 exact thn hA λus s2 ⟨vs,H2,I2,r2,q2⟩=>hm pins s2 σ H2 x vs v us Q I2 r1 r2 q2
end
end L2
namespace L2
noncomputable def MtM (X:Cx) (id:String) (r:V->List V->Hp->VK->Prop):Prop :=
 ∀(pins:List (Addr×Obj)) (s:Shared) (σ:St) (H:Hp) (x:V) (xs:List V) (v:aj) (us:List aj) (Q:VK),Inv X pins σ H s->jF x v->jE xs us->r x xs H Q ->
  ax (aE X.prog X.w) X.A (call (.builtin id) (v::us)) (EP X pins σ Q) X.xe s
theorem jE.one:∀{x:V}{us:List aj},jE [x] us->∃u,us=[u]/\jF x u
 | _,_,.cons r .nil=>⟨_,rfl,r⟩
theorem jE.zero:∀{us:List aj},jE [] us->us=[]
 | _,.nil=>rfl
theorem jE.dropLast {xs:List V}(h:jE xs us):jE xs.dropLast us.dropLast:=by
 induction h with
 | nil=>exact .nil
 | cons r t ih =>
  cases t with
  | nil=>exact .nil
  | cons q t'=>exact .cons r ih
theorem jE.reverse {xs:List V}(h:jE xs us):jE xs.reverse us.reverse:=by
 induction h with
 | nil=>exact .nil
 | cons r t ih=>rw [lN,lN];exact jE.append ih (.cons r .nil)
theorem ZC {α:Type}(l:List α):l.eraseIdx (l.length-1)=l.dropLast:=by
 induction l with
 | nil=>rfl
 | cons a r ih =>
  cases r with
  | nil=>rfl
  | cons b r =>
   have e:(a::b::r).length-1=((b::r).length-1)+1:=by
    have h1:(a::b::r).length=r.length+2:=rfl
    have h2:(b::r).length=r.length+1:=rfl
    omega
   rw [e,List.eraseIdx_cons_succ,ih]
   all_goals rfl
section
variable {X:Cx}{pins:List (Addr×Obj)}{σ:St}{H:Hp}{s:Shared}{l b:Addr}{xs ys zs:List V}
theorem Inv.lset {its its':List aj}{n:Nat}{f:Array aj->Array aj}{t':Nat}(I:Inv X pins σ H s) (hH:H l=some (.lst xs))
  (e:s.heap.get? l=some { cls:=.type "list",data:=.seq its.toArray n }) (hf:f its.toArray=its'.toArray) (hv:jE ys its') (hz:ys.length<=sizeLine) :
  Inv X pins σ (upd H l (.lst ys)) { s with heap:=s.heap.update l (b9 f),toks:=t' }:=by
 have q:=PySem.IsL.update e f
 rw [hf] at q
 refine I.write (x:=l) (e:=l) (by rw [hH];exact trivial) (.inl rfl) (λb' u hb hu=>(c0 s.heap (b9 f) (cF hb)).trans hu) ⟨_,q⟩ ?_
 exact ⟨hz,its',_,hv,q⟩
theorem Inv.lnew {t':Nat}(I:Inv X pins σ H s) (hv:jE ys its) (hz:ys.length<=sizeLine) :
  Inv X pins σ (upd H s.heap.objs.size (.lst ys)) { s with heap:=s.heap.push { cls:=.type "list",data:=.seq its.toArray },toks:=t' } :=
 I.laid (λ_ _ q=>ai _ q) (ar _) ⟨hz,its,0,hv,ay _ rfl⟩
theorem Inv.fresh (I:Inv X pins σ H s):H s.heap.objs.size=none:=I.hok.fresh (ar _)
theorem Inv.lstM (I:Inv X pins σ H s) (hH:H l=some (.lst xs)):xs.length<=sizeLine/\∃(its:List aj) (n:Nat),jE xs its/\xs.length=its.length/\s.heap.get? l=some { cls:=.type "list",data:=.seq its.toArray n }:=by
 obtain ⟨z,its,n,r,e⟩:=I.hok l _ hH
 exact ⟨z,its,n,r,r.length,e⟩
theorem UR {n:Nat}(h:n<=sizeLine):fA n=false:=by
 unfold fA
 exact decide_eq_false ∅
end
section
variable {X:Cx}
noncomputable def WR:V->List V->Hp->VK->Prop:=λx vs H Q=>∃l xs y,x = .ref l/\vs=[y]/\H l=some (.lst xs)/\xs.length<sizeLine/\Q .non (upd H l (.lst (xs++[y])))
theorem jX:MtM X "list.append" WR:=by
 intro pins s σ H x vs v us Q I rx rv h
 obtain ⟨l,xs,y,rfl,rfl,hH,hz,q⟩:=h
 cases rx
 obtain ⟨u,rfl,ru⟩:=rv.one
 obtain ⟨z,its,n,r,hl,e⟩:=I.lstM hH
 refine my F.slot_list_append ⟨_,e,rfl⟩ F.entry_list_append (F.args_list_append_2 _ _) (PySem.list_append l its.toArray n u (by rw [av];omega)) ⟨e,?_⟩
 refine ⟨.non,_,I.lset (its':=its++[u]) hH e (by simp) (r.append (.cons ru .nil)) ?_,rfl,q⟩
 rw [aq,ba]
 omega
noncomputable def WV:V->List V->Hp->VK->Prop:=λx vs H Q=>∃l b xs zs,x = .ref l/\vs=[.ref b]/\H l=some (.lst xs)/\H b=some (.lst zs)/\xs.length+zs.length<=sizeLine/\Q .non (upd H l (.lst (xs++zs)))
theorem EZ:MtM X "list.extend" WV:=by
 intro pins s σ H x vs v us Q I rx rv h
 obtain ⟨l,b,xs,zs,rfl,rfl,hH,hB,hz,q⟩:=h
 cases rx
 obtain ⟨u,rfl,ru⟩:=rv.one
 cases ru
 obtain ⟨z,its,n,r,hl,e⟩:=I.lstM hH
 obtain ⟨z2,its2,n2,r2,hl2,e2⟩:=I.lstM hB
 have hsz:its.toArray.size+its2.toArray.size<=sizeLine:=by rw [av,av];omega
 have hlong:¬(!its.toArray.isEmpty && fA (its.toArray.size+its2.toArray.size))=true:=by
  rw [UR hsz,sV]
  exact au
 refine my F.slot_list_extend ⟨_,e,rfl⟩ F.entry_list_extend (F.args_list_extend_2 _ _)
  (AutoSeq1.list_extend_list_list_0 l its.toArray n b its2.toArray n2 hlong (by rw [av];omega) ∅) ⟨e,e2,?_⟩
 refine ⟨.non,_,I.lset (its':=its++its2) hH e (by simp) (r.append r2) ?_,rfl,q⟩
 rw [aq]
 omega
noncomputable def rPop:V->List V->Hp->VK->Prop:=λx vs H Q=>∃l xs y,x = .ref l/\vs=[]/\H l=some (.lst xs)/\xs[xs.length-1]? = some y/\Q y (upd H l (.lst xs.dropLast))
theorem Ua:MtM X "list.pop" rPop:=by
 intro pins s σ H x vs v us Q I rx rv h
 obtain ⟨l,xs,y,rfl,rfl,hH,hy,q⟩:=h
 cases rx
 have hus:=rv.zero
 subst hus
 obtain ⟨z,its,n,r,hl,e⟩:=I.lstM hH
 obtain ⟨u,hu,ru⟩:=r.get hy
 have hy':its.toArray[its.toArray.size-1]? = some u:=by
  show its.toArray[its.length-1]? = some u
  rw [<- mU,<- hl]
  exact hu
 refine my F.slot_list_pop ⟨_,e,rfl⟩ F.entry_list_pop (F.args_list_pop_1 _) (MeetsSeq.list_pop_last l its.toArray n u hy' (by rw [av];omega)) ⟨e,?_⟩
 refine ⟨y,_,I.lset (its':=its.dropLast) hH e ?_ r.dropLast ?_,ru,q⟩
 ·show its.toArray.eraseIdxIfInBounds (its.toArray.size-1)=its.dropLast.toArray
  rw [av,List.eraseIdxIfInBounds_toArray,ZC]
 ·rw [nA]
  omega
noncomputable def rCat:R2:=λx y H Q=>∃l b xs zs,x = .ref l/\y = .ref b/\H l=some (.lst xs)/\H b=some (.lst zs)/\xs.length+zs.length<=sizeLine/\∀p,H p=none->Q (.ref p) (upd H p (.lst (xs++zs)))
theorem GQ:OpR X (eS .Add) rCat:=by
 intro pins s σ H x y v u Q I rx ry h
 obtain ⟨l,b,xs,zs,rfl,rfl,hH,hB,hz,q⟩:=h
 cases rx
 cases ry
 obtain ⟨z,its,n,r,hl,e⟩:=I.lstM hH
 obtain ⟨z2,its2,n2,r2,hl2,e2⟩:=I.lstM hB
 refine PySem.P.add_list e e2 ?_ (by rw [av,av];omega)
 have ea:its.toArray++its2.toArray=(its++its2).toArray:=by simp
 rw [ea]
 exact ⟨.ref _,_,I.lnew (t':=s.toks) (r.append r2) (by rw [aq];omega),rfl,q _ I.fresh⟩
end
section
variable {prog:Program}{w:bx}{A:bz}{E:aj->Shared->Prop}{s:Shared}
set_option maxRecDepth 100000 in
end
section
variable {X:Cx}
end
end L2
namespace Att
open PySem PySem.W PySem.Calls PyProof.Rows
theorem wV :∀(ns:List Int) (vs:List aj),WellAll P h vs (ns.map WData.int)->dh vs ns:=by
 intro ns
 induction ns with
 | nil =>
  intro vs w
  rw [fh] at w
  cases w
  exact .nil
 | cons n ns ih =>
  intro vs w
  rw [aM] at w
  cases w with
  | cons a b =>
   cases a
   exact .cons _ _ (ih _ b)
theorem V6 {l:OpenLaw}{n:Nat}(hn:l.most=some n) 
  (hpre:l.row.toRowW.claim.pre args=true) (hwl:WellAll P h vals args) :
  ∃a vs ns,vals=[aV a]/\args=[WData.list (ns.map WData.int)]/\h.get? a=some { cls:=.type "list",data:=.seq vs.toArray }/\dh vs ns/\ns.length<=n:=by
 have hsh:WShape.hasAll [] args [.list .int]=true:=(pre_splitW hpre).1
 have hc:l.pre.holds [] { args:=args }=true:=(pre_splitW hpre).2
 obtain ⟨d,r,rfl,h1,h2⟩:=hasAllW_cons hsh
 obtain rfl:=hasAllW_nil h2
 obtain ⟨xs,rfl,h3⟩:=hasW_list h1
 obtain ⟨ns,rfl⟩:=items_int h3
 have hlen:ns.length<=n:=by
  unfold OpenLaw.pre at hc
  have h4:(WTm.not (.lt (.lit (.int (n:Int))) (.len (.arg 0)))).holds [] { args:=[.list (ns.map .int)] }=true:=by
   have h4:=(holds_andW hc).1
   rw [hn] at h4
   exact h4
  have h5:=condW_of h4 (w_not (w_lt w_lit (w_len_list (w_arg rfl))))
  rw [ah] at h5
  refine Nat.le_of_not_lt λq=>?_
  have q':(n:Int)<((ns.length:Nat):Int):=∅
  first
   | (rw [decide_eq_true q'] at h5;exact absurd h5 ⋯)
   | (simp at h5;omega)
 cases hwl with
 | cons w1 w2 =>
  cases w2
  cases w1 with
  | list ho hall=>exact ⟨_,_,ns,rfl,rfl,ho,wV ns _ hall,hlen⟩
theorem YM (l:OpenLaw) (args:List WData):l.row.toRowW.claim.post args (.bool true) args=true :=
 postW_of (r:=l.row.toRowW) (X:=(true == true))
  (show WShape.has [] (.bool true) .bool=true by first | rfl | decide | simp [WShape.has,WShape.arms,WShape.armsAll])
  (show (WTm.eq .res (.lit (.bool true))).value [] { args:=args,res:=some (.bool true),after:=args }=some (.bool (true == true)) from w_eq_bool (w_res rfl) w_lit) rfl
theorem attach_call {l:OpenLaw}{n:Nat}{q:Program}{loose:List Str}{XP:(Str->Option aj)->Heap->Prop}{YP:bx->Heap->Prop}{d:DefRec}
  (hn:l.most=some n) (hdf:d.params.defaults=[])
  (call:∀(w:bx) (s₀ s₁:Shared) (mg mb:Str->Option aj) (fa:Addr) (o:Obj) (pm cd doc:aj) (a:Addr) (vs:List aj) (ns:List Int),
   Ground q loose [] XP w s₀ mg mb s₁.heap->YP w s₁.heap ->
   s₁.heap.get? fa=some o->o.data = .func (docDef d.name d.params d.body d.scope pm cd doc)->s₁.heap.CodeRec cd d.name->mg d.name=some (.ref fa) ->
   s₁.heap.get? a=some { cls:=.type "list",data:=.seq vs.toArray }->dh vs ns->ns.length<=n->s₁.gens = #[] ->
   cU (aE l.prog w) og (.call (.ref fa) ⟨[.ref a],[]⟩) (λr s'=>r = .ok (.ret (.bool true))/\OldK s₁.heap s'.heap/\s'.os=s₁.os/\iz s'.gens) s₁) :
  WalkO q loose XP YP l.row.toRowW d [] (λf vs=>PySem.call f vs):=by
 intro w s₀ s₁ mg mb G Y fa o pm cd doc dV kV ho hd hcd hD hmg hg args vals as hpre hlay hrd hwl hlo
 obtain rfl:dV = .none:=Dflts.none hD hdf
 obtain rfl:kV = .none:=Dflts.noKw hD
 obtain ⟨a,vs,ns,rfl,rfl,hobj,hints,hlen⟩:=V6 hn hpre hwl
 refine enter_call (dg (call w s₀ s₁ mg mb fa o pm cd doc a vs ns G Y ho (fd_plain hd) hcd hmg hobj hints hlen hg) λr s' hq=>?_)
 obtain ⟨rfl,h2,h3,h4⟩:=hq
 exact ⟨.inl ⟨.bool true,.bool true,[],rfl,λ_=>rfl,.bool true,YM l _,λ_=>⟨fY,λ_ hm=>(nomatch hm)⟩⟩,h2,h3,h4⟩
section
variable {prog:Program}{w:bx}{A:bz}{E:aj->Shared->Prop}{s:Shared}{K:Frag}
noncomputable def ledger (h:Heap) (L d:Addr):List (Addr×Obj):=(aI h.objs.size).filterMap λa=>if a=L\/a=d then none else (h.get? a).map λo=>(a,o)
end
end Att
namespace L2
theorem wb:∀{vs:List aj}{ns:List Int},dh vs ns->jE (ns.map V.int) vs
 | _,_,.nil=>.nil
 | _,_,.cons n t h=>.cons ⟨t,rfl⟩ (wb h)
end L2
namespace L2
end L2
namespace L2
noncomputable def zr (s:Stmt) (j:Nat):Stmt:=match s with
 | .ClassDef _ _ _ body _ _ _ _ _ _ _=>body.getD j (.Pass ⟨0,0,0,0⟩)
 | _=>.Pass ⟨0,0,0,0⟩
noncomputable def jV (s:Stmt):Arguments:=match s with
 | .FunctionDef _ a _ _ _ _ _ _ _ _=>a
 | _=>{ posonlyargs:=[],args:=[],vararg:=none,kwonlyargs:=[],kw_defaults:=[],kwarg:=none,defaults:=[] }
noncomputable def jM (s:Stmt):List Stmt:=match s with
 | .FunctionDef _ _ b _ _ _ _ _ _ _=>b
 | _=>[]
noncomputable def j8 (s:Stmt):Scope:=match s with
 | .FunctionDef _ _ _ _ _ _ sc _ _ _=>sc
 | _=>{ kind:=.function,names:=[],isGenerator:=false,isCoroutine:=false }
noncomputable abbrev CX0:CXT:=λ_ _ _ _ _ _=>False
noncomputable abbrev E0:XK:=λ_ _ _=>False
theorem Gw :Qk CX0 X E0:=λ_ _ _ _ _ _ _ h=>h.elim
structure Fun (K:ag) (x qual:Str) (st:Stmt) (f:Addr) (fd:FuncData):Prop where
 ex:∃(oc:aj) (od:Option Addr) (kV doc pm:aj) (an:Option Addr) (cdv ct:aj) (osl:Array (Option aj)),
  fd=bG x qual (jV st) (jM st) (j8 st) .none kV doc pm an cdv ct/\K.lookup f=some ⟨oc,od,.func fd,osl⟩/\cC K cdv qual=true
 kp:bR K (.ref f)=true
section
variable {P:Program}{w:bx}{K:ag}{mg:Str->Option aj}{base:Heap}
theorem Fun.ok {x:Str}{st:Stmt}{N:List Str}{k:Nat}{sp:Sp}(F:Fun K x qual st f fd) (S:FnScope N ps (j8 st)) (len:∀vs H Q E,sp vs H Q E->vs.length=ps.length)
  (hbody:∀(cdv:aj) (A:bz) (outer:List Env) (s:Shared) (H:Hp) (vs:List V) (Q:VK) (E:XK),Room k (A.deeper (iK qual (j8 st) s.heap.objs.size f cdv))->sp vs H Q E ->
   ∃t,PSs (vJ CX0 P w K mg base N qual (j8 st) f cdv A outer s H E).nox (jM st) t/\t { nx:=λ_ H'=>Q .non H',rt:=Q } (start N vs) H):FnOk P w K mg base CX0 (k+1) f fd ps sp:=by
 obtain ⟨oc,od,kV,doc,pm,an,cdv,ct,osl,rfl,lk,hcd⟩:=F.ex
 refine Uj lk hcd S len λA outer s H vs Q E hr hsp=>?_
 obtain ⟨t,h,q⟩:=hbody cdv A outer s H vs Q E hr hsp
 exact ⟨t,h.nox,q⟩
theorem Fun.binds {x:Str}{st:Stmt}{ps:List Str}(F:Fun K x qual st f fd)
  (h:∀(kV doc pm:aj) (an:Option Addr) (cdv ct:aj) (us:List aj),us.length=ps.length->cH (bG x qual (jV st) (jM st) (j8 st) .none kV doc pm an cdv ct) ⟨us,[]⟩=pure (ps.zip us)):yr K fd ps []:=by
 obtain ⟨oc,od,kV,doc,pm,an,cdv,ct,osl,rfl,lk,hcd⟩:=F.ex
 exact .all (h kV doc pm an cdv ct)
theorem vf {st:Stmt}{oc:aj}{od:Option Addr}{osl:Array (Option aj)}{kV pm:aj}(l:K.lookup f=some ⟨oc,od,.func (bG x qual (jV st) (jM st) (j8 st) .none kV doc pm an cdv ct),osl⟩)
  (c:cC K cdv qual=true) (k:bR K (.ref f)=true):Fun K x qual st f (bG x qual (jV st) (jM st) (j8 st) .none kV doc pm an cdv ct):=⟨⟨oc,od,kV,doc,pm,an,cdv,ct,osl,rfl,l,c⟩,k⟩
end
theorem jO {k:Nat}(hr:Room k A):A.units+1<cLine:=bV (Nat.add_le_add_left (by decide:1<=64) _) hr.units
theorem jh {n:Nat}(h:n<=1000):n<sizeLine:=bV h ⋯
section
variable {X:Cx}
theorem pv (i:Nat) {pos:Pos}(hN:X.N[i]? = some x:=by rfl) (hv:Vis X.env.scope x:=by first | exact aQ rfl | exact iM (aQ rfl) | exact iM (iM rfl)) (hd:(x == ("__debug__" : Str))=false:=by decide)
  (hcd:(x == ("__classdict__" : Str))=false:=by decide):PE X (.Name x pos) (Jl i):=Ek hN hv hd hcd
end
theorem uF {A B:Prop}(h:B):if false=true then A else B:=by
 rw [if_neg au]
 exact h
theorem ve {A B:Prop}(h:A):if true=true then A else B:=by
 rw [if_pos rfl]
 exact h
noncomputable def jj (H H':Hp):Prop:=∀b o,H b=some o->H' b=some o
theorem jj.refl (H:Hp):jj H H:=λ_ _ h=>h
theorem jj.trans (a:jj H H1) (b:jj H1 H2):jj H H2:=λc o h=>b c o (a c o h)
theorem jj.free (e:jj H H') (h:H' l=Option.none):H l=Option.none:=by
 cases q:H l with
 | none=>rfl
 | some o =>
  rw [e l o q] at h
  cases h
end L2
section
namespace L2
theorem ZN (env:Env) (f:Str×fT->List (Str×Addr)->Sem (ForInStep (List (Str×Addr))))
  (hf:∀n k r,f (n,k) r=if (k == bc)=true then (tX env n >>= λa=>pure (c4 ((n,a)::r))) else pure (c4 r)) :
  ∀(names:List (Str×fT)) (acc:List (Str×Addr)),(∀x∈names,x.2 = .free->∃c,env.cells.lookup x.1=some c) ->
  ∃cl,AN names acc f=pure cl/\∀x,cl.lookup x=if (x,bc)∈names then env.cells.lookup x else acc.lookup x:=by
 intro names
 induction names with
 | nil=>intro acc _;exact ⟨acc,rfl,λx=>by rw [if_neg (by simp)]⟩
 | cons y r ih =>
  intro acc h
  obtain ⟨n,k⟩:=y
  have hr:∀x∈r,x.2 = .free->∃c,env.cells.lookup x.1=some c:=λx hx=>h x (aF _ hx)
  by_cases hk:k = .free
  ·subst hk
   obtain ⟨c,hc⟩:=h (n,.free) aB rfl
   obtain ⟨cl,e,p⟩:=ih ((n,c)::acc) hr
   refine ⟨cl,?_,λx=>?_⟩
   ·rw [iN,hf,if_pos (by rfl)]
    have e1:tX env n=pure c:=by unfold tX;rw [hc]
    rw [e1]
    exact e
   ·rw [p x]
    by_cases hx:x=n
    ·subst hx
     rw [if_pos (aB),cI,beq_self_eq_true]
     by_cases hm:(x,bc)∈r
     ·rw [if_pos hm]
     ·rw [if_neg hm];exact hc.symm
    ·have hb:(x == n)=false:=beq_eq_false_iff_ne.mpr hx
     rw [cI,hb]
     by_cases hm:(x,bc)∈r
     ·rw [if_pos hm,if_pos (aF _ hm)]
     ·rw [if_neg hm,if_neg (by
       intro z
       rcases List.mem_cons.mp z with z | z
       ·exact hx (congrArg Prod.fst z)
       ·exact hm z)]
  ·obtain ⟨cl,e,p⟩:=ih acc hr
   have hb:(k == bc)=false:=by simpa using hk
   refine ⟨cl,?_,λx=>?_⟩
   ·rw [iN,hf,hb,if_neg au]
    exact e
   ·rw [p x]
    by_cases hm:(x,bc)∈r
    ·rw [if_pos hm,if_pos (aF _ hm)]
    ·rw [if_neg hm,if_neg (by
      intro z
      rcases List.mem_cons.mp z with z | z
      ·exact hk (congrArg AO z).symm
      ·exact hm z)]
theorem yP {scope:Scope}{env:Env}(h:∀x∈scope.names,x.2 = .free->∃c,env.cells.lookup x.1=some c) :
  ∃cl,oR scope env=pure cl/\∀x,cl.lookup x=if (x,bc)∈scope.names then env.cells.lookup x else none:=by
 have hh:=ZN env (λ(x:Str×fT) r=>match x with | (n,k)=>if (k == bc)=true then (tX env n >>= λa=>pure (c4 ((n,a)::r))) else pure (c4 r)) (λ_ _ _=>rfl) scope.names [] h
 obtain ⟨cl,e,p⟩:=hh
 refine ⟨cl,?_,λx=>by rw [p x];rfl⟩
 unfold oR
 have e':AN scope.names ([]:List (Str×Addr)) (λ(x:Str×fT) r=>match x with | (n,k)=>if (k == bc)=true then (tX env n >>= λa=>pure (c4 ((n,a)::r))) else pure (c4 r))=(pure cl:Sem _):=e
 show (AN scope.names ([]:List (Str×Addr)) _ >>= λcs=>pure cs)=_
 first
  | (rw [e'];rfl)
  | (simp only [bind_pure];exact e')
structure CompSc (osc:Scope) (ON:List Str) (scope:Scope) (own:Nat) (N:List Str) (caps:List Nat):Prop where
 kind:scope.kind = .function
 nocell:∀y∈scope.names,y.2≠.cell
 loc:∀y∈scope.names,y.2 = .local->scope.names.lookup y.1=some .local
 fre:∀y∈scope.names,y.2 = .free->scope.names.lookup y.1=some .free/\(osc.names.lookup y.1=some .cell\/osc.names.lookup y.1=some .free)
 len:N.length=own+caps.length
 cap:∀p∈(N.drop own).zip caps,ON[p.2]? = some p.1/\(p.1,bc)∈scope.names
noncomputable def yU (own:Nat) (caps:List Nat) (σ:St):St:=bJ own none++caps.map λj=>(σ[j]?).getD none
noncomputable def Cx.block (X:Cx) (scope:Scope) (cl:List (Str×Addr)) (C:Addr) (N:List Str) (s:Shared) (H:Hp) (ex:List Addr):Cx :=
 { X with N:=N,s₀:=s,H₀:=H,env:=pJ scope cl C X.env,outer:=X.stack,ex:=ex,fn:=λx=>decide (scope.names.lookup x=some .local),pn:=[],xe:=λ_ _=>False }
theorem yv {env:Env}:∀{names:List (Str×fT)}{x:Str}{k:fT},
  (names.map λ(n,k)=>if (k == bc && env.scope.kind == .function && env.kindOf n == some .cell) then (n,iB) else (n,k)).lookup x=some k ->
  ∃k',names.lookup x=some k'/\(k'=k\/(k' = .free/\k = .cell))
 | [],_,_,h=>by simp at h
 | (n,k0)::r,x,k,h=>by
  have ih:=@yv env r x k
  have h':dX x ((if (k0 == bc && env.scope.kind == .function && env.kindOf n == some .cell)=true then (n,iB) else (n,k0))::r.map λ(n,k)=>if (k == bc && env.scope.kind == .function && env.kindOf n == some .cell) then (n,iB) else (n,k))=some k:=h
  cases hx:x == n with
  | true =>
   by_cases hc:(k0 == bc && env.scope.kind == .function && env.kindOf n == some .cell)=true
   ·rw [if_pos hc,cI,hx] at h'
    cases h'
    refine ⟨k0,by rw [cI,hx],.inr ⟨?_,rfl⟩⟩
    rw [bb,bb] at hc
    exact tU hc.1.1
   ·rw [if_neg hc,cI,hx] at h'
    cases h'
    exact ⟨k0,by rw [cI,hx],.inl rfl⟩
  | false =>
   have h2:dX x (r.map λ(n,k)=>if (k == bc && env.scope.kind == .function && env.kindOf n == some .cell) then (n,iB) else (n,k))=some k:=by
    by_cases hc:(k0 == bc && env.scope.kind == .function && env.kindOf n == some .cell)=true
    ·rw [if_pos hc,cI,hx] at h';exact h'
    ·rw [if_neg hc,cI,hx] at h';exact h'
   obtain ⟨k',e,d⟩:=ih h2
   exact ⟨k',by rw [cI,hx];exact e,d⟩
noncomputable def kB (X:Cx) (ifs:List Expr) (t:TT):Prop :=
 ∀(pins:List (Addr×Obj)) (s:Shared) (σ:St) (H:Hp) (Q:Bool->Hp->Prop),Inv X pins σ H s->t σ H Q ->
  ax (aE X.prog X.w) X.A (AN ifs true λc r=>if r=true then do let ok <- isTrue c X.env (eval c X.env);pure (c4 ok) else pure (c4 r)) (TP X pins σ Q) X.xe s
noncomputable def Ar:TT:=λ_ H Q=>Q true H
theorem jN :kB X [] Ar:=λ_ _ _ H _ I h=>wpAny_tests_nil ⟨H,I,h⟩
theorem vp {t:TT}(h:PT X c t):kB X [c] t:=λpins s σ H Q I hw=>wpAny_tests_one (h pins s σ H Q I hw)
section
variable {prog:Program}{w:bx}{A:bz}{R:oK->Shared->Prop}{s:Shared}
theorem wK {elt target iter:Expr}{ifs:List Expr}{pos:Pos}{it acc:aj}{env:Env}(I:Nat->Shared->Prop)
  (turn:∀n s,I n s->ax (aE prog w) A (eP it) (λr s₁=>match r with
   | none=>R (.ok .next) s₁
   | some v=>ax (aE prog w) A (cT target it v) (λ_ s₂=>ax (aE prog w) A (ip target env v) (λ_ s₃ =>
     ax (aE prog w) A (AN ifs true λc r=>if r=true then do let ok <- isTrue c env (eval c env);pure (c4 ok) else pure (c4 r)) (λok s₄ =>
      if ok=true then ax (aE prog w) A (eval elt env) (λx s₅ =>
       ax (aE prog w) A (call (.builtin "list.append") [acc,x]) (λ_ s₆=>∃m,m<n/\I m s₆) (λ_ _=>False) s₅) (λ_ _=>False) s₄
      else ∃m,m<n/\I m s₄) (λ_ _=>False) s₃) (λ_ _=>False) s₂) (λ_ _=>False) s₁) (λ_ _=>False) s)
  (n:Nat) (h:I n s) :
  cU (aE prog w) A (.compLoop (.ListComp elt [⟨target,iter,ifs,0⟩] scope pos) 0 it acc env) R s:=by
 refine pK rfl I (λn s hI=>?_) n h
 show ax _ A ((pL (.ListComp elt [⟨target,iter,ifs,0⟩] scope pos) 0 it acc env).onRaise (λx=>do iY x env;mI x)) _ _ s
 refine sf ?_
 rw [compTurn_list]
 refine aa (cY (aa (aZ (turn n s hI) (λr s₁ h₁=>?_) λ_ _ h'=>h'.elim)))
 cases r with
 | none=>exact wpAny_pure h₁
 | some v =>
  refine aa (aZ h₁ (λ_ s₂ h₂=>?_) λ_ _ h'=>h'.elim)
  refine aa (aZ h₂ (λ_ s₃ h₃=>aa (aZ h₃ (λok s₄ h₄=>?_) λ_ _ h'=>h'.elim)) λ_ _ h'=>h'.elim)
  cases ok with
  | false=>exact wpAny_pure ⟨rfl,h₄⟩
  | true =>
   exact aa (aa (aZ h₄ (λx s₅ h₅=>aa (aZ h₅ (λ_ s₆ h₆=>wpAny_pure (wpAny_pure ⟨rfl,h₆⟩)) λ_ _ h'=>h'.elim)) λ_ _ h'=>h'.elim))
end
section
variable {X:Cx}{pos:Pos}
noncomputable def Um (own:Nat) (caps:List Nat) (wi:TI) (g:TG) (ti:TT) (te:TE):TE:=λσ H Q=>wi σ H λJ H1=>∀acc,H1 acc=none ->
 ∃W:Nat->Nat->St->Hp->Prop,(∃m,W 0 m (yU own caps σ) (upd H1 acc (.lst [])))/\∀i m σ' H',W i m σ' H' ->
  (J.stop i H'/\Q (.ref acc) H') \/
  (J.go i H'/\∃NX:St->Hp->Prop,(∀σ2 H2,NX σ2 H2->∃m',m'<m/\W (i+1) m' σ2 H2) /\
   ∀x H2,J.yld i H' x H2->g x σ' H2 λσ3 H3=>ti σ3 H3 λok H4=>if ok=true then te σ3 H4 λv H5=>∃ys,H5 acc=some (.lst ys)/\ys.length<sizeLine/\NX σ3 (upd H5 acc (.lst (ys++[v]))) else NX σ3 H4)
theorem U7 {own:Nat}{cl:List (Str×Addr)}{C:Addr}{fp:List Addr}
  (S:CompSc osc ON scope own N caps) (hsc:X.env.scope=osc) (hcl:∀x,cl.lookup x=if (x,bc)∈scope.names then X.env.cells.lookup x else none)
  (I:Inv X pins σ H s) (hC:s.heap.objs.size<=C) (hf:∀b∈fp,yF X pins H b) (hfs:∀b∈fp,b<s.heap.objs.size):(X.block scope cl C N s H fp).Ok:=by
 have fromX:∀x c,cl.lookup x=some c->X.env.cells.lookup x=some c/\(x,bc)∈scope.names:=λx c e=>by
  rw [hcl x] at e
  by_cases hm:(x,bc)∈scope.names
  ·rw [if_pos hm] at e;exact ⟨e,hm⟩
  ·rw [if_neg hm] at e;cases e
 refine ⟨I.ok.mod,S.kind,I.ok.glob,I.ok.blt,hC,λx y c h1 h2=>I.ok.inj x y c (fromX x c h1).1 (fromX y c h2).1,λx hx=>?_,λx c h1 h2=>?_,I.ok.hd,I.ok.frames,.inl rfl,λb hb=>?_,I.bs,aH I.ok.bsz I.sz,λb o e hb=>?_,λb hb hb2=>?_,I.stack,I.stkFree⟩
 ·-- has
  have key:∀k,(k=iB\/k=bc)->(tY scope X.env).names.lookup x=some k->∃c,cl.lookup x=some c:=λk hk e=>by
   obtain ⟨k',e',d⟩:=yv (env:=X.env) e
   have hmem:=df e'
   have hfree:k' = .free:=by
    rcases d with d | d
    ·subst d
     rcases hk with z | z
     ·exact absurd z (S.nocell _ hmem)
     ·exact z
    ·exact d.1
   subst hfree
   obtain ⟨_,hk2⟩:=S.fre _ hmem rfl
   obtain ⟨c,hc⟩:=I.ok.has x (by unfold sW;rw [hsc];exact hk2)
   exact ⟨c,by rw [hcl x,if_pos hmem];exact hc⟩
  rcases hx with z | z
  ·exact key _ (.inl rfl) z
  ·exact key _ (.inr rfl) z
 ·-- cab
  have h1':scope.names.lookup x=some .local:=of_decide_eq_true h1
  have hm:=(fromX x c h2).2
  have:=(S.fre _ hm rfl).1
  rw [h1'] at this
  cases this
 ·refine ⟨aC (aO (hfs b hb) hC),λx c e=>(hf b hb).2.2.2.2.1 x c (fromX x c e).1⟩
 ·rcases (hf b hb).2.2.2.1 with z | z
  ·exact I.ok.noex b o e z
  ·exact absurd (aO (aw e) (aH I.ok.bsz z)) (cK _)
 ·rcases List.mem_cons.mp (I.stkSub b hb2) with z | z
  ·exact (hf b hb).2.1 z
  ·exact (hf b hb).2.2.1 z
theorem yX {N:List Str}{scope:Scope}{own:Nat}{caps:List Nat}{cl:List (Str×Addr)}{C D:Addr}{σ:St}{H:Hp}{s:Shared}{h1:Heap}{fp:List Addr}
  (S:CompSc osc ON scope own N caps) (hsc:X.env.scope=osc) (hN:X.N=ON) (hcl:∀x,cl.lookup x=if (x,bc)∈scope.names then X.env.cells.lookup x else none)
  (I:Inv X pins σ H s) (hf:∀b∈fp,yF X pins H b) (hfs:∀b∈fp,b<s.heap.objs.size) (hD:D=s.heap.objs.size) (hC:C=s.heap.objs.size+1)
  (k:∀b o,s.heap.get? b=some o->h1.get? b=some o) (eD:h1.get? D=some { cls:=.type "list",data:=.seq #[] }) (hn:h1.Ns C λ_=>none) (t':Nat) :
  Inv (X.block scope cl C N s H fp) [] (yU own caps σ) (upd H D (.lst [])) { s with heap:=h1,toks:=t' }:=by
 subst hD
 subst hC
 have hCs:s.heap.objs.size<=s.heap.objs.size+1:=fL _
 have ok:=U7 (C:=s.heap.objs.size+1) S hsc hcl I hCs hf hfs
 have fromX:∀x c,cl.lookup x=some c->X.env.cells.lookup x=some c/\(x,bc)∈scope.names:=λx c e=>by
  rw [hcl x] at e
  by_cases hm:(x,bc)∈scope.names
  ·rw [if_pos hm] at e;exact ⟨e,hm⟩
  ·rw [if_neg hm] at e;cases e
 have fr:∀a,s.heap.objs.size<=a->H a=none:=λa ha=>I.hok.fresh ha
 have newD:qo X.prog X.w (upd H s.heap.objs.size (.lst [])) h1 s.heap.objs.size (.lst []):=⟨aJ _,[],0,.nil,eD⟩
 have cellK:∀x c,X.env.cells.lookup x=some c->∀v,s.heap.IsCell c v->h1.IsCell c v:=λx c _ v ⟨o,ho,hd⟩=>⟨o,k c o ho,hd⟩
 refine ⟨ok,rfl,I.bare,Un.laid k (ar _) (fr _ (ar _)),⟨_,hn,λi x v e1 e2 e3=>?_⟩,λx c e=>?_,?_,λx c e=>?_,λp hp=>absurd (show p∈([]:List (Addr×Obj)) from hp) (by simp),I.hok.laid k (ar _) newD,?_⟩
 ·-- the captured names
  have e1':N[i]? = some x:=e1
  have hi:own<=i:=by
   by_cases hi:own<=i
   ·exact hi
   ·unfold yU at e2
    rw [cV (by simp;omega),me] at e2
    split at e2 <;> cases e2
  obtain ⟨j',rfl⟩:∃j',i=own+j':=⟨i-own,∅⟩
  have e2':(caps.map λj=>(σ[j]?).getD none)[j']? = some (some v):=by
   unfold yU at e2
   rw [cO (by simp)] at e2
   simpa using e2
  rw [aA] at e2'
  cases hj:caps[j']? with
  | none=>rw [hj] at e2';cases e2'
  | some j =>
   rw [hj] at e2'
   have e3':(σ[j]?).getD none=some v:=aW e2'
   have e4:σ[j]? = some (some v):=by
    cases q:σ[j]? with
    | none=>rw [q] at e3';cases e3'
    | some z=>rw [q] at e3';exact congrArg some e3'
   have hz:(x,j)∈(N.drop own).zip caps:=by
    refine az (i:=j') ?_
    rw [List.getElem?_zip_eq_some]
    exact ⟨by rw [List.getElem?_drop];exact e1',hj⟩
   obtain ⟨c1,c2⟩:=S.cap _ hz
   obtain ⟨_,hk⟩:=S.fre _ c2 rfl
   have hkX:X.env.kindOf x=some .cell\/X.env.kindOf x=some .free:=by unfold sW;rw [hsc];exact hk
   obtain ⟨m,hm,hl⟩:=I.loc
   obtain ⟨u,ru,l⟩:=hl j x v (by rw [hN];exact c1) e4 (by
    rcases hkX with z | z
    ·exact .inr (.inl z)
    ·exact .inr (.inr z))
   refine ⟨u,ru,?_⟩
   rcases l with ⟨l1,_⟩ | ⟨_,c,lc,lv⟩
   ·rcases hkX with z | z
    ·rw [z] at l1;cases l1
    ·rw [z] at l1;cases l1
   ·refine .inr ⟨?_,c,by show cl.lookup x=some c;rw [hcl x,if_pos c2];exact lc,cellK x c lc _ lv⟩
    rcases e3 with z | z
    ·obtain ⟨k',e',d⟩:=yv (env:=X.env) z
     have:=(S.fre _ c2 rfl).1
     rw [e'] at this
     cases this
     rcases d with d | d
     ·cases d
     ·cases d.2
    ·exact z
 ·obtain ⟨v,z⟩:=I.cell x c (fromX x c e).1
  exact ⟨v,cellK x c (fromX x c e).1 v z⟩
 ·show upd H s.heap.objs.size (.lst []) (s.heap.objs.size+1)=none
  rw [j7 (cN (iq _))]
  exact fr _ hCs
 ·have e':=(fromX x c e).1
  obtain ⟨v,z⟩:=I.cell x c e'
  rw [j7 (aC z.lt)]
  exact I.freeC x c e'
 ·unfold yU
  show _=N.length
  rw [aq,bX,ah,S.len]
structure BlockAt (X:Cx) (pins:List (Addr×Obj)) (H:Hp) (C:Addr):Prop where
 free:H C=none
 loc:C≠X.env.locals
 new:X.s₀.heap.objs.size<=C
 cell:∀x c,X.env.cells.lookup x=some c->c≠C
 pin:∀p∈X.pn++pins,p.1≠C
theorem BlockAt.gone (B:BlockAt X pins H C) (I:Inv X pins σ H s) (hs:ee C s.heap h'):Inv X pins σ H { s with heap:=h' } :=
 I.turned (t':=s.toks) (λb o hb e=>(hs.2 b hb).trans e) B.free B.loc (.inr B.new) B.cell B.pin
theorem Xl {scope:Scope}{own:Nat}{cl:List (Str×Addr)}{tg elt iter:Expr}{ti:TT}{te:TE}{H:Hp}{s:Shared}{fp:List Addr}
    {Q:VK} {RR:aj->Addr->oK->Shared->Prop} 
  (hc:X.calm=true) (S:CompSc osc ON scope own N caps) (hsc:X.env.scope=osc) (hN:X.N=ON) (hcl:∀x,cl.lookup x=if (x,bc)∈scope.names then X.env.cells.lookup x else none)
  (hg:∀cl C s H ex,PG (X.block scope cl C N s H ex) tg g) (hif:∀cl C s H ex,kB (X.block scope cl C N s H ex) ifs ti) (he:∀cl C s H ex,PE (X.block scope cl C N s H ex) elt te)
  (I:Inv X pins σ H s) (T:Turn X.prog X.w X.K tg J fp it tn) (st:tn 0 s.heap) (hf:∀b∈fp,yF X pins H b)
  (hw:∀acc,H acc=none->∃W:Nat->Nat->St->Hp->Prop,(∃m,W 0 m (yU own caps σ) (upd H acc (.lst [])))/\∀i m σ' H',W i m σ' H' ->
   (J.stop i H'/\Q (.ref acc) H')\/(J.go i H'/\∃NX:St->Hp->Prop,(∀σ2 H2,NX σ2 H2->∃m',m'<m/\W (i+1) m' σ2 H2) /\
    ∀x H2,J.yld i H' x H2->g x σ' H2 λσ3 H3=>ti σ3 H3 λok H4=>if ok=true then te σ3 H4 λv H5=>∃ys,H5 acc=some (.lst ys)/\ys.length<sizeLine/\NX σ3 (upd H5 acc (.lst (ys++[v]))) else NX σ3 H4))
  (fin:∀(D C:Addr) (H':Hp) (s':Shared),Inv X pins σ H' s'->BlockAt X pins H' C->(∃m,s'.heap.Ns C m)->Q (.ref D) H'->RR (.ref D) C (.ok .next) s') :
  ax (aE X.prog X.w) X.A (pM []) (λacc s₃=>ax (aE X.prog X.w) X.A (nB scope X.env.globals cl [] X.env.qual none .none (some X.env)) (λcenv s₄ =>
   cU (aE X.prog X.w) X.A (.compStart (.ListComp elt [⟨tg,iter,ifs,0⟩] scope pos) 0 (.ref it) acc { cenv with scope:=tY scope X.env }) (RR acc cenv.locals) s₄) E s₃) E s:=by
 have hfs:∀b∈fp,b<s.heap.objs.size:=λb hb=>by
  obtain ⟨o,e,_⟩:=T.obj _ _ st b hb
  exact aw e
 refine bC (iF S.nocell (by intro y hy;simp at hy) (λh₁ hns₁ hsb₁=>?_) S.kind)
 dsimp only at hns₁ hsb₁ ⊢
 generalize hH2:s.heap.push { cls:=.type "list",dict:=none,data:=.seq ([]:List aj).toArray }=H2 at hns₁ hsb₁ ⊢
 have hCsz:H2.objs.size=s.heap.objs.size+1:=by rw [<- hH2,cB]
 have old:∀b o,s.heap.get? b=some o->h₁.get? b=some o:=λb o e=>hsb₁.extBut b o (aC (by rw [hCsz];exact cg (aw e))) (ai _ (hH2 ▸ ai _ e))
 have eD:h₁.get? s.heap.objs.size=some { cls:=.type "list",data:=.seq #[] }:=hsb₁.extBut _ _ (aC ∅) (ai _ (hH2 ▸ ay _ rfl))
 have hDn:H s.heap.objs.size=none:=I.hok.fresh (ar _)
 obtain ⟨W,⟨m0,w0⟩,turn⟩:=hw s.heap.objs.size hDn
 have hns:h₁.Ns H2.objs.size λ_=>none:=hns₁
 have I1:Inv (X.block scope cl H2.objs.size N s H fp) [] (yU own caps σ) (upd H s.heap.objs.size (.lst [])) { s with heap:=h₁,toks:=s.toks+([]:List (Str×aj)).length } :=
  yX S hsc hN hcl I hf hfs rfl hCsz old eD hns _
 have st1:tn 0 h₁:=T.keep 0 _ _ st λb _ o e=>old b o e
 have fpB:∀{H':Hp},(∀b∈fp,H' b=none)->∀b∈fp,yF (X.block scope cl H2.objs.size N s H fp) [] H' b:=λ{H'} hn b hb=>by
  have ok:=I1.ok
  exact ⟨hn b hb,(ok.exf b hb).1,ok.exfs b hb,.inl hb,(ok.exf b hb).2,λp hp=>absurd (show p∈([]:List (Addr×Obj)) from hp) (by simp)⟩
 have back:∀{σ':St} {H':Hp} {s':Shared},Inv (X.block scope cl H2.objs.size N s H fp) [] σ' H' s'->Q (.ref s.heap.objs.size) H'->RR (.ref s.heap.objs.size) H2.objs.size (.ok .next) s':=λ{σ' H' s'} J1 q=>by
  have J2:Inv X pins σ H' s':=I.call' (ch:=fp) J1.os J1.base J1.hok J1.bare λb hb=>⟨(hf b hb).2.2.2.1,(hf b hb).2.1,(hf b hb).2.2.2.2.1,(hf b hb).2.2.2.2.2⟩
  obtain ⟨m,hm,_⟩:=J1.loc
  refine fin _ _ H' s' J2 ⟨J1.free,cN (aO I.lt ∅),aH I.sz ∅,λx c e z=>?_,λp hp z=>?_⟩ ⟨m,hm⟩ q
  ·obtain ⟨v,y⟩:=I.cell x c e
   have h1:H2.objs.size<s.heap.objs.size:=z ▸ y.lt
   exact absurd h1 ∅
  ·have h1:H2.objs.size<s.heap.objs.size:=z ▸ aw (I.pin p hp).1
   exact absurd h1 ∅
 have loop:∀s₃:Shared,s₃={ s with heap:=h₁,toks:=s.toks+([]:List (Str×aj)).length } ->
   cU (aE X.prog X.w) X.A (.compLoop (.ListComp elt [⟨tg,iter,ifs,0⟩] scope pos) 0 (.ref it) (.ref s.heap.objs.size) (pJ scope cl H2.objs.size X.env)) (RR (.ref s.heap.objs.size) H2.objs.size) s₃:=by
  rintro s₃ rfl
  refine wK (λn s'=>∃i σ' H',Inv (X.block scope cl H2.objs.size N s H fp) [] σ' H' s'/\tn i s'.heap/\(∀b∈fp,H' b=none)/\W i n σ' H') ?_ m0
   ⟨0,_,_,I1,st1,λb hb=>by rw [j7 (aC (hfs b hb))];exact (hf b hb).1,w0⟩
  rintro n s3 ⟨i,σ3,H3,I3,st3,fr3,w3⟩
  rcases turn i n σ3 H3 w3 with ⟨stop,qn⟩ | ⟨go,NX,hNX,step⟩
  ·refine thn (T.done (X.block scope cl H2.objs.size N s H fp) rfl rfl rfl hc i [] s3 σ3 H3 _ I3 (fpB fr3) st3 stop) λr s4 ⟨hr,I4⟩=>?_
   subst hr
   exact back I4 qn
  ·refine thn (T.item (X.block scope cl H2.objs.size N s H fp) rfl rfl rfl hc i [] s3 σ3 H3 _ I3 (fpB fr3) st3 go) λr s4 ⟨u,hr,h4⟩=>?_
   subst hr
   refine thn h4 λ_ s5 ⟨x,H5,I5,r5,y5,st5,fr5⟩=>?_
   have I5':=I5.pinned (fpB fr5) (T.obj _ _ st5)
   refine thn (hg cl H2.objs.size s H fp _ s5 σ3 H5 x u _ I5' r5 (step x H5 y5)) λ_ s6 ⟨σ6,H6,I6,q6⟩=>?_
   refine thn (hif cl H2.objs.size s H fp _ s6 σ6 H6 _ I6 q6) λok s7 ⟨H7,I7,q7⟩=>?_
   have again:∀{s8:Shared} {σ8:St} {H8:Hp},Inv (X.block scope cl H2.objs.size N s H fp) ([]++zn fp s5.heap) σ8 H8 s8->NX σ8 H8->∃m,m<n/\∃i σ' H',Inv (X.block scope cl H2.objs.size N s H fp) [] σ' H' s8/\tn i s8.heap/\(∀b∈fp,H' b=none)/\W i m σ' H':=λ{s8 σ8 H8} I8 n8=>by
    obtain ⟨m',hm,w8⟩:=hNX σ8 H8 n8
    refine ⟨m',hm,i+1,σ8,H8,I8.unpinned,T.keep _ _ _ st5 λb hb o e=>(I8.pin (b,o) (aD _ (aD _ (qE hb e)))).1,λb hb=>?_,w8⟩
    obtain ⟨o,e,d⟩:=T.obj _ _ st5 b hb
    exact (I8.pin (b,o) (aD _ (aD _ (qE hb e)))).2.1
   cases ok with
   | false =>
    rw [if_neg au] at q7 ⊢
    exact again I7 q7
   | true =>
    rw [if_pos rfl] at q7 ⊢
    refine thn (he cl H2.objs.size s H fp _ s7 σ6 H7 _ I7 q7) λv s8 ⟨y,H8,I8,r8,ys,e8,z8,q8⟩=>?_
    refine thn (jX _ s8 σ6 H8 (.ref s.heap.objs.size) [y] _ [v] (λ_ H9=>NX σ6 H9) I8 rfl (.cons r8 .nil) ⟨_,ys,y,rfl,rfl,e8,z8,q8⟩) λ_ s9 ⟨_,H9,I9,_,q9⟩=>?_
    exact again I9 q9
 exact fZ (loop _ rfl) (T.self _ 0 _ _ _ st1 (loop _ rfl))
theorem Qu {scope:Scope}{own:Nat}(S:CompSc osc ON scope own N caps) (hsc:X.env.scope=osc) (I:Inv X pins σ H s) :
  ∀x∈scope.names,x.2 = .free->∃c,X.env.cells.lookup x.1=some c:=λx hx hk=>I.ok.has x.1 (by unfold sW;rw [hsc];exact (S.fre x hx hk).2)
theorem qa {own:Nat}(S:CompSc osc ON scope own N caps)
  (hc:X.calm=true) (hsc:X.env.scope=osc) (hN:X.N=ON) (hi:PI X tg iter wi)
  (hg:∀cl C s H ex,PG (X.block scope cl C N s H ex) tg g) (hif:∀cl C s H ex,kB (X.block scope cl C N s H ex) ifs ti) (he:∀cl C s H ex,PE (X.block scope cl C N s H ex) elt te)
  (hs:∀x,cz iter X.env x=pure x:=by intro _;rfl):PE X (.ListComp elt [⟨tg,iter,ifs,0⟩] scope pos) (Um own caps wi g ti te):=by
 intro pins s σ H Q I h
 obtain ⟨cl,hclos,hcl⟩:=yP (Qu S hsc I)
 rw [oC]
 refine dH (use:=none) rfl hs hclos S.kind S.loc (thn (hi pins s σ H _ I h) λv s1 h1=>thn h1 λitv s2 h2=>?_)
 obtain ⟨it,fp,tn,J,H2,e,I2,T,st2,f2,hw⟩:=h2
 subst e
 refine Xl (RR:=λacc C=>sX (aE X.prog X.w) X.A X.xe none (EP X pins σ Q) acc C) hc S hsc hN hcl hg hif he I2 T st2 f2 hw λD C H' s' J1 B ⟨m,hm⟩ q=>?_
 exact ⟨m,hm,λh' hs'=>⟨.ref D,H',B.gone J1 hs',rfl,q⟩⟩
theorem Yh {own:Nat}{j:Nat}{spos:Pos}(S:CompSc osc ON scope own N caps)
  (hnd:X.N.Nodup) (hj:X.N[j]? = some y) (hy:Loc X.env.scope y)
  (hc:X.calm=true) (hsc:X.env.scope=osc) (hN:X.N=ON) (hi:PI X tg iter wi)
  (hg:∀cl C s H ex,PG (X.block scope cl C N s H ex) tg g) (hif:∀cl C s H ex,kB (X.block scope cl C N s H ex) ifs ti) (he:∀cl C s H ex,PE (X.block scope cl C N s H ex) elt te)
  (hsw:iX (.ListComp elt [⟨tg,iter,ifs,0⟩] scope pos) (some (.Name y py)) spos.line X.env=pure true:=by rfl)
  (hf:X.fn y=true\/X.env.scope.names.lookup y=some .local:=by first | exact .inl rfl | exact .inr rfl | assumption)
  (hs:∀x,cz iter X.env x=pure x:=by intro _;rfl):PS X (.Assign [.Name y py] (.ListComp elt [⟨tg,iter,ifs,0⟩] scope pos) spos) (WX (Um own caps wi g ti te) (uu j)):=by
 intro pins s σ H D0 I h
 obtain ⟨cl,hclos,hcl⟩:=yP (Qu S hsc I)
 rw [exec_Assign_Name_used _ _ _ _ hsw]
 refine aa (cY (aa ?_))
 show ax _ X.A (do let _ <- comprehension (.ListComp elt [⟨tg,iter,ifs,0⟩] scope pos) scope X.env _ (pM []) false (eval iter X.env) (some (ip (.Name y py) X.env))) _ _ s
 refine aa (aZ (dH (use:=some (ip (.Name y py) X.env)) (Q:=λ_ s'=>SP X pins D0 .next s') rfl hs hclos S.kind S.loc
  (thn (hi pins s σ H _ I h) λv s1 h1=>thn h1 λitv s2 h2=>?_)) (λ_ s' hq=>wpAny_pure (wpAny_pure hq)) λ_ _ e=>e)
 obtain ⟨it,fp,tn,J,H2,e,I2,T,st2,f2,hw⟩:=h2
 subst e
 refine Xl (Q:=λv H'=>D0.nx (σ.set j (some v)) H') (RR:=λacc C=>sX (aE X.prog X.w) X.A X.xe (some (ip (.Name y py) X.env)) (λ_ s'=>SP X pins D0 .next s') acc C) hc S hsc hN hcl hg hif he I2 T st2 f2 hw λD C H' s' J1 B ⟨m,hm⟩ q=>?_
 show ax _ X.A (ip (.Name y py) X.env (.ref D)) _ _ s'
 refine pf (JP (v:=V.ref D) J1 hnd hj hy rfl (λs2 J2 ⟨a,hsame,ha⟩=>?_) hf)
 have hCa:C≠a:=by
  rcases ha with z | z
  ·rw [z];exact B.loc
  ·exact λz2=>B.cell y a z z2.symm
 exact ⟨m,hm.sameBut hsame hCa,λh' hs'=>⟨_,H',B.gone J2 hs',q⟩⟩
end
theorem qz {K:ag}{xs:List V}{g:TG}{ti:TT}{te:TE}{R:Hp->Prop}{σ:St}{H:Hp}(Pv:Nat->St->Hp->Prop) (h0:Pv 0 σ H) (hl:∀i σ H,i<=xs.length->Pv i σ H->SqL K H a xs)
  (hs:∀i x σ H,xs[i]? = some x->Pv i σ H->g x σ H λσ3 H3=>ti σ3 H3 λok H4=>if ok=true then te σ3 H4 λv H5=>∃ys,H5 acc=some (.lst ys)/\ys.length<sizeLine/\Pv (i+1) σ3 (upd H5 acc (.lst (ys++[v]))) else Pv (i+1) σ3 H4)
  (hd:∀σ H,Pv xs.length σ H->R H) :
  ∃W:Nat->Nat->St->Hp->Prop,(∃m,W 0 m σ H)/\∀i m σ' H',W i m σ' H' ->
   ((Itl K a).stop i H'/\R H')\/((Itl K a).go i H'/\∃NX:St->Hp->Prop,(∀σ2 H2,NX σ2 H2->∃m',m'<m/\W (i+1) m' σ2 H2) /\
    ∀x H2,(Itl K a).yld i H' x H2->g x σ' H2 λσ3 H3=>ti σ3 H3 λok H4=>if ok=true then te σ3 H4 λv H5=>∃ys,H5 acc=some (.lst ys)/\ys.length<sizeLine/\NX σ3 (upd H5 acc (.lst (ys++[v]))) else NX σ3 H4):=by
 refine ⟨λi m σ H=>m=xs.length-i/\i<=xs.length/\Pv i σ H,⟨xs.length,by simp,aJ _,h0⟩,?_⟩
 rintro i m σ H ⟨rfl,hi,p⟩
 have q:=hl i σ H hi p
 by_cases hlt:i<xs.length
 ·refine .inr ⟨⟨xs,xs[i],q,by simp [hlt]⟩,Pv (i+1),λσ' H' p'=>⟨xs.length-(i+1),∅,rfl,hlt,p'⟩,λx H' y=>?_⟩
  obtain ⟨e,y⟩:=y
  subst e
  exact hs i x σ _ (y xs q) p
 ·have e:i=xs.length:=∅
  subst e
  exact .inl ⟨⟨xs,q,ar _⟩,hd σ H p⟩
theorem QS {K:ag}{xs:List V}{g:TG}{ti:TT}{te:TE}{R:Hp->Prop}{σ:St}{H:Hp}(Pv:Nat->St->Hp->Prop) (h0:Pv 0 σ H) (hl:∀i σ H,i<=xs.length->Pv i σ H->SqT K H a xs)
  (hs:∀i x σ H,xs[i]? = some x->Pv i σ H->g x σ H λσ3 H3=>ti σ3 H3 λok H4=>if ok=true then te σ3 H4 λv H5=>∃ys,H5 acc=some (.lst ys)/\ys.length<sizeLine/\Pv (i+1) σ3 (upd H5 acc (.lst (ys++[v]))) else Pv (i+1) σ3 H4)
  (hd:∀σ H,Pv xs.length σ H->R H) :
  ∃W:Nat->Nat->St->Hp->Prop,(∃m,W 0 m σ H)/\∀i m σ' H',W i m σ' H' ->
   ((Itt K a).stop i H'/\R H')\/((Itt K a).go i H'/\∃NX:St->Hp->Prop,(∀σ2 H2,NX σ2 H2->∃m',m'<m/\W (i+1) m' σ2 H2) /\
    ∀x H2,(Itt K a).yld i H' x H2->g x σ' H2 λσ3 H3=>ti σ3 H3 λok H4=>if ok=true then te σ3 H4 λv H5=>∃ys,H5 acc=some (.lst ys)/\ys.length<sizeLine/\NX σ3 (upd H5 acc (.lst (ys++[v]))) else NX σ3 H4):=by
 refine ⟨λi m σ H=>m=xs.length-i/\i<=xs.length/\Pv i σ H,⟨xs.length,by simp,aJ _,h0⟩,?_⟩
 rintro i m σ H ⟨rfl,hi,p⟩
 have q:=hl i σ H hi p
 by_cases hlt:i<xs.length
 ·refine .inr ⟨⟨xs,xs[i],q,by simp [hlt]⟩,Pv (i+1),λσ' H' p'=>⟨xs.length-(i+1),∅,rfl,hlt,p'⟩,λx H' y=>?_⟩
  obtain ⟨e,y⟩:=y
  subst e
  exact hs i x σ _ (y xs q) p
 ·have e:i=xs.length:=∅
  subst e
  exact .inl ⟨⟨xs,q,ar _⟩,hd σ H p⟩
theorem qX {lo:Int}{n:Nat}{g:TG}{ti:TT}{te:TE}{R:Hp->Prop}{σ:St}{H:Hp}(Pv:Nat->St->Hp->Prop) (h0:Pv 0 σ H)
  (hs:∀i σ H,i<n->Pv i σ H->g (.int (lo+i)) σ H λσ3 H3=>ti σ3 H3 λok H4=>if ok=true then te σ3 H4 λv H5=>∃ys,H5 acc=some (.lst ys)/\ys.length<sizeLine/\Pv (i+1) σ3 (upd H5 acc (.lst (ys++[v]))) else Pv (i+1) σ3 H4)
  (hd:∀σ H,Pv n σ H->R H) :
  ∃W:Nat->Nat->St->Hp->Prop,(∃m,W 0 m σ H)/\∀i m σ' H',W i m σ' H' ->
   ((Itr lo n).stop i H'/\R H')\/((Itr lo n).go i H'/\∃NX:St->Hp->Prop,(∀σ2 H2,NX σ2 H2->∃m',m'<m/\W (i+1) m' σ2 H2) /\
    ∀x H2,(Itr lo n).yld i H' x H2->g x σ' H2 λσ3 H3=>ti σ3 H3 λok H4=>if ok=true then te σ3 H4 λv H5=>∃ys,H5 acc=some (.lst ys)/\ys.length<sizeLine/\NX σ3 (upd H5 acc (.lst (ys++[v]))) else NX σ3 H4):=by
 refine ⟨λi m σ H=>m=n-i/\i<=n/\Pv i σ H,⟨n,by simp,aJ _,h0⟩,?_⟩
 rintro i m σ H ⟨rfl,hi,p⟩
 by_cases hlt:i<n
 ·refine .inr ⟨hlt,Pv (i+1),λσ' H' p'=>⟨n-(i+1),∅,rfl,hlt,p'⟩,λx H' y=>?_⟩
  obtain ⟨e,y⟩:=y
  subst e y
  exact hs i σ _ hlt p
 ·have e:i=n:=∅
  subst e
  exact .inl ⟨ar _,hd σ H p⟩
end L2
end
section
namespace L2
structure Cal (P:Program) (w:bx) (K:ag) (mg:Str->Option aj) (base:Heap) (k:Nat) (x:Str) (ps:List Str) (sp:Sp):Prop where
 ex:∃f fd,FnOk P w K mg base CX0 k f fd ps sp/\yr K fd ps []/\mg x=some (.ref f)/\bR K (.ref f)=true
theorem je {X:Cx}{k:Nat}{e:Expr}{es:List Expr}{t:TA}{pos:Pos}(c:Cal X.prog X.w X.K X.mg X.base k x ps sp) (hr:Room k X.A) (hg:Gl X x) (ha:PA X (e::es) t)
  (hdb:(x == ("__debug__" : Str))=false:=by decide) (he:aP (e::es) X.env=(false,eval e X.env)::aP es X.env:=by rfl) (hpl:(cM pos (aP es X.env)).any (·.1)=false:=by rfl) :
  PE X (.Call (.Name x p) (e::es) [] pos) (GG sp [] E0 t):=by
 obtain ⟨f,fd,F,hb,hm,hk⟩:=c.ex
 exact WY F hr hg hm hk hb .nil Gw ha hdb he hpl
theorem Cal.mk' {w:bx}{K:ag}{mg:Str->Option aj}{base:Heap}{k:Nat}{x:Str}{ps:List Str}{st:Stmt}{f:Addr}{oc:aj}{od an:Option Addr}{osl:Array (Option aj)}{kV doc pm cdv ct:aj}
  (X:K.In h) (G:h.Ns mainGlobals mg) (a:aS K mainGlobals x=some (some (.ref f)))
  (l:K.lookup f=some ⟨oc,od,.func (bG x x (jV st) (jM st) (j8 st) .none kV doc pm an cdv ct),osl⟩) (c:cC K cdv x=true) (k':bR K (.ref f)=true)
  (hb:∀(kV doc pm:aj) (an:Option Addr) (cdv ct:aj) (us:List aj),us.length=ps.length->cH (bG x x (jV st) (jM st) (j8 st) .none kV doc pm an cdv ct) ⟨us,[]⟩=pure (ps.zip us))
  (ok:∀{f:Addr} {fd:FuncData},Fun K x x st f fd->FnOk P w K mg base CX0 k f fd ps sp):Cal P w K mg base k x ps sp:=by
 have F:=vf (st:=st) l c k'
 exact ⟨f,_,ok F,F.binds hb,bj X G a,k'⟩
section
variable {X:Cx}
theorem QW:xh X (.builtin "isinstance") (λxs H Q=>∃x n t b,xs=[x,.ty n]/\TyOf X.K H x t/\b8 X.K t (.type n)=some b/\Q (.bl b) H):=by
 intro pins s σ H xs us Q I r h
 obtain ⟨x,n,t,b,rfl,ty,e,q⟩:=h
 obtain ⟨u,w',rfl,r1,r2⟩:=Yb r
 cases (show w'=il n from r2)
 exact Vu I r1 ty e λtk=>⟨.bl b,H,I.tok tk,rfl,q⟩
noncomputable def Gz (i j:Int):Prop:=0<j/\j<2 ^ 200
theorem uK:OpR X (eS .FloorDiv) (rI Gz λi j=>.int (i / j)):=opI λi j _ _ _ _ _ hc q=>by
 have h1:(0:Int)<j:=hc.1
 have h2:j<2 ^ 200:=hc.2
 refine floordiv_int ∅ (by rw [Int.fdiv_eq_ediv_of_nonneg i ∅];exact q) (.inl (PyProof.noPylong_of_log2 ?_))
 have h3:j.natAbs<2 ^ 200:=∅
 have h4:j.natAbs≠0:=∅
 have:=(Nat.log2_lt h4).mpr h3
 omega
theorem VR (hc:X.calm=true):xh X (.builtin "all") (λxs H Q=>∃(p:Addr) (bs:List Bool),xs=[.ref p]/\SqL X.K H p (bs.map V.bl)/\Q (.bl (bs.all λb=>b)) H):=by
 intro pins s σ H xs us Q I r h
 obtain ⟨p,bs,rfl,hq,q⟩:=h
 obtain ⟨u,rfl,ru⟩:=vQ r
 cases ru
 obtain ⟨its,rv,pl,hz⟩:=I.list hq
 have hne:p≠s.heap.objs.size:=by
  obtain ⟨o,n,e,_⟩:=id pl
  exact aC (aw e)
 have hlen:its.length=bs.length:=by rw [<- rv.length,ah]
 have itsAt:∀i v,its[i]? = some v->∃b,bs[i]? = some b/\v=mn b:=λi v e=>by
  have hi:i<its.length:=(List.getElem?_eq_some_iff.mp e).1
  have hb:(bs.map V.bl)[i]? = some (V.bl (bs[i]'∅)):=by rw [aA,af ∅];rfl
  obtain ⟨u,h1,h2⟩:=rv.get hb
  rw [e] at h1
  cases h1
  exact ⟨bs[i]'∅,af ∅,h2⟩
 refine call_all_walk (dE pl.isList ?_)
 refine ⟨s.heap.objs.size,_,_,_,_,_,λi=>bs.getD i true,rfl,Walks.list (show (X.A.in1).handled=none from I.ok.hd hc) s.heap.objs.size p hne its.toArray,⟨⟨_,ay _ rfl,rfl,rfl⟩,pl.isList.at λo e=>ai _ e⟩,?_,?_⟩
 ·intro i v s' Q' E' hP hQ
  obtain ⟨b,hb,rfl⟩:=itsAt i v (by simpa using hP)
  have e:bs.getD i true=b:=by rw [ao,hb];rfl
  have hQ:Q' (bs.getD i true) s':=hQ
  rw [e] at hQ
  exact bQ hQ
 ·intro h' tk hk
  have e:((aI its.toArray.size).all λi=>bs.getD i true)=bs.all λb=>b:=by
   rw [av,hlen,eF,bP,bP]
   constructor
   ·intro z b hb
    obtain ⟨i,hi,rfl⟩:=List.mem_iff_getElem.mp hb
    have:=z i (List.mem_range.mpr hi)
    rw [ao,af hi] at this
    exact this
   ·intro z i hi
    have hi':=List.mem_range.mp hi
    rw [ao,af hi']
    exact z _ (c8 hi')
  rw [e]
  refine ⟨.bl _,H,I.kept (t':=tk) λb o eo=>hk b o (by
   intro z
   have:=List.mem_singleton.mp z
   subst this
   exact absurd (aw eo) (cK _)) (ai _ eo),rfl,q⟩
end
noncomputable def kitT (a b:String):Option Bool:=if (il a == il b)=true then some true else if PySem.W.kitMeta b=true then (fastBuiltinMro a).map (·.contains (.type b)) else none
theorem qm (K:ag) (a b:String):b8 K (.type a) (.type b)=kitT a b:=rfl
theorem wM (K:ag):b8 K (.type "int") (.type "bool")=some false:=(qm K _ _).trans (by decide +kernel)
theorem gZ (K:ag):b8 K (.type "int") (.type "int")=some true:=(qm K _ _).trans (by decide +kernel)
theorem uM (K:ag):b8 K (.type "bool") (.type "bool")=some true:=(qm K _ _).trans (by decide +kernel)
theorem QH (K:ag):b8 K (.type "list") (.type "bool")=some false:=(qm K _ _).trans (by decide +kernel)
theorem QL (K:ag):b8 K (.type "list") (.type "int")=some false:=(qm K _ _).trans (by decide +kernel)
theorem XO (K:ag):b8 K (.type "list") (.type "str")=some false:=(qm K _ _).trans (by decide +kernel)
theorem ut (K:ag):b8 K (.type "list") (.type "list")=some true:=(qm K _ _).trans (by decide +kernel)
theorem vT (K:ag):b8 K (.type "list") (.type "tuple")=some false:=(qm K _ _).trans (by decide +kernel)
theorem Je (K:ag):b8 K (.type "tuple") (.type "bool")=some false:=(qm K _ _).trans (by decide +kernel)
theorem QG (K:ag):b8 K (.type "tuple") (.type "int")=some false:=(qm K _ _).trans (by decide +kernel)
theorem Qh (K:ag):b8 K (.type "tuple") (.type "str")=some false:=(qm K _ _).trans (by decide +kernel)
theorem vO (K:ag):b8 K (.type "tuple") (.type "list")=some false:=(qm K _ _).trans (by decide +kernel)
theorem vy (K:ag):b8 K (.type "tuple") (.type "tuple")=some true:=(qm K _ _).trans (by decide +kernel)
noncomputable def Ext (b:Addr) (H H':Hp):Prop:=∀c o,H c=some o->c≠b->H' c=some o
theorem Ext.refl {b:Addr}:Ext b H H:=λ_ _ h _=>h
theorem Ext.trans {b:Addr}(x:Ext b H H1) (y:Ext b H1 H2):Ext b H H2:=λc o h n=>y c o (x c o h n) n
theorem Ext.of_same {b:Addr}(x:jj H H'):Ext b H H':=λc o h _=>x c o h
theorem Ext.put {b:Addr}:Ext b H (upd H b o):=λc _ h n=>by rw [j7 n];exact h
theorem jj.new {H:Hp}{p:Addr}(n:H p=none):jj H (upd H p o):=λc u h=>by rw [j7 (j1 h n)];exact h
theorem Ext.new {b:Addr}{H:Hp}{p:Addr}(n:H p=none):Ext b H (upd H p o):=Ext.of_same (jj.new n)
theorem Ext.free {b:Addr}(x:Ext b H H') {p:Addr}(h:H' p=none) (n:p≠b):H p=none:=by
 cases q:H p with
 | none=>rfl
 | some o=>rw [x p o q n] at h;cases h
end L2
end
section
namespace L2
section
variable {X:Cx}
theorem jd (K:ag) (h:X.K=K:=by rfl):IxR X (EI K):=by subst h;exact Gv
theorem xb (K:ag) (h:X.K=K:=by rfl):IxR X (GN K):=by subst h;exact ER
theorem jf (K:ag) (h:X.K=K:=by rfl):xh X (.builtin "len") (λxs H Q=>∃p ys,xs=[.ref p]/\(SqL K H p ys\/SqT K H p ys)/\Q (.int ys.length) H):=by subst h;exact QC
theorem Z6 (K:ag) (h:X.K=K:=by rfl):OpR X (ck .In) (rIn K false):=by subst h;exact Vh
theorem xS (K:ag) (h:X.K=K:=by rfl):OpR X (ck .NotIn) (rIn K true):=by subst h;exact Qo
theorem jW (K:ag) (h:X.K=K:=by rfl):xh X (.builtin "isinstance") (λxs H Q=>∃x n t b,xs=[x,.ty n]/\TyOf K H x t/\b8 K t (.type n)=some b/\Q (.bl b) H):=by subst h;exact QW
theorem yd (K:ag) (hc:X.calm=true) (h:X.K=K:=by rfl):xh X (.builtin "all") (λxs H Q=>∃(p:Addr) (bs:List Bool),xs=[.ref p]/\SqL K H p (bs.map V.bl)/\Q (.bl (bs.all λb=>b)) H):=by subst h;exact VR hc
theorem qc (K:ag) (hl:PE X l tl) (h:X.K=K:=by rfl):PI X tg l (Yg K tl):=by subst h;exact WH hl
theorem uR (K:ag) (hl:PE X l tl) (h:X.K=K:=by rfl):PI X tg l (Ak K tl):=by subst h;exact EF hl
theorem qj {k:Nat}{t:TGs}{n:Nat}{pos:Pos}(K:ag) (hc:X.calm=true) (h:PGs X es t)
  (hn:(d8 es X.env).length=n:=by rfl) (hst:(d8 es X.env).findIdx? (·.1)=none:=by rfl) (hK:X.K=K:=by rfl):PG X (.Tuple es k pos) (EO K n t):=by subst hK;exact Er hc h hn hst
theorem xP {T id:String}{e:Expr}{es:List Expr}{t:TA}{apos cpos:Pos}(K:ag) (pa:oP T) (slot:Slot T name id) (hty:oQ (.builtin id)=pure (.type "method_descriptor")) (hm:MtR X id r) (ho:PE X o to) (ha:PA X (e::es) t)
  (hbase:dG o name X.env (eval o X.env)=eval o X.env:=by rfl)
  (hfew:((cM cpos (aP (e::es) X.env)).all (λx=>!x.1) && (lh cpos (eU [] X.env)).all (λx=>x.1.isSome)
   && decide ((e::es).length+([]:List mr).length+(if ([]:List mr).isEmpty then 0 else 1)<30))=true:=by rfl)
  (hline:(apos.endLine == cpos.line)=true:=by rfl) (hs:aP (e::es) X.env=(false,eval e X.env)::aP es X.env:=by rfl) (hplain:(cM cpos (aP es X.env)).any (·.1)=false:=by rfl) (hK:X.K=K:=by rfl) :
  PE X (.Call (.Attribute o name apos) (e::es) [] cpos) (tBM K T r to t):=by subst hK;exact Ap pa slot hty hm ho ha hbase hfew hline hs hplain
end
noncomputable def New (H:Hp) (o:HO) (Q:VK):Prop:=∀p H',H p=none->H' p=some o->jj H H'->Q (.ref p) H'
theorem New.at (h:New H o Q):∀p,H p=none->Q (.ref p) (upd H p o):=λp n=>h p _ n j6 (jj.new n)
section
variable {X:Cx}{es:List Expr}{t:TA}{pos:Pos}
noncomputable def At (t:TA):TE:=λσ H Q=>t σ H λxs H1=>xs.length<=sizeLine/\New H1 (.tup xs) Q
noncomputable def AE (t:TA):TE:=λσ H Q=>t σ H λxs H1=>xs.length<=sizeLine/\New H1 (.lst xs) Q
theorem jI {x1}(h:PA X es t):PE X (.Tuple es x1 pos) (At t):=by
 intro pins s σ H Q I hq
 refine wpAny_Tuple_spliced (thn (h pos pins s σ H _ I hq) λus s1 ⟨xs,H1,I1,r,z,q⟩=>⟨by rw [<- r.length];exact z,?_⟩)
 have hf:H1 s1.heap.objs.size=none:=I1.hok.fresh (ar _)
 refine ⟨.ref s1.heap.objs.size,upd H1 s1.heap.objs.size (.tup xs),I1.laid (t':=s1.toks) (λb u e=>ai _ e) (ar _) ?_,rfl,q.at _ hf⟩
 exact ⟨z,us,r,⟨_,ay _ rfl,rfl,_,rfl⟩⟩
theorem jC (h:PA X es t):PE X (.List es pos) (AE t):=by
 intro pins s σ H Q I hq
 refine wpAny_List_spliced (thn (h pos pins s σ H _ I hq) λus s1 ⟨xs,H1,I1,r,z,q⟩=>⟨by rw [<- r.length];exact z,?_⟩)
 have hf:H1 s1.heap.objs.size=none:=I1.hok.fresh (ar _)
 refine ⟨.ref s1.heap.objs.size,upd H1 s1.heap.objs.size (.lst xs),I1.laid (t':=s1.toks) (λb u e=>ai _ e) (ar _) ?_,rfl,q.at _ hf⟩
 exact ⟨z,us,0,r,ay _ rfl⟩
theorem OpR.weak {r':R2}(h:OpR X f r) (w:∀x y H Q,r' x y H Q->r x y H Q):OpR X f r':=λpins s σ H x y v u Q I rx ry q=>h pins s σ H x y v u Q I rx ry (w _ _ _ _ q)
theorem xh.weak {r':List V->Hp->VK->Prop}(h:xh X f r) (w:∀x H Q,r' x H Q->r x H Q):xh X f r':=λpins s σ H xs us Q I rx q=>h pins s σ H xs us Q I rx (w _ _ _ q)
theorem SlR.weak {r':V->Option Int->Option Int->Hp->VK->Prop}(h:SlR X r) (w:∀x lo hi H Q,r' x lo hi H Q->r x lo hi H Q):SlR X r':=λpins s σ H x v vl vu lo hi sl Q I rx hs pl pu q=>h pins s σ H x v vl vu lo hi sl Q I rx hs pl pu (w _ _ _ _ _ q)
noncomputable def Av:R2:=λx y H Q=>∃l b xs zs,x = .ref l/\y = .ref b/\H l=some (.lst xs)/\H b=some (.lst zs)/\xs.length+zs.length<=sizeLine/\New H (.lst (xs++zs)) Q
theorem vz:OpR X (eS .Add) Av:=GQ.weak λ_ _ _ _ ⟨l,b,xs,zs,h1,h2,h3,h4,h5,q⟩=>⟨l,b,xs,zs,h1,h2,h3,h4,h5,q.at⟩
theorem qu (K:ag) (h:X.K=K:=by rfl):xh X (.type "list") (λxs H Q=>∃p ys,xs=[.ref p]/\(SqL K H p ys\/SqT K H p ys)/\New H (.lst ys) Q):=by
 subst h
 exact Q6.weak λ_ _ _ ⟨p,ys,h1,h2,q⟩=>⟨p,ys,h1,h2,q.at⟩
theorem ww (K:ag) (h:X.K=K:=by rfl):SlR X (λx lo hi H Q=>∃a xs,x = .ref a/\SqL K H a xs/\New H (.lst (wS xs lo hi)) Q):=by
 subst h
 exact Wn.weak λ_ _ _ _ _ ⟨a,xs,h1,h2,q⟩=>⟨a,xs,h1,h2,q.at⟩
end
theorem qr {A B:Prop} [Decidable p] (h1:p->A) (h2:¬p->B):if decide p=true then A else B:=by
 by_cases h:p
 ·rw [if_pos (decide_eq_true h)];exact h1 h
 ·rw [if_neg (by rw [decide_eq_false h];exact au)];exact h2 h
theorem zo {A B:Prop} [Decidable p] (h1:¬p->A) (h2:p->B):if (!decide p)=true then A else B:=by
 by_cases h:p
 ·rw [if_neg (by rw [decide_eq_true h];exact au)];exact h2 h
 ·rw [if_pos (by rw [decide_eq_false h];rfl)];exact h1 h
theorem qQ {α:Type}{xs:List α}{i:Int}{v:α}(h0:0<=i) (h:xs[i.toNat]? = some v):atI xs i=some v:=by
 obtain ⟨n,rfl⟩:=Int.eq_ofNat_of_zero_le h0
 exact zV (by simpa using h)
theorem yA {ns:List Int}{i:Int}(h0:0<=i) (h:i<ns.length):∃z,atI (ns.map V.int) i=some (.int z):=by
 refine ⟨ns[i.toNat]'∅,qQ h0 ?_⟩
 rw [aA,af ∅]
 rfl
theorem vw {ns:List Int}{i:Nat}(h:(ns.map V.int)[i]? = some y):∃z,y=V.int z:=by
 rw [aA] at h
 cases e:ns[i]? with
 | none=>rw [e] at h;cases h
 | some z=>rw [e] at h;exact ⟨z,(aW h).symm⟩
noncomputable def Yp:Sp:=λvs H Q _=>∃a b:Int,vs=[.int a,.int b]/\∀r:Int,Q (.int r) H
noncomputable def Ym:Sp:=λvs H Q _=>∃i:Int,vs=[.int i]/\Q (.bl true) H
structure Nb (mg:Str->Option aj):Prop where
 b_len:mg "len" = none
 b_range:mg "range" = none
 b_isinstance:mg "isinstance" = none
 b_int:mg "int" = none
 b_bool:mg "bool" = none
 b_str:mg "str" = none
 b_list:mg "list" = none
 b_tuple:mg "tuple" = none
 b_min:mg "min" = none
 b_max:mg "max" = none
 b_all:mg "all" = none
 b_zip:mg "zip" = none
end L2
end
section
namespace L2
mutual
inductive Rep (M:Addr->Prop) (K:ag) (H:Hp):V->PyData->Prop
 | non:Rep M K H .non .none
 | bl (b:Bool):Rep M K H (.bl b) (.bool b)
 | int (i:Int):Rep M K H (.int i) (.int i)
 | str (x:Str):Rep M K H (.str x) (.str x)
 | tup {p:Addr} {vs:List V} {ds:List PyData}:¬M p->SqT K H p vs->RepL M K H vs ds->Rep M K H (.ref p) (.tuple ds)
 | lst {p:Addr} {vs:List V} {ds:List PyData}:¬M p->SqL K H p vs->RepL M K H vs ds->Rep M K H (.ref p) (.list ds)
inductive RepL (M:Addr->Prop) (K:ag) (H:Hp):List V->List PyData->Prop
 | nil:RepL M K H [] []
 | cons {v:V} {vs:List V} {d:PyData} {ds:List PyData}:Rep M K H v d->RepL M K H vs ds->RepL M K H (v::vs) (d::ds)
end
noncomputable def Up (M:Addr->Prop) (H H':Hp):Prop:=∀c o,H c=some o->¬M c->H' c=some o
theorem Up.of_same (x:jj H H'):Up M H H':=λc o h _=>x c o h
theorem RepL.of_ints {K:ag}:∀(ns:List Int),RepL M K H (ns.map V.int) (ns.map cP)
 | []=>.nil
 | n::ns=>.cons (.int n) (RepL.of_ints ns)
theorem Rep.reads_all {X:Cx}(I:Inv X pins σ H s) (h:RepL M X.K H vs ds) :
  ∀{us:List aj},jE vs us->∃as,ReadsAll s.heap us ds as:=by
 refine RepL.rec (M:=M) (K:=X.K) (H:=H) (motive_1:=λv d _=>∀u,jF v u->∃as,Reads s.heap u d as) (motive_2:=λvs ds _=>∀{us:List aj},jE vs us->∃as,ReadsAll s.heap us ds as)
  ?_ ?_ ?_ ?_ ?_ ?_ ?_ ?_ h
 ·intro u r;cases r;exact ⟨_,Reads.none⟩
 ·intro b u r;cases r;exact ⟨_,Reads.bool b⟩
 ·intro i u r;obtain ⟨t,rfl⟩:=r;exact ⟨_,Reads.int i t⟩
 ·intro x u r;obtain ⟨t,rfl⟩:=r;exact ⟨_,Reads.str x t⟩
 ·intro p vs ds n hq _ ih u r
  cases r
  obtain ⟨its,rv,⟨o,e,c,k,d⟩,_⟩:=I.tuple hq
  obtain ⟨as,q⟩:=ih rv
  exact ⟨as,reads_tuple_at e c d (by simpa using q)⟩
 ·intro p vs ds n hq _ ih u r
  cases r
  obtain ⟨its,rv,⟨o,k,e,c,_,d⟩,_⟩:=I.list hq
  obtain ⟨as,q⟩:=ih rv
  exact ⟨_,reads_list_at e c d (by simpa using q)⟩
 ·intro us r;cases r;exact ⟨_,ReadsAll.nil⟩
 ·intro v vs d ds _ _ ih1 ih2 us r
  cases r with
  | cons r1 r2 =>
   obtain ⟨as,q⟩:=ih1 _ r1
   obtain ⟨bs,q2⟩:=ih2 r2
   exact ⟨_,ReadsAll.cons q q2⟩
theorem Rep.reads {X:Cx}(I:Inv X pins σ H s) (h:Rep M X.K H v d) (r:jF v u):∃as,Reads s.heap u d as:=by
 obtain ⟨as,q⟩:=Rep.reads_all I (RepL.cons h .nil) (Paired.cons r .nil)
 cases q with
 | cons q1 q2=>exact ⟨_,q1⟩
section
variable {X:Cx}
noncomputable def An (K:ag):R2:=λx y H Q=>∃(M M':Addr->Prop) (d e:PyData),Rep M K H x d/\Rep M' K H y e/\i0 d=true/\i0 e=true/\Q (.bl (oS d e)) H
theorem Em (hu:X.A.units+64<cLine):OpR X (ck .Eq) (An X.K):=by
 intro pins s σ H x y v u Q I rx ry h
 obtain ⟨M,M',d,e,h1,h2,s1,s2,q⟩:=h
 obtain ⟨as,r1⟩:=h1.reads I rx
 obtain ⟨bs,r2⟩:=h2.reads I ry
 exact eq_dataH r1 r2 s1 s2 hu ⟨.bl _,H,I,rfl,q⟩
end
end L2
end
section
namespace L2
noncomputable def tCut (t u:TS):TS:=λD σ H=>∃P:St->Hp->Prop,t { D with nx:=P } σ H/\∀σ' H',P σ' H'->u D σ' H'
theorem yK {st:Stmt}{vj:List Stmt}{t:TS}(h1:PS X st t) (h2:PSs X vj u):PSs X (st::vj) (tCut t u):=by
 intro pins s σ H D I h
 obtain ⟨P,h,hP⟩:=h
 refine m6 (thn (h1 pins s σ H { D with nx:=P } I h) λf s1 q=>?_)
 cases f with
 | next =>
  obtain ⟨σ',H',I',q⟩:=q
  exact h2 pins s1 σ' H' D I' (hP _ _ q)
 | ret v=>exact q
 | brk=>exact q
 | cont=>exact q
section
variable {X:Cx}
noncomputable def GH:R2:=λx y H Q=>∃a b xs ys,x = .ref a/\y = .ref b/\H a=some (.tup xs)/\H b=some (.tup ys)/\xs.length+ys.length<=sizeLine /\
 ∀p H',jj H H'->H' p=some (.tup (xs++ys))->Q (.ref p) H'
theorem UQ:OpR X (eS .Add) GH:=by
 intro pins s σ H x y v u Q I rx ry h
 obtain ⟨a,b,xs,ys,rfl,rfl,ha,hb,hz,q⟩:=h
 by_cases hx:xs=[]
 ·subst hx
  cases rx
  cases ry
  obtain ⟨its,r1,p1,_⟩:=I.tuple (SqT.of ha)
  obtain ⟨its2,r2,p2,_⟩:=I.tuple (SqT.of hb)
  have hi:its=[]:=r1.nil_iff.mpr rfl
  subst hi
  obtain ⟨⟨cls,dd,data,sl⟩,ho,hc,n,hd⟩:=id p1
  obtain ⟨⟨cls2,dd2,data2,sl2⟩,ho2,hc2,n2,hd2⟩:=id p2
  simp only at hc hd hc2 hd2
  subst hc hd hc2 hd2
  exact pH ⟨_,ho,rfl⟩ ⟨_,ho2,rfl⟩ mf ow fU fJ (fq _ _)
   (tuple_addW0 a b #[] its2.toArray n n2 dd dd2 sl sl2 (by simp)) ⟨ho,ho2,⟨.ref b,H,I,rfl,q b H (jj.refl H) hb⟩⟩
 ·refine Ws pins s σ H (.ref a) (.ref b) v u Q I rx ry ⟨a,b,xs,ys,rfl,rfl,SqT.of ha,SqT.of hb,hx,hz,λz=>?_,λ_ p n=>q p _ (jj.new n) j6⟩
  subst z
  exact q a H (jj.refl H) (by rw [aN];exact ha)
end
theorem Y9 {X:Cx}(K:ag) (hu:X.A.units+64<cLine) (h:X.K=K:=by rfl):OpR X (ck .Eq) (An K):=by subst h;exact Em hu
noncomputable def jU (L:Addr) (H:Hp) (b:Addr):Prop:=∃(ns:List Int) (a r c d:Int),H b=some (.lst [.ref L,.int a,.int r,.int c,.int d])/\L≠b/\H L=some (.lst (ns.map V.int))/\0<=a
theorem jU.same {b:Addr}(B:jU L H b) (s:jj H H'):jU L H' b:=by
 obtain ⟨ns,a,r,c,d,h1,h2,h3,h4⟩:=B
 exact ⟨ns,a,r,c,d,s _ _ h1,h2,s _ _ h3,h4⟩
theorem jU.ext {b acc:Addr}(B:jU L H b) (n:acc≠b) (m:acc≠L) (e:Ext acc H H'):jU L H' b:=by
 obtain ⟨ns,a,r,c,d,h1,h2,h3,h4⟩:=B
 exact ⟨ns,a,r,c,d,e _ _ h1 n.symm,h2,e _ _ h3 m.symm,h4⟩
theorem jU.put {b acc:Addr}(B:jU L H b) (n:acc≠b) (m:acc≠L):jU L (upd H acc o) b:=B.ext n m Ext.put
theorem jU.ne {b p:Addr}(B:jU L H b) (n:H p=none):p≠b:=by
 obtain ⟨ns,a,r,c,d,h1,h2,h3,h4⟩:=B
 exact (j1 h1 n).symm
theorem jU.neL {b p:Addr}(B:jU L H b) (n:H p=none):p≠L:=by
 obtain ⟨ns,a,r,c,d,h1,h2,h3,h4⟩:=B
 exact (j1 h3 n).symm
theorem jU.ne_tup {b p:Addr}{xs:List V}(B:jU L H b) (n:H p=some (.tup xs)):p≠b:=by
 obtain ⟨ns,a,r,c,d,h1,h2,h3,h4⟩:=B
 exact jn n h1 (by intro z;cases z)
noncomputable def xH:Sp:=λvs H Q _=>∃(L b:Addr) (n:Int),vs=[.ref b,.int n]/\jU L H b/\(0<n/\n<2 ^ 200)/\∀(v:Int) (H':Hp),0<=v->v<n->jU L H' b->Ext b H H'->Q (.int v) H'
noncomputable def VP (K:ag):Sp:=λvs H Q _=>∃(a:Addr) (ns:List Int),vs=[.ref a]/\SqL K H a (ns.map V.int)/\∀(L b:Addr) (H':Hp),H b=none->jU L H' b->jj H H'->Q (.ref b) H'
noncomputable abbrev T3:=Int×Int×Int
noncomputable abbrev yt (t:T3):HO:=.tup [.int t.1,.int t.2.1,.int t.2.2]
noncomputable def G2 (H:Hp) (v:V) (t:T3):Prop:=∃p,v = .ref p/\H p=some (yt t)
noncomputable def jp (H:Hp) (vs:List V) (ts:List T3):Prop:=d0 (G2 H) vs ts
theorem jp.length {ts:List T3}(r:jp H vs ts):vs.length=ts.length:=aT r
theorem jp.get :∀{vs:List V}{ts:List T3}{i:Nat}{v:V},jp H vs ts->vs[i]? = some v->∃t,ts[i]? = some t/\G2 H v t
 | _,_,_,_,.nil,e=>by simp at e
 | _,_,0,_,.cons r _,e=>by simp at e;subst e;exact ⟨_,rfl,r⟩
 | _,_,i+1,v,.cons _ t,e=>by
  obtain ⟨d,h1,h2⟩:=jp.get (i:=i) (v:=v) t (by simpa using e)
  exact ⟨d,by simpa using h1,h2⟩
theorem jp.imp {H':Hp}{ts:List T3}(r:jp H vs ts) (h:∀p t,H p=some (yt t)->H' p=some (yt t)):jp H' vs ts :=
 Paired.mapP r λ_ t ⟨p,e,q⟩=>⟨p,e,h p t q⟩
theorem jp.snoc {ts:List T3}{t:T3}(r:jp H vs ts) (h:G2 H v t):jp H (vs++[v]) (ts++[t]):=d5 r h
theorem qI {α β:Type}(f:α->β) (l:List α) (i:Nat) (v:α) (h:l[i]? = some v):(l.take (i+1)).map f=(l.take i).map f++[f v]:=by
 rw [bS,h,aG]
 rfl
noncomputable def G1 (t:T3):PyData:=.tuple [.int t.1,.int t.2.1,.int t.2.2]
end L2
end
section
namespace L2
open PySem PySem.W PyProof.Rows
noncomputable def xa {α:Type}(lt:Nat->Nat->Bool) (n:Nat):KasT α->(α->Prop)->Prop
 | .ret a,G=>G a
 | .ask i j k,G=>i<n/\j<n/\xa lt n (k (lt i j)) G
theorem xa.bind {α β:Type}{lt:Nat->Nat->Bool}{n:Nat}{f:α->KasT β}{G:β->Prop}:∀{t:KasT α},xa lt n t (λa=>xa lt n (f a) G)->xa lt n (t.bind f) G
 | .ret _,h=>h
 | .ask _ _ k,h=>⟨h.1,h.2.1,xa.bind (t:=k _) h.2.2⟩
theorem xa.wp {α:Type}{lt:Nat->Nat->Bool}{n:Nat}{cmp:Nat->Nat->(Bool->Shared->Prop)->Shared->Prop}{I:Shared->Prop}(hc:∀i j C s,i<n->j<n->I s->(∀s',I s'->C (lt i j) s')->cmp i j C s)
  {G:α->Prop} {Q:α->Shared->Prop} (hq:∀a s,G a->I s->Q a s):∀{t:KasT α} {s:Shared},xa lt n t G->I s->t.kasWp cmp Q s
 | .ret a,s,h,hs=>hq a s h hs
 | .ask i j k,s,h,hs=>hc i j _ s h.1 h.2.1 hs λs' hs'=>xa.wp hc hq (t:=k _) h.2.2 hs'
section
variable {O:KeyOrd}{key:Nat->O.α}{n:Nat}{p:Array Nat}
noncomputable abbrev ltK (O:KeyOrd) (key:Nat->O.α):Nat->Nat->Bool:=λi j=>O.blt (key i) (key j)
noncomputable abbrev kp (key:Nat->O.α) (p:Array Nat) (i:Nat):O.α:=key (p.getD i 0)
noncomputable def zF (key:Nat->O.α) (p:Array Nat) (k:Nat):Prop:=∀i j,i<=j->j<k->O.kle (kp key p i) (kp key p j)
noncomputable def gk (key:Nat->O.α) (p:Array Nat) (k:Nat):Prop:=∀i j,i<=j->j<k->O.kle (kp key p j) (kp key p i)
noncomputable def qt (n:Nat) (p:Array Nat):Prop:=p.Perm (aI n).toArray
theorem qt.size (h:qt n p):p.size=n:=by have:=h.size_eq;simpa using this
theorem qt.lt (h:qt n p) (hn:0<n) (i:Nat):p.getD i 0<n:=by
 by_cases hi:i<p.size
 ·have e:p.getD i 0=p[i]:=by simp [oU,hi]
  rw [e]
  have hm:p[i]∈(aI n).toArray.toList:=(Array.perm_iff_toList_perm.mp h).mem_iff.mp (by simp)
  simpa using hm
 ·have e:p.getD i 0=0:=by simp [oU,hi]
  rw [e];exact hn
theorem zE {p q:Array Nat}{i j:Nat}(h:p[i]? = q[j]?):p.getD i 0=q.getD j 0:=by
 rw [iV,iV,h]
theorem Q3 {src d:Nat}(hs:src<p.size) (hd:d<=src) (k:Nat) :
  kp (O:=O) key (bubble p src d) k=if k=src-d then kp key p src else if src-d<k/\k<=src then kp key p (k-1) else kp key p k:=by
 have e:=getElem?_bubble hs d hd k
 unfold kp
 by_cases h1:k=src-d
 ·rw [if_pos h1] at e ⊢;rw [zE e]
 ·rw [if_neg h1] at e ⊢
  by_cases h2:src-d<k/\k<=src
  ·rw [if_pos h2] at e ⊢;rw [zE e]
  ·rw [if_neg h2] at e ⊢;rw [zE e]
theorem Zj {i j:Nat}(hj:j<=p.size) (k:Nat):kp (O:=O) key (sI p i j) k=if i<=k/\k<j then kp key p (i+j-1-k) else kp key p k:=by
 have e:=getElem?_mirror_all (i:=i) hj k
 unfold kp sI
 by_cases h1:i<=k/\k<j
 ·rw [if_pos h1] at e ⊢;rw [zE e]
 ·rw [if_neg h1] at e ⊢;rw [zE e]
theorem xE {i j:Nat}(hj:j<=p.size) (heq:∀k,i<=k->k<j->kp (O:=O) key p k=kp key p (j-1)) (k:Nat):kp (O:=O) key (sI p i j) k=kp key p k:=by
 rw [Zj hj]
 split
 ·rw [heq _ ∅ ∅,heq k ∅ ∅]
 ·rfl
theorem qt.rev (h:qt n p) (i j:Nat):qt n (sI p i j):=(mirror_perm _ _ _ _).trans h
theorem qt.bub (h:qt n p) (i j:Nat):qt n (bubble p i j):=(bubble_perm _ _ _).trans h
theorem Qe (hP:qt n p) (hn:0<n) {G:Nat->Prop}:∀(f a:Nat),1<=a->zF (O:=O) key p a ->
  (∀m,a<=m->m<=a+f->zF (O:=O) key p m->(m=a+f\/O.klt (kp key p m) (kp key p (m-1)))->G m)->xa (ltK O key) n (kas_asc p f a) G
 | 0,a,_,hs,h=>h a (ar _) (ar _) hs (.inl rfl)
 | f+1,a,h1,hs,h=>by
  refine ⟨hP.lt hn _,hP.lt hn _,?_⟩
  show xa _ _ (if O.blt (kp key p a) (kp key p (a-1))=true then _ else _) _
  cases hless:O.blt (kp key p a) (kp key p (a-1)) with
  | true=>rw [if_pos rfl];exact h a (ar _) ∅ hs (.inr hless)
  | false =>
   rw [if_neg au]
   refine Qe hP hn f (a+1) ∅ (λi j hij hj=>?_) λm hm1 hm2 hsm ho=>h m ∅ ∅ hsm (ho.imp (λz=>∅) id)
   by_cases hja:j<a
   ·exact hs i j hij hja
   ·have hj':j=a:=∅
    subst hj'
    by_cases hi':i=j
    ·subst hi';exact de _
    ·exact iu (hs i (j-1) ∅ ∅) hless
theorem JD (hP:qt n p) {m nrem:Nat}{G:Nat×Array Nat->Prop}(h1:1<=m) (hm:m<=nrem) (hn:nrem<=n) (hs:gk (O:=O) key p m)
  (h:∀k p',qt n p'->1<=k->k<=nrem->zF (O:=O) key p' k->G (k,p')):xa (ltK O key) n (tV m nrem p) G:=by
 have hsz:m<=p.size:=by rw [hP.size];omega
 refine xa.bind (Qe (hP.rev _ _) ∅ _ m h1 (λi j hij hj=>?_) λk hk1 hk2 hk3 _=>h k _ (hP.rev _ _) ∅ ∅ hk3)
 rw [Zj hsz,Zj hsz,if_pos ∅,if_pos ∅]
 exact hs _ _ ∅ ∅
theorem uP {nrem:Nat}(hn:nrem<=n) {G:Array Nat×Nat×Nat->Prop}:∀(f:Nat) (p:Array Nat) (x q:Nat),qt n p->1<=x->x+f=nrem->gk (O:=O) key p x->q+1<=x ->
  (∀i,x-(q+1)<=i->i<x->kp (O:=O) key p i=kp key p (x-1)) ->
  (∀p' m q',qt n p'->x<=m->m<=nrem->gk (O:=O) key p' m->q'+1<=m->(∀i,m-(q'+1)<=i->i<m->kp (O:=O) key p' i=kp key p' (m-1))->G (p',m,q')) ->
  xa (ltK O key) n (kas_desc f p x q) G
 | 0,p,x,q,hP,h1,hx,hs,hq,he,h=>h p x q hP (ar _) ∅ hs hq he
 | f+1,p,x,q,hP,h1,hx,hs,hq,he,h=>by
  have hsz:x<=p.size:=by rw [hP.size];omega
  refine ⟨hP.lt ∅ _,hP.lt ∅ _,?_⟩
  show xa _ _ (if O.blt (kp key p x) (kp key p (x-1))=true then _ else _) _
  cases hless:O.blt (kp key p x) (kp key p (x-1)) with
  | true =>
   rw [if_pos rfl]
   have step1:∀p':Array Nat,(∀k,kp (O:=O) key p' k=kp key p k)->gk (O:=O) key p' (x+1):=by
    intro p' hk i j hij hj
    rw [hk,hk]
    by_cases hjx:j<x
    ·exact hs i j hij hjx
    ·have hj':j=x:=∅
     subst hj'
     by_cases hi':i=j
     ·subst hi';exact de _
     ·exact iu (i4 hless) (hs i (j-1) ∅ ∅)
   by_cases hneq:q > 0
   ·rw [if_pos hneq]
    exact uP hn f _ (x+1) 0 (hP.rev _ _) ∅ ∅ (step1 _ (xE hsz he)) ∅ (λi h1 h2=>by congr 1;omega) λp' m q' a b=>h p' m q' a ∅
   ·rw [if_neg hneq]
    exact uP hn f _ (x+1) 0 hP ∅ ∅ (step1 _ λ_=>rfl) ∅ (λi h1 h2=>by congr 1;omega) λp' m q' a b=>h p' m q' a ∅
  | false =>
   rw [if_neg au]
   refine ⟨hP.lt ∅ _,hP.lt ∅ _,?_⟩
   show xa _ _ (if O.blt (kp key p (x-1)) (kp key p x)=true then _ else _) _
   cases hlarger:O.blt (kp key p (x-1)) (kp key p x) with
   | true=>rw [if_pos rfl];exact h p x q hP (ar _) ∅ hs hq he
   | false =>
    rw [if_neg au]
    have heqx:kp (O:=O) key p x=kp key p (x-1):=iU hlarger hless
    refine uP hn f p (x+1) (q+1) hP ∅ ∅ (λi j hij hj=>?_) ∅ (λi h1 h2=>?_) λp' m q' a b=>h p' m q' a ∅
    ·by_cases hjx:j<x
     ·exact hs i j hij hjx
     ·have hj':j=x:=∅
      subst hj'
      by_cases hi':i=j
      ·subst hi';exact de _
      ·rw [heqx];exact hs i (j-1) ∅ ∅
    ·rw [show x+1-1=x by omega]
     by_cases hix:i=x
     ·subst hix;rfl
     ·rw [heqx];exact he i ∅ ∅
theorem uE (hP:qt n p) {m nrem:Nat}{G:Nat×Array Nat->Prop}(hm:m+1<=nrem) (hn:nrem<=n) (hs:gk (O:=O) key p (m+1))
  (h:∀k p',qt n p'->1<=k->k<=nrem->zF (O:=O) key p' k->G (k,p')):xa (ltK O key) n (kas_descPart m nrem p) G:=by
 refine xa.bind (uP hn _ p (m+1) 0 hP ∅ ∅ hs ∅ (λi h1 h2=>by congr 1;omega) λp' k q hP' hk1 hk2 hs' hq he=>?_)
 have hsz:k<=p'.size:=by rw [hP'.size];omega
 show xa _ _ (if q > 0 then tV k nrem (sI p' (k-(q+1)) k) else tV k nrem p') _
 by_cases hneq:q > 0
 ·rw [if_pos hneq]
  refine JD (hP'.rev _ _) ∅ hk2 hn (λi j hij hj=>?_) h
  rw [xE hsz he,xE hsz he]
  exact hs' i j hij hj
 ·rw [if_neg hneq]
  exact JD hP' ∅ hk2 hn hs' h
theorem YW (hP:qt n p) (hn:0<n) {G:Nat×Array Nat->Prop}(h:∀k p',qt n p'->1<=k->k<=n->zF (O:=O) key p' k->G (k,p')):xa (ltK O key) n (kas_count n p) G:=by
 refine xa.bind (Qe hP hn _ 1 (ar 1) (λi j hij hj=>by have:i=j:=∅;subst this;exact de _) λm hm1 hm2 hsm hor=>?_)
 by_cases hnn:m=n
 ·rw [if_pos (by simpa using hnn)]
  exact h m p hP hm1 ∅ hsm
 ·rw [if_neg (by simpa using hnn)]
  have hlt:O.klt (kp key p m) (kp key p (m-1)):=by
   rcases hor with z | z
   ·omega
   ·exact z
  by_cases hgt:m > 1
  ·rw [if_pos hgt]
   refine ⟨hP.lt hn _,hP.lt hn _,?_⟩
   show xa _ _ (if O.blt (kp key p 0) (kp key p (m-1))=true then _ else _) _
   cases hrose:O.blt (kp key p 0) (kp key p (m-1)) with
   | true=>rw [if_pos rfl];exact h m p hP hm1 ∅ hsm
   | false =>
    rw [if_neg au]
    have hsz:m<=p.size:=by rw [hP.size];omega
    have hall:∀k,0<=k->k<m->kp (O:=O) key p k=kp key p (m-1):=by
     intro k _ hk
     have a1:=hsm 0 k ∅ hk
     have a2:=hsm k (m-1) ∅ ∅
     exact iU a2 (iu hrose a1)
    refine uE (hP.rev _ _) ∅ (ar _) (λi j hij hj=>?_) h
    rw [xE hsz hall,xE hsz hall]
    by_cases hjn:j<m
    ·rw [hall i ∅ ∅,hall j ∅ hjn];exact de _
    ·have hj':j=m:=∅
     subst hj'
     by_cases hi':i=j
     ·subst hi';exact de _
     ·rw [hall i ∅ ∅];exact i4 hlt
  ·rw [if_neg hgt]
   have hm1':m=1:=∅
   subst hm1'
   refine uE hP ∅ (ar _) (λi j hij hj=>?_) h
   by_cases hi':i=j
   ·subst hi';exact de _
   ·have hi0:i=0:=∅
    have hj1:j=1:=∅
    subst hi0;subst hj1
    exact i4 hlt
theorem wa (hP:qt n p) (hn:0<n) {k:Nat}(hs:zF (O:=O) key p k) {G:Nat->Prop}:∀(f l r:Nat),l<=r->r<=k->r-l<=f ->
  (∀i,i<l->O.kle (kp key p i) (kp key p k))->(∀i,r<=i->i<k->O.klt (kp key p k) (kp key p i)) ->
  (∀l,l<=k->(∀i,i<l->O.kle (kp key p i) (kp key p k))->(∀i,l<=i->i<k->O.klt (kp key p k) (kp key p i))->G l)->xa (ltK O key) n (kas_place p k f l r) G
 | 0,l,r,hlr,hrk,hm,hlo,hhi,h=>by
  have:l=r:=∅
  subst this
  exact h l hrk hlo hhi
 | f+1,l,r,hlr,hrk,hm,hlo,hhi,h=>by
  unfold kas_place
  by_cases hge:l>=r
  ·rw [if_pos hge]
   have:l=r:=∅
   subst this
   exact h l hrk hlo hhi
  ·rw [if_neg hge]
   refine ⟨hP.lt hn _,hP.lt hn _,?_⟩
   show xa _ _ (if O.blt (kp key p k) (kp key p ((l+r) / 2))=true then _ else _) _
   cases hless:O.blt (kp key p k) (kp key p ((l+r) / 2)) with
   | true =>
    rw [if_pos rfl]
    exact wa hP hn hs f l _ ∅ ∅ ∅ hlo (λi h1 h2=>KeyOrd.klt_of_klt_of_kle hless (hs _ _ h1 h2)) h
   | false =>
    rw [if_neg au]
    exact wa hP hn hs f _ r ∅ ∅ ∅ (λi h1=>iu (hs i ((l+r) / 2) ∅ ∅) (show O.kle _ _ from hless)) hhi h
theorem Y4 (hn:0<n) {G:Array Nat->Prop}:∀(f:Nat) (p:Array Nat) (k:Nat),qt n p->k+f=n->zF (O:=O) key p k ->
  (∀p',qt n p'->zF (O:=O) key p' n->G p')->xa (ltK O key) n (kas_bin f p k) G
 | 0,p,k,hP,hk,hs,h=>h p hP (by rw [<- hk];exact hs)
 | f+1,p,k,hP,hk,hs,h=>by
  refine xa.bind (wa hP hn hs k 0 k (aJ _) (ar _) ∅ (λi hi=>∅) (λi h1 h2=>∅) λl hlk hlo hhi=>?_)
  refine Y4 hn f _ (k+1) (hP.bub _ _) ∅ (λi j hij hj=>?_) h
  have hks:k<p.size:=by rw [hP.size];omega
  rw [Q3 hks ∅,Q3 hks ∅,show k-(k-l)=l by omega]
  repeat' split
  all_goals first
   | (exfalso;omega)
   | exact de _
   | exact hlo _ ∅
   | exact i4 (hhi _ ∅ ∅)
   | exact hs _ _ ∅ ∅
theorem Jb (hn:0<n) {G:Array Nat->Prop}(h:∀p',qt n p'->zF (O:=O) key p' n->G p'):xa (ltK O key) n (AQ n) G:=by
 refine xa.bind (YW (Array.Perm.refl _) hn λk p' hP h1 hk hs=>?_)
 show xa _ _ (if k<n then kas_bin (n-max k 1) p' (max k 1) else .ret p') _
 by_cases hkn:k<n
 ·rw [if_pos hkn,show max k 1=k by omega]
  exact Y4 hn _ p' k hP ∅ hs h
 ·rw [if_neg hkn]
  have e:k=n:=∅
  subst e
  exact h p' hP hs
end
noncomputable def zI:List Int->List Int->Bool
 | [],[]=>false
 | [],_::_=>true
 | _::_,[]=>false
 | a::x,b::y=>if a=b then zI x y else decide (a<b)
theorem wz:∀a,zI a a=false
 | []=>rfl
 | a::x=>by unfold zI;rw [if_pos rfl];exact wz x
theorem kF:∀a b c,zI a b=true->zI b c=true->zI a c=true
 | [],[],_,h,_=>by cases h
 | [],_::_,[],_,h=>by cases h
 | [],_::_,_::_,_,_=>rfl
 | _::_,[],_,h,_=>by cases h
 | _::_,_::_,[],_,h=>by cases h
 | a::x,b::y,c::z,h1,h2=>by
  unfold zI at h1 h2 ⊢
  by_cases e1:a=b
  ·subst e1
   rw [if_pos rfl] at h1
   by_cases e2:a=c
   ·rw [if_pos e2] at h2 ⊢;exact kF x y z h1 h2
   ·rw [if_neg e2] at h2 ⊢;exact h2
  ·rw [if_neg e1] at h1
   have h1':=of_decide_eq_true h1
   by_cases e2:b=c
   ·subst e2;rw [if_neg e1];exact h1
   ·rw [if_neg e2] at h2
    have h2':=of_decide_eq_true h2
    rw [if_neg ∅]
    exact decide_eq_true ∅
theorem XC:∀a b c,zI a c=true->zI a b=true\/zI b c=true
 | [],[],[],h=>by cases h
 | [],[],_::_,_=>.inr rfl
 | [],_::_,_,_=>.inl rfl
 | _::_,_,[],h=>by cases h
 | _::_,[],_::_,_=>.inr rfl
 | a::x,b::y,c::z,h=>by
  unfold zI at h ⊢
  by_cases e1:a=b
  ·subst e1
   rw [if_pos rfl]
   by_cases e2:a=c
   ·rw [if_pos e2] at h ⊢;exact XC x y z h
   ·rw [if_neg e2] at h ⊢;exact .inr h
  ·rw [if_neg e1]
   by_cases e2:b=c
   ·subst e2;rw [if_neg e1] at h;exact .inl h
   ·rw [if_neg e2]
    by_cases e3:a=c
    ·subst e3
     by_cases hab:a<b
     ·exact .inl (decide_eq_true hab)
     ·exact .inr (decide_eq_true ∅)
    ·rw [if_neg e3] at h
     have h':=of_decide_eq_true h
     by_cases hab:a<b
     ·exact .inl (decide_eq_true hab)
     ·exact .inr (decide_eq_true ∅)
theorem kE:∀a b,zI a b=false->zI b a=false->a=b
 | [],[],_,_=>rfl
 | [],_::_,h,_=>by cases h
 | _::_,[],_,h=>by cases h
 | a::x,b::y,h1,h2=>by
  unfold zI at h1 h2
  by_cases e:a=b
  ·subst e
   rw [if_pos rfl] at h1 h2
   rw [kE x y h1 h2]
  ·rw [if_neg e] at h1
   rw [if_neg (λz=>e z.symm)] at h2
   have:=of_decide_eq_false h1
   have:=of_decide_eq_false h2
   omega
noncomputable def wW:KeyOrd:=⟨List Int,zI,wz,kF,XC,kE⟩
noncomputable def Ww:KeyOrd:=⟨Int,λa b=>decide (a<b),λa=>by simp,λa b c h1 h2=>by
  have:=of_decide_eq_true h1;have:=of_decide_eq_true h2;exact decide_eq_true ∅,λa b c h=>by
  have:=of_decide_eq_true h
  by_cases hab:a<b
  ·exact .inl (decide_eq_true hab)
  ·exact .inr (decide_eq_true ∅),λa b h1 h2=>by
  have:=of_decide_eq_false h1;have:=of_decide_eq_false h2;omega⟩
end L2
end
section
namespace L2
open PySem.W
open PySem.AutoSeq1 (wpAny_loadPart')
open PySem.MeetsSeq PySem.MeetsSeq2 PySem.MeetsSeq3 PySem.SeqRoads2
theorem Qb (h:dh its xs) {i:Nat}(hi:i<its.length):∃t,its[i]? = some (.int (xs[i]'(by have:=h.length;omega)) t):=by
 have hx:i<xs.length:=by have:=h.length;omega
 obtain ⟨u,e1,t,e2⟩:=jE.get (wb h) (i:=i) (x:=V.int xs[i]) (by rw [aA,af hx];rfl)
 exact ⟨t,by rw [e1,e2]⟩
theorem YL (l b:Addr) (items items2:List aj) (n n2:Nat) (dd dd2:Option Addr) (sl sl2:Array (Option aj)) (hx:dh items xs) (hy:dh items2 ys) (k:Nat) :
  ∀i:Nat,items.length-i=k->i<=items.length->i<=items2.length->Meets (eR.«list.__eq__.loop» ⟨[.ref l,.ref b,cc i,cc 0],[]⟩)
   (λA R s=>s.heap.get? l=some { cls:=.type "list",dict:=dd,data:=.seq items.toArray n,slots:=sl }/\s.heap.get? b=some { cls:=.type "list",dict:=dd2,data:=.seq items2.toArray n2,slots:=sl2 } /\
    R (.ok (.ret (.bool (zI (xs.drop i) (ys.drop i))))) s):=by
 have l1:=hx.length
 have l2:=hy.length
 induction k with
 | zero =>
  intro i hk hi hi2 prog w A R s h
  obtain ⟨hp,g,d,tk,os⟩:=s;obtain ⟨hl,hb,h⟩:=h
  wp_walk using c5 hl,c5 hb
  have e1:items.toArray[((i:Nat):Int).toNat]? = none:=by simp;omega
  have hd:xs.drop i=[]:=by simp;omega
  rw [hd] at h
  rw [e1]
  wp_walk using c5 hl,c5 hb
  show R (.ok (.ret (.bool (decide (items.toArray.size<items2.toArray.size))))) _
  have e2:decide (items.toArray.size<items2.toArray.size)=zI [] (ys.drop i):=by
   by_cases hlt:i<ys.length
   ·rw [cW hlt]
    exact decide_eq_true (by simp;omega)
   ·rw [mz ∅]
    exact decide_eq_false (by simp;omega)
  rw [e2]
  exact h
 | succ k ih =>
  intro i hk hi hi2 prog w A R s h
  obtain ⟨hp,g,d,tk,os⟩:=s;obtain ⟨hl,hb,h⟩:=h
  have hlt:i<items.length:=∅
  obtain ⟨t,e1'⟩:=Qb hx hlt
  have e1:items.toArray[((i:Nat):Int).toNat]? = some (.int (xs[i]'∅) t):=by simpa using e1'
  wp_walk using c5 hl,c5 hb
  rw [e1]
  by_cases hlt2:i<items2.length
  ·obtain ⟨u,e2'⟩:=Qb hy hlt2
   have e2:items2.toArray[((i:Nat):Int).toNat]? = some (.int (ys[i]'∅) u):=by simpa using e2'
   rw [e2]
   rw [cW (show i<xs.length by omega),cW (show i<ys.length by omega)] at h
   unfold zI at h
   refine aa (lY ?_)
   have hc:((i:Int)+1)=((i+1:Nat):Int):=by push_cast;rfl
   by_cases e:xs[i]'∅=ys[i]'∅
   ·rw [if_pos e] at h
    rw [beq_iff_eq.mpr e]
    wp_walk
    rw [hc]
    exact ⟨lV plain_eq_loop _,fE entry_eq_loop (by
     rw [eX plain_eq_loop _]
     exact ih (i+1) ∅ ∅ ∅ prog w A R _ ⟨hl,hb,h⟩)⟩
   ·rw [if_neg e] at h
    rw [beq_eq_false_iff_ne.mpr e]
    wp_walk using c5 hl,c5 hb
    rw [e1,e2]
    refine aa (show ax (aE prog w) _ (richCompare .Lt _ _) _ _ _ from lt_int ?_)
    exact wpAny_pure h
  ·have e2:items2.toArray[((i:Nat):Int).toNat]? = none:=by simp;omega
   rw [e2]
   rw [cW (show i<xs.length by omega),mz (show ys.length<=i by omega)] at h
   wp_walk using c5 hl,c5 hb
   show R (.ok (.ret (.bool (decide (items.toArray.size<items2.toArray.size))))) _
   rw [decide_eq_false (by simp;omega)]
   exact h
theorem Vk (l b:Addr) (items items2:List aj) (n n2:Nat) (dd dd2:Option Addr) (sl sl2:Array (Option aj)) (hx:dh items xs) (hy:dh items2 ys) :
  Meets (eR.«list.__lt__» ⟨[.ref l,.ref b],[]⟩)
   (λA R s=>s.heap.get? l=some { cls:=.type "list",dict:=dd,data:=.seq items.toArray n,slots:=sl }/\s.heap.get? b=some { cls:=.type "list",dict:=dd2,data:=.seq items2.toArray n2,slots:=sl2 } /\
    R (.ok (.ret (.bool (zI xs ys)))) s):=by
 intro prog w A R s h
 obtain ⟨hp,g,d,tk,os⟩:=s;obtain ⟨hl,hb,h⟩:=h
 have f3:=AutoSeq1.sub_list_list
 wp_walk using c5 hl,c5 hb
 exact ⟨lV plain_eq_loop _,fE entry_eq_loop (by
  rw [eX plain_eq_loop _]
  exact YL l b items items2 n n2 dd dd2 sl sl2 hx hy _ 0 rfl (aJ _) (aJ _) prog w A R _ ⟨hl,hb,by simpa using h⟩)⟩
section
variable {prog:Program}{w:bx}{A:bz}{E:aj->Shared->Prop}{s:Shared}
theorem XI {l b:Addr}{items items2:List aj}{n n2:Nat}{dd dd2:Option Addr}{sl sl2:Array (Option aj)}{Q:Bool->Shared->Prop}(hu:A.units<cLine)
  (hl:s.heap.get? l=some { cls:=.type "list",dict:=dd,data:=.seq items.toArray n,slots:=sl }) (hb:s.heap.get? b=some { cls:=.type "list",dict:=dd2,data:=.seq items2.toArray n2,slots:=sl2 })
  (hx:dh items xs) (hy:dh items2 ys) (h:Q (zI xs ys) s):ax (aE prog w) A (oneLt' true (.ref l) (.ref b)) Q E s:=by
 rw [oneLt'_eq]
 simp only [if_true]
 refine aa (wpAny_cRoomFor hu ?_)
 refine aa (wpAny_callSpecialIfBound?_slot ⟨_,hl,rfl⟩ nE (my nE ⟨_,hl,rfl⟩ PySem.F.entry_list_lt (PySem.F.args_list_lt_2 _ _) (Vk l b items items2 n n2 dd dd2 sl sl2 hx hy) ⟨hl,hb,?_⟩))
 exact bQ h
theorem Zy {x y:Addr}{items items2:List aj}{n k:Nat}{Q:Bool->Shared->Prop}(hx:s.heap.get? x=some ox) (dx:ox.data = .seq items.toArray n) (hy:s.heap.get? y=some oy) (dy:oy.data = .seq items2.toArray k)
  (ix:dh items xs) (iy:dh items2 ys) (h:Q (zI xs ys) s):ax (aE prog w) A (keyLt' (tuples' true) (.ref x) (.ref y)) Q E s:=by
 refine kat_lt hx dx hy dy ?_
 have go:∀(items items2:List aj) (xs ys:List Int) (i:Nat) (fin:Bool),dh items xs->dh items2 ys->(∀m:Nat,xs.length=m+items.length-items.length->True) ->
   fin=decide (items.length<items2.length)->Q (zI xs ys) s->KatLex prog w A true fin Q (items.zip items2) i s:=by
  intro items items2 xs ys i fin a b
  induction a generalizing items2 ys i with
  | nil =>
   intro _ hf hq
   cases b with
   | nil=>subst hf;exact hq
   | cons m u r=>subst hf;exact hq
  | cons m u r ih =>
   intro _ hf hq
   cases b with
   | nil=>subst hf;exact hq
   | cons m' u' r' =>
    refine kat_cons (lY ?_)
    unfold zI at hq
    by_cases e:m=m'
    ·rw [beq_iff_eq.mpr e]
     rw [if_pos e] at hq
     refine kat_yes (ih _ _ _ r' (λ_ _=>trivial) ?_ hq)
     rw [hf]
     simp
    ·rw [beq_eq_false_iff_ne.mpr e]
     rw [if_neg e] at hq
     refine kat_no ?_
     cases hb:(true && i == 0) with
     | true=>exact oneLt_int hq
     | false=>exact kat_one _ _ (lt_int hq)
 have e:(items.toArray.toList.zip items2.toArray.toList)=items.zip items2:=by simp
 rw [e]
 exact go items items2 xs ys 0 _ ix iy (λ_ _=>trivial) (by simp) h
end
end L2
end
section
namespace L2
open PySem.W
section
variable {prog:Program}{w:bx}{A:bz}{E:aj->Shared->Prop}{s:Shared}
theorem uQ (its:List aj):(its.toArray.zip its.toArray).map (·.2)=its.toArray:=by
 apply Array.toList_inj.mp
 rw [rn,ksk_zip]
 show (its.zip its).map AO=its
 rw [rp]
 exact ar _
theorem ui (its:List aj):((aI its.length).map λi=>its.getD i aU)=its:=by
 apply mh
 ·simp
 ·intro i h1 h2
  simp at h1
  simp [h1]
theorem Zi {l:Addr}{its:List aj}{κ:sY}{lt:Nat->Nat->Bool}{G:List Nat->Prop}{Q:aj->Shared->Prop}(hl:s.heap.IsList l its.toArray) (h64:its.length<64)
  (hk:2<=its.length->∀h',(∀b o,s.heap.get? b=some o->h'.get? b=some o)->∀Q':sY->Shared->Prop,Q' κ { s with heap:=h' }->ax (aE prog w) A.in1.in1 (keyKind' its.toArray) Q' (λ_ _=>False) { s with heap:=h' })
  (hc:∀h',(∀b o,s.heap.get? b=some o->h'.get? b=some o)->∀i j,i<its.length->j<its.length->∀Q':Bool->Shared->Prop,Q' (lt i j) { s with heap:=h' } ->
   ax (aE prog w) A.in1.in1 (keyLt' κ (its.getD i aU) (its.getD j aU)) Q' (λ_ _=>False) { s with heap:=h' })
  (hs:2<=its.length->xa lt its.length (AQ its.length) λp=>qt its.length p/\G p.toList) (h1:its.length<2->G (aI its.length))
  (h:∀(ix:List Nat) (h':Heap) (n:Nat),ix.Perm (aI its.length)->G ix->(∀b o,s.heap.get? b=some o->h'.get? b=some o) ->
   h'.get? (s.heap.objs.size+1)=some (bA "list" (ix.map λi=>its.getD i aU).toArray n)->Q (.ref (s.heap.objs.size+1)) { s with heap:=h' }) :
  ax (aE prog w) A (call (.builtin "sorted") [.ref l]) Q E s:=by
 refine lF si pN pO (args_sorted1 _) ?_
 unfold eR.«sorted»
 refine aa (m:=sZ "sorted" 1 1 _) (wpAny_pure ?_)
 refine aa (collect_list hl ?_ (by rw [bE];omega))
 refine aa (fB ?_ (by rw [bE];omega))
 have hsz:((s.heap.push (bA "list" #[] 0)).update s.heap.objs.size (b9 (· ++ its.toArray))).objs.size=s.heap.objs.size+1:=by
  rw [dP,oV]
 have ho:(((s.heap.push (bA "list" #[] 0)).update s.heap.objs.size (b9 (· ++ its.toArray))).push (bA "list" its.toArray 0)).get? (s.heap.objs.size+1)=some (bA "list" its.toArray 0):=by
  rw [<- hsz];exact ay _ rfl
 have keep:∀b o,s.heap.get? b=some o->(((s.heap.push (bA "list" #[] 0)).update s.heap.objs.size (b9 (· ++ its.toArray))).push (bA "list" its.toArray 0)).get? b=some o:=λb o q=>by
  have hlt:b<s.heap.objs.size:=aw q
  rw [cQ _ _ _ (by rw [hsz];exact aC (cg hlt)),c9 _ _ _ _ (aC hlt),cQ _ _ _ (aC hlt)]
  exact q
 show ax _ _ _ _ _ { s with heap:=((s.heap.push (bA "list" #[] 0)).update s.heap.objs.size (b9 (· ++ its.toArray))).push (bA "list" its.toArray 0) }
 rw [hsz]
 refine aa (bw (c7 nH ⟨_,ho,rfl⟩ mJ ?body (t6 _)))
 case body =>
  generalize hh0:((s.heap.push (bA "list" #[] 0)).update s.heap.objs.size (b9 (· ++ its.toArray))).push (bA "list" its.toArray 0)=h0 at ho keep
  generalize ha:s.heap.objs.size+1=a at ho h
  have aNew:∀b o,s.heap.get? b=some o->b≠a:=λb o q=>by have:=aw q;rw [<- ha];exact aC (cg this)
  show ax (aE prog w) A.in1.in1 (eR.«list.sort» ⟨[.ref a],[]⟩) _ _ { s with heap:=h0 }
  rw [su]
  have hal:a<h0.objs.size:=aw ho
  refine aa (mB ho rfl ?_)
  refine aa (cZ ho rfl ?_ (by rw [av,bE];omega) (aJ _))
  obtain ⟨e1,ho1⟩:∃e1,(h0.update a (b9 λ_=>(#[]:Array aj))).get? a=some (bA "list" #[] e1):=⟨_,eG ho (λ_=>#[])⟩
  refine aa (eY ho1 rfl ?_)
  refine aa (ly ?_ (by show its.length<=_;rw [bE];omega))
  refine aa (fB ?_ (aJ _))
  refine bw ?_
  have ho6:(((h0.update a (b9 λ_=>(#[]:Array aj))).push (bA "tuple" its.toArray 0)).push (bA "list" #[] 0)).get? a=some (bA "list" #[] e1):=by
   rw [cQ _ _ _ (by rw [oV,dP];exact aC (cg hal)),cQ _ _ _ (by rw [dP];exact aC hal)]
   exact ho1
  have keep6:∀b o,s.heap.get? b=some o->(((h0.update a (b9 λ_=>(#[]:Array aj))).push (bA "tuple" its.toArray 0)).push (bA "list" #[] 0)).get? b=some o:=λb o q =>
   ai _ (ai _ ((c9 _ _ _ _ (aNew b o q)).trans (keep b o q)))
  show ax (aE prog w) A.in1.in1 _ _ _ { s with heap:=((h0.update a (b9 λ_=>(#[]:Array aj))).push (bA "tuple" its.toArray 0)).push (bA "list" #[] 0) }
  generalize ((h0.update a (b9 λ_=>(#[]:Array aj))).push (bA "tuple" its.toArray 0)).push (bA "list" #[] 0)=h6 at ho6 keep6
  dsimp only
  have fin:∀(ix:List Nat),ix.Perm (aI its.length)->G ix->∀out:Array aj,out=(ix.map λi=>its.getD i aU).toArray ->
    ∃v,t7 (Flow.ret aU) = .done (.ret v)/\ax (aE prog w) A.in1 (do let _ <- pure v;ret (aV a)) (λfin s'=>∃v,fin = .done (.ret v)/\Q v s') E { s with heap:=h6.update a (b9 λ_=>out) }:=λix hp hg out ho'=>by
   refine ⟨_,rfl,aa (wpAny_pure (wpAny_pure ⟨_,rfl,?_⟩))⟩
   subst ho'
   exact h ix _ _ hp hg (λb o q=>(c9 _ _ _ _ (aNew b o q)).trans (keep6 b o q)) (eG ho6 λ_=>_)
  by_cases h2:its.toArray.size<2
  ·rw [if_pos h2,if_pos h2]
   refine aa (wpAny_pure ?_)
   rw [mK]
   refine aa (wpAny_pure ?_)
   dsimp only
   refine aa (eY ho6 rfl ?_)
   rw [uQ]
   refine aa (cZ ho6 rfl ?_ (aJ _) (by rw [av,bE];omega))
   simp only [bne_self_eq_false,cp,if_false]
   rw [av] at h2
   exact wpAny_pure (fin _ (nI _) (h1 h2) _ (by rw [ui]))
  ·rw [if_neg h2,if_neg h2]
   rw [av] at h2
   refine aa (aZ (hk ∅ h6 keep6 (λκ' s'=>κ'=κ/\s'={ s with heap:=h6 }) ⟨rfl,rfl⟩) (λκ' s' q=>?_) λ_ _ x=>x.elim)
   obtain ⟨rfl,rfl⟩:=q
   refine aa (aZ (kat_run (ks:=its) (vs:=its) (κ:=κ') (G:=λp s'=>(qt its.length p/\G p.toList)/\s'={ s with heap:=h6 }) (Q:=λst' s'=>∃p:Array Nat,arrOf st'=p.map (AR (its.toArray.zip its.toArray))/\t8 st'=none/\(qt its.length p/\G p.toList)/\s'={ s with heap:=h6 })
    rfl ∅ h64 (λp st' s' a1 a2 a3 a4=>⟨p,a2,a3,a4⟩) (xa.wp (I:=λs'=>s'={ s with heap:=h6 }) (λi j C s' hi hj hI hC=>?_) (λp s' hp hI=>⟨hp,hI⟩) (hs ∅) rfl)) ?_ λ_ _ e=>e)
   ·subst hI
    exact hc h6 keep6 i j hi hj C (hC _ rfl)
   ·rintro ⟨⟨⟩,st'⟩ s' ⟨p,har,hf,⟨hP,hG⟩,rfl⟩
    dsimp only
    have hout:=AS (ks:=its) (vs:=its) rfl har
    have hz:(pQ (p.toList.map λi=>its.getD i aU)).size=its.length:=by rw [av,ah,cw,hP.size]
    rw [hout]
    refine aa (eY ho6 rfl ?_)
    refine aa (cZ ho6 rfl ?_ (aJ _) (by rw [hz,bE];omega))
    rw [hf]
    simp only [bne_self_eq_false,cp,if_false]
    exact wpAny_pure (fin p.toList (by have:=Array.perm_iff_toList_perm.mp hP;simpa using this) hG _ rfl)
end
end L2
end
section
namespace L2
open PySem.W
noncomputable def uv (O:KeyOrd) (key:Nat->O.α) (vs out:List V):Prop:=∃ix:List Nat,ix.Perm (aI vs.length)/\out=(ix.map λi=>vs.getD i V.non)/\(ix.map key).Pairwise O.kle
theorem zF.pairwise {O:KeyOrd}{key:Nat->O.α}{p:Array Nat}{n:Nat}(hs:zF (O:=O) key p n) (hz:p.size=n):(p.toList.map key).Pairwise O.kle:=by
 rw [List.pairwise_iff_getElem]
 intro i j hi hj hij
 simp at hi hj
 have q:=hs i j (dZ hij) ∅
 unfold kp at q
 have e1:p.getD i 0=p[i]:=by simp [oU,hi]
 have e2:p.getD j 0=p[j]:=by simp [oU,hj]
 rw [e1,e2] at q
 simpa using q
theorem JR:∀{vs:List V}{us:List aj},jE vs us->∀i,jF (vs.getD i V.non) (us.getD i aU)
 | _,_,.nil,_=>rfl
 | _,_,.cons r _,0=>r
 | _,_,.cons _ t,i+1=>JR t i
theorem wc {vs:List V}{us:List aj}(r:jE vs us):∀ix:List Nat,jE (ix.map λi=>vs.getD i V.non) (ix.map λi=>us.getD i aU)
 | []=>.nil
 | i::ix=>.cons (JR r i) (wc r ix)
theorem Uq {a b:Int}(h:Ww.kle a b):a<=b:=Int.not_lt.mp (of_decide_eq_false h)
noncomputable def yR (H:Hp) (vs:List V) (rows:List (List Int)):Prop:=d0 (λv (r:List Int)=>∃a,v=V.ref a/\H a=some (.lst (r.map V.int))) vs rows
theorem Paired.get {α β:Type}{F:α->β->Prop}:∀{l₁:List α}{l₂:List β}{i:Nat}{x:α},d0 F l₁ l₂->l₁[i]? = some x->∃y,l₂[i]? = some y/\F x y
 | _,_,_,_,.nil,e=>by simp at e
 | _,_,0,_,.cons r _,e=>by simp at e;subst e;exact ⟨_,rfl,r⟩
 | _,_,i+1,v,.cons _ t,e=>by
  obtain ⟨d,h1,h2⟩:=Paired.get (i:=i) (x:=v) t (by simpa using e)
  exact ⟨d,by simpa using h1,h2⟩
theorem zw:∀{ns:List Int}{us:List aj},jE (ns.map V.int) us->dh us ns
 | [],_,.nil=>.nil
 | n::ns,_,.cons ⟨t,e⟩ r=>by subst e;exact .cons n t (zw r)
section
variable {X:Cx}
theorem Jf (K:ag) (hu:X.A.units+64<cLine) (hK:X.K=K:=by rfl):xh X (.builtin "sorted") (λxs H Q=>∃p vs rows,xs=[.ref p]/\SqL K H p vs/\vs.length<64/\yR H vs rows /\
  ∀l H' out,H l=none->H' l=some (.lst out)->jj H H'->uv wW (λi=>rows.getD i []) vs out->Q (.ref l) H'):=by
 subst hK
 intro pins s σ H xs us Q I r h
 obtain ⟨p,vs,rows,rfl,hq,h64,hr,k⟩:=h
 obtain ⟨u,rfl,ru⟩:=vQ r
 cases ru
 obtain ⟨its,rv,pl,hz⟩:=I.list hq
 have hlen:its.length=vs.length:=rv.length.symm
 have item:∀i,i<its.length->∃a its' n,its.getD i aU = .ref a/\s.heap.get? a=some { cls:=.type "list",data:=.seq its'.toArray n }/\dh its' (rows.getD i []):=λi hi=>by
  have e1:vs[i]? = some (vs[i]'∅):=af ∅
  obtain ⟨y,e2,a,e3,e4⟩:=Paired.get hr e1
  obtain ⟨u,e5,ru⟩:=rv.get e1
  rw [e3] at ru
  cases ru
  obtain ⟨z,its',n,rv',e6⟩:=I.hok a _ e4
  refine ⟨a,its',n,by rw [ao,e5];rfl,e6,?_⟩
  rw [ao,e2]
  exact zw rv'
 have hun:X.A.in1.in1.units<cLine:=by
  show X.A.units+1+1<cLine
  omega
 refine Zi (κ:=oneType') (lt:=ltK wW λi=>rows.getD i []) (G:=λix=>(ix.map λi=>rows.getD i []).Pairwise wW.kle) pl.isList ∅ (λh2 h' hk' Q' q=>?_) (λh' hk' i j hi hj Q' q=>?_) (λh2=>?_) (λh1=>?_) λix h' n hp hg hk' hn=>?_
 ·refine kas_kind (T:=.type "list") h2 (λv hv=>?_) rfl rfl q
  obtain ⟨i,hi,rfl⟩:=List.mem_iff_getElem.mp hv
  obtain ⟨a,its',n,e1,e2,_⟩:=item i hi
  have e3:its[i] = .ref a:=by rw [<- e1];simp [hi]
  rw [e3]
  exact (show Looks _ h' (oQ (.ref a)) _ from (AU (hk' _ _ e2)).andThen .now)
 ·obtain ⟨a,its',n,e1,e2,e3⟩:=item i hi
  obtain ⟨b,its2,n2,f1,f2,f3⟩:=item j hj
  rw [e1,f1,keyLt'_oneType]
  exact XI hun (hk' _ _ e2) (hk' _ _ f2) e3 f3 q
 ·exact Jb ∅ λp' hP hS=>⟨hP,hS.pairwise hP.size⟩
 ·have hcase:its.length=0\/its.length=1:=∅
  rcases hcase with z | z
  ·rw [z];exact fY
  ·rw [z];exact dQ _ _
 ·have hf:H (s.heap.objs.size+1)=none:=I.hok.fresh (fL _)
  refine ⟨.ref _,upd H (s.heap.objs.size+1) (.lst (ix.map λi=>vs.getD i V.non)),I.laid (t':=s.toks) hk' (fL _) ⟨?_,_,n,wc rv ix,hn⟩,rfl,k _ _ _ hf j6 (jj.new hf) ⟨ix,by rw [<- hlen];exact hp,rfl,hg⟩⟩
  rw [ah,hp.length_eq,bp]
  exact aH (by omega:its.length<=1000) ⋯
end
end L2
end
section
namespace L2
open PySem.W
noncomputable abbrev uw (qual:Str) (params:Arguments) (body:Expr) (scope:Scope) (pm:aj) (c:Addr) (ctv:aj):FuncData:=kla_fn "<lambda>" qual params body scope [] pm (.ref c) ctv
noncomputable def Vn (f:Addr) (fd:FuncData):HO:=.ext λh=>h.get? f=some { cls:=.type "function",data:=.func fd }
noncomputable def ZG (c:Addr) (qual:Str):HO:=.ext λh=>h.CodeRec (.ref c) qual
noncomputable def Tab (H:Hp) (Pt:Addr) (pos:Pos) (qual:Str):Prop:=H Pt=some (.tbl #[])\/∃c',H Pt=some (.tbl #[cc pos.line,cc pos.col,.ref c'])/\H c'=some (ZG c' qual)
theorem Tab.ne {pos:Pos}(T:Tab H Pt pos qual):∃ps,H Pt=some (.tbl ps):=by
 rcases T with z | ⟨c',z,_⟩
 ·exact ⟨_,z⟩
 ·exact ⟨_,z⟩
theorem Tab.same {pos:Pos}(T:Tab H Pt pos qual) (s:jj H H'):Tab H' Pt pos qual:=by
 rcases T with z | ⟨c',z,y⟩
 ·exact .inl (s _ _ z)
 ·exact .inr ⟨c',s _ _ z,s _ _ y⟩
theorem Tab.ext {b:Addr}{pos:Pos}{xs:List V}(T:Tab H Pt pos qual) (hb:H b=some (.lst xs)) (e:Ext b H H'):Tab H' Pt pos qual:=by
 rcases T with z | ⟨c',z,y⟩
 ·exact .inl (e _ _ z (jn z hb (by intro q;cases q)))
 ·exact .inr ⟨c',e _ _ z (jn z hb (by intro q;cases q)),e _ _ y (jn y hb (by intro q;cases q))⟩
theorem Tab.extN {b:Addr}{pos:Pos}(T:Tab H Pt pos qual) (hb:H b=none) (e:Ext b H H'):Tab H' Pt pos qual:=T.same λc o h=>e c o h (j1 h hb)
noncomputable def Bm (mg:Str->Option aj) (base:Heap):Prop:=∃bm ob,mg "__builtins__" = some (.ref bm)/\bm≠mq/\base.get? bm=some ob/\ob.cls = .type "module" /\ ob.dict=some mq/\ob.data = .plain
theorem WL {K:ag}{k:Nat}{f c:Addr}{pm ctv:aj}{x:Str}{s:Shared}{u:aj}{t:TE}
  (ho:s.heap.get? f=some { cls:=.type "function",data:=.func (uw qual params body scope pm c ctv) }) (hcd:s.heap.CodeRec (.ref c) qual) (S:FnScope N [x] scope) (hr:Room (k+1) A) (e0:Env0 P w K mg base A outer s H)
  (hb:∀pm c ctv u,cH (uw qual params body scope pm c ctv) ⟨[u],[]⟩=pure [(x,u)]) (r:jF v u)
  (ht:PE (vJ CX0 P w K mg base N qual scope f (.ref c) A outer s H E0).nox body t) (q:t (start N [v]) H Q) :
  cU (aE P w) A (.call (.ref f) ⟨[u],[]⟩) (CR CX0 outer P w H s Q E0) s:=by
 have lim:s.heap.NoLimit:=e0.mod.nolimit.keeps λb o e=>(e0.bs b o e).1
 have hkind:∀y∈([x].zip [u]),scope.names.lookup y.1=some .local\/(scope.names.lookup y.1=some .cell/\((md (s.heap.objs.size+1) scope.names []).lookup y.1).isSome=true):=λ⟨n,v⟩ hy=>by
  rcases S.par n (fD hy).1 with q | q
  ·exact .inl q
  ·exact .inr ⟨q,eA _ _ _ (.inl q)⟩
 refine kla_callFunE hr.depth ho rfl S.co S.gen rfl hcd ?_
 rw [hb]
 refine wpAny_pure (eV (binds:=[x].zip [u]) S.kind hkind λenv he s1 y=>?_)
 subst he
 refine ⟨lim.keeps y.toInCall.keep,kla_codeExpr ?_⟩
 have I:Inv (vJ CX0 P w K mg base N qual scope f (.ref c) A outer s H E0) [] (start N [v]) H s1:=wt S hr.hd e0 rfl (Paired.cons r .nil) y
 refine aZ (ht.nox [] s1 (start N [v]) H _ I q) (λu' s' hs=>?_) λe s' hs=>hs
 obtain ⟨v',H',J,rv,q'⟩:=hs
 exact ⟨v',H',J.os,J.bare,J.base,J.hok,rv,q'⟩
section
variable {X:Cx}{pins:List (Addr×Obj)}{σ:St}{H:Hp}{s:Shared}
theorem U9 {pos:Pos}{Q:aj->Shared->Prop}(I:Inv X pins σ H s) (hcode:X.env.code = .ref c) (CH:CodeHd X.base c Pt) (hB:Bm X.mg X.base)
  (hcl:oR scope X.env=pure []) (hdef:defaultsOf params X.env=([],[])) (T:Tab H Pt pos (X.env.qual ++ "<lambda>"))
  (k:∀f H' s' pm c' ctv,Inv X pins σ H' s'->H f=none->H' f=some (Vn f (uw (X.env.qual ++ "<lambda>") params body scope pm c' ctv))->H' c'=some (ZG c' (X.env.qual ++ "<lambda>"))->Ext Pt H H'->Tab H' Pt pos (X.env.qual ++ "<lambda>")->Q (.ref f) s') :
  ax (aE X.prog X.w) X.A (eval (.Lambda params body scope pos) X.env) Q E s:=by
 refine kla_eval hdef ?_
 obtain ⟨bm,ob,b1,b2,b3,b4,b5,b6⟩:=hB
 obtain ⟨ps0,hPt⟩:=T.ne
 have trk:∀{b:Addr} {o:Obj},X.base.get? b=some o->b≠Pt:=λ{b o} e z=>by
  have:=(I.bs b o e).2
  rw [z,hPt] at this;cases this
 have hgN:s.heap.Ns mainGlobals X.mg:=I.ok.mod.glob.keeps I.bk
 have hgP:mainGlobals≠Pt:=by
  obtain ⟨o,es,ep,e,_⟩:=I.ok.mod.glob
  exact trk e
 have hbG:bm≠mainGlobals:=λq=>by
  obtain ⟨o,es,ep,e,hd,_⟩:=I.ok.mod.glob
  rw [q,e] at b3;cases b3;rw [hd] at b6;cases b6
 have hBA:s.heap.BuiltinsAt X.mg Pt:=⟨bm,ob,b1,b2,hbG,trk b3,I.bk _ _ b3,b4,b5,b6⟩
 have LS:∀(f:Addr) (fd:FuncData) (h1 h2:Heap),h1.get? f=some { cls:=.type "function",data:=.func fd }->(∀o,h1.get? f=some o->h2.get? f=some o)->h2.get? f=some { cls:=.type "function",data:=.func fd }:=λf fd h1 h2 e m=>m _ e
 have CS:∀(c:Addr) (q:Str) (h1 h2:Heap),h1.CodeRec (.ref c) q->(∀o,h1.get? c=some o->h2.get? c=some o)->h2.CodeRec (.ref c) q:=λc q h1 h2 ⟨c',o,vs,t,e,g,r⟩ m=>by
  cases e
  exact ⟨c,o,vs,t,rfl,m _ g,r⟩
 rcases T with hT | ⟨c',hT,hC⟩
 ·have eT:s.heap.get? Pt=some (sM #[]):=I.hok Pt _ hT
  refine kla_makeFunction (mg:=X.mg) hcl I.ok.glob hgN hcode (CH.keeps I.bk) eT trivial rfl hgP hBA λc' ctv h' tk hx hge hlt hrec htb=>?_
  have hcN:H c'=none:=I.hok.fresh hge
  have hsz:s.heap.objs.size<=h'.objs.size:=dZ (bV hge hlt)
  have hfN:H h'.objs.size=none:=I.hok.fresh hsz
  have neC:∀{b:Addr} {o:Obj},s.heap.get? b=some o->b≠c':=λ{b o} e=>aC (aO (aw e) hge)
  have neF:∀{b:Addr} {o:Obj},s.heap.get? b=some o->b≠h'.objs.size:=λ{b o} e=>aC (aO (aw e) hsz)
  have hPc:Pt≠c':=neC eT
  have hPf:Pt≠h'.objs.size:=neF eT
  have hcf:c'≠h'.objs.size:=aC hlt
  have e':h'.get? Pt=some (sM #[cc pos.line,cc pos.col,.ref c']):=by simpa using htb
  have getF:∀{b:Addr} {o:HO},H b=some o->b≠Pt->upd (upd (upd H Pt (.tbl #[cc pos.line,cc pos.col,.ref c'])) c' (ZG c' (X.env.qual ++ "<lambda>"))) h'.objs.size (Vn h'.objs.size (uw (X.env.qual ++ "<lambda>") params body scope ((X.mg "__name__").getD .none) c' ctv)) b=some o:=λ{b o} e n=>by
   rw [j7 (j1 e hfN),j7 (j1 e hcN),j7 n];exact e
  have atP:upd (upd (upd H Pt (.tbl #[cc pos.line,cc pos.col,.ref c'])) c' (ZG c' (X.env.qual ++ "<lambda>"))) h'.objs.size (Vn h'.objs.size (uw (X.env.qual ++ "<lambda>") params body scope ((X.mg "__name__").getD .none) c' ctv)) Pt=some (.tbl #[cc pos.line,cc pos.col,.ref c']):=by
   rw [j7 hPf,j7 hPc,j6]
  have atC:upd (upd (upd H Pt (.tbl #[cc pos.line,cc pos.col,.ref c'])) c' (ZG c' (X.env.qual ++ "<lambda>"))) h'.objs.size (Vn h'.objs.size (uw (X.env.qual ++ "<lambda>") params body scope ((X.mg "__name__").getD .none) c' ctv)) c'=some (ZG c' (X.env.qual ++ "<lambda>")):=by
   rw [j7 hcf,j6]
  refine k h'.objs.size (upd (upd (upd H Pt (.tbl #[cc pos.line,cc pos.col,.ref c'])) c' (ZG c' (X.env.qual ++ "<lambda>"))) h'.objs.size (Vn h'.objs.size (uw (X.env.qual ++ "<lambda>") params body scope ((X.mg "__name__").getD .none) c' ctv))) _ ((X.mg "__name__").getD .none) c' ctv ?_ hfN j6 atC (λb o e n=>getF e n) (.inr ⟨c',atP,atC⟩)
  have kp1:∀b o,b≠Pt->s.heap.get? b=some o->(h'.push (kla_obj "<lambda>" (X.env.qual ++ "<lambda>") params body scope [] ((X.mg "__name__").getD .none) c' ctv)).get? b=some o:=λb o n e=>ai _ (hx b o n e)
  have nP:∀{b:Addr},H b=none->b≠Pt:=λ{b} e z=>by rw [z,hT] at e;cases e
  refine I.step (g':=s.gens) (d':=s.drawn) (ch:=[]) (λ_ z=>nomatch z) (λb o _ _ _ e n=>kp1 b o (nP n) e) (λb o _ _ _ e n=>⟨o.slots,kp1 b o (nP n) e⟩) (λb o _ e n=>?_) (λb o _ e=>?_) (λb xs e=>?_) (λb o u e=>?_) (λb ps e=>?_) (λm hm=>?_) (λb u e=>?_) I.bare
  ·rw [j7 (neF e),j7 (neC e),j7 (nP n)];exact n
  ·by_cases hb:b=Pt
   ·subst hb;exact ⟨_,ai _ e'⟩
   ·exact ⟨o,kp1 b o hb e⟩
  ·exact getF e (jn e hT (by intro z;cases z))
  ·exact getF e (jn e hT (by intro z;cases z))
  ·by_cases hb:b=Pt
   ·subst hb
    rw [hT] at e;cases e
    exact ⟨#[cc pos.line,cc pos.col,.ref c'],by rw [atP];simp⟩
   ·exact ⟨#[],by rw [getF e hb];simp⟩
  ·obtain ⟨o,es,ep,ho,r⟩:=hm
   exact ⟨o,es,ep,kp1 _ o (nP I.free) ho,r⟩
  ·by_cases h1:b=h'.objs.size
   ·subst h1
    rw [j6] at e;cases e
    exact ⟨ay _ rfl,⟨_,ay _ rfl⟩,λh1 h2 e m=>LS _ _ h1 h2 e m⟩
   ·by_cases h2:b=c'
    ·subst h2
     rw [atC] at e;cases e
     obtain ⟨c2,oc,vs,t,e2,hoc,r⟩:=id hrec
     cases e2
     exact ⟨hrec.keeps λb o e=>ai _ e,⟨_,ai _ hoc⟩,λh1 h2 e m=>CS _ _ h1 h2 e m⟩
    ·by_cases h3:b=Pt
     ·subst h3
      rw [atP] at e;cases e
      exact ai _ e'
     ·rw [j7 h1,j7 h2,j7 h3] at e
      refine (I.hok b u e).stay (λb' v hc q=>kp1 b' v ?_ q) (λb' q=>getF q (jn q hT (by intro z;cases z))) λb' xs q=>getF q (jn q hT (by intro z;cases z))
      rcases hc with z | z
      ·rw [z];exact h3
      ·exact jn z hT (by intro z;cases z)
 ·have eT:s.heap.get? Pt=some (sM #[cc pos.line,cc pos.col,.ref c']):=I.hok Pt _ hT
  have tri:TriplesOk (#[cc pos.line,cc pos.col,aV c']:Array aj).toList:=TriplesOk_snoc pos.line pos.col (.ref c') [] trivial
  have hit:codeAmong pos (#[cc pos.line,cc pos.col,aV c']:Array aj).toList=some (.ref c'):=codeAmong_snoc (c:=.ref c') [] trivial rfl
  refine kla_makeFunctionHit (mg:=X.mg) hcl I.ok.glob hgN hcode (CH.keeps I.bk) eT tri hit hBA λctv h' tk hk hsz=>?_
  have hfN:H h'.objs.size=none:=I.hok.fresh hsz
  refine k h'.objs.size (upd H h'.objs.size (Vn h'.objs.size (uw (X.env.qual ++ "<lambda>") params body scope ((X.mg "__name__").getD .none) c' ctv))) _ ((X.mg "__name__").getD .none) c' ctv ?_ hfN j6 (by rw [j7 (j1 hC hfN)];exact hC) (Ext.new hfN) (.inr ⟨c',by rw [j7 (j1 hT hfN)];exact hT,by rw [j7 (j1 hC hfN)];exact hC⟩)
  exact I.laid (λb o e=>ai _ (hk b o e)) hsz ⟨ay _ rfl,⟨_,ay _ rfl⟩,λh1 h2 e m=>LS _ _ h1 h2 e m⟩
theorem Inv.adopt {D:Addr}{ob:Obj}{h':Heap}{t':Nat}(I:Inv X ((D,ob)::pins) σ H s) (h1:X.s₀.heap.objs.size<=D) (h2:∀x c,X.env.cells.lookup x=some c->c≠D) (h3:∀p∈X.pn++pins,p.1≠D)
  (k:∀b u,b≠D->s.heap.get? b=some u->h'.get? b=some u) (new:qo X.prog X.w (upd H D o) h' D o):Inv X pins σ (upd H D o) { s with heap:=h',toks:=t' }:=by
 obtain ⟨eD,nD,lD,_,_⟩:=I.pin (D,ob) (aD _ aB)
 have I':Inv X pins σ H s:=I.pins_of λp hp=>I.pin p (aD _ (aF _ hp))
 have nit:∀b u,H b=some u->b≠D:=λb u e z=>by rw [z,nD] at e;cases e
 have getF:∀{b:Addr} {u:HO},H b=some u->upd H D o b=some u:=λ{b u} e=>by rw [j7 (nit b u e)];exact e
 refine I'.step (g':=s.gens) (d':=s.drawn) (ch:=[D]) (λb hb=>?_) (λb o _ _ hc e _=>k b o (λz=>hc (by simp [z])) e) (λb o _ _ hc e _=>⟨o.slots,k b o (λz=>hc (by simp [z])) e⟩) (λb o hc _ n=>by rw [j7 (λz=>hc (by simp [z]))];exact n)
  (λb o hc e=>⟨o,k b o (λz=>hc (by simp [z])) e⟩) (λ_ _ e=>getF e) (λ_ _ _ e=>getF e) (λb ps e=>⟨#[],by rw [getF e];simp⟩) (λm hm=>?_) (λb u e=>?_) I'.bare
 ·have e:b=D:=by simpa using hb
  subst e
  exact ⟨.inr h1,lD,h2,h3⟩
 ·obtain ⟨o,es,ep,ho,r⟩:=hm
  exact ⟨o,es,ep,k _ o (cF lD) ho,r⟩
 ·by_cases hb:b=D
  ·subst hb
   rw [j6] at e;cases e
   exact new
  ·rw [j7 hb] at e
   refine (I'.hok b u e).stay (λc v hc q=>k c v ?_ q) (λ_ q=>getF q) λ_ _ q=>getF q
   rcases hc with z | z
   ·rw [z];exact hb
   ·exact nit c _ z
end
end L2
end
section
namespace L2
open PySem.W
noncomputable def GY (H:Hp) (ks:List V) (keyf:Nat->List Int) (j:Nat):Prop:=ks.length=j/\∀i,i<j->∃q,ks[i]? = some (V.ref q)/\H q=some (.tup ((keyf i).map V.int))
theorem Xu {a b:List aj}(h:a.length=b.length):(a.toArray.zip b.toArray).map (·.2)=b.toArray:=by
 apply Array.toList_inj.mp
 rw [rn,ksk_zip]
 show (a.zip b).map AO=b
 rw [rp]
 omega
section
variable {X:Cx}{pins:List (Addr×Obj)}{σ:St}{H:Hp}{s:Shared}
theorem Xz {keyf:Nat->List Int}{Q:aj->Shared->Prop}(I:Inv X pins σ H s) (hq:SqL X.K H p vs) (h64:vs.length<64) (hne:∀i,i<vs.length->keyf i≠[])
  (hcall:∀i v,vs[i]? = some v->∀pins' s' H' u,Inv X pins' σ H' s'->jj H H'->jF v u->ax (aE X.prog X.w) X.A.in1.in1 (call (.ref f) [u]) (EP X pins' σ λkv H''=>jj H' H''/\∃q,kv = .ref q/\H'' q=some (.tup ((keyf i).map V.int))) (λ_ _=>False) s')
  (k:∀l H' out s',Inv X pins σ H' s'->H l=none->H' l=some (.lst out)->jj H H'->uv wW keyf vs out->Q (.ref l) s') :
  ax (aE X.prog X.w) X.A (call (.builtin "sorted") [.ref p] [(ak "key",.ref f)]) Q E s:=by
 obtain ⟨its,rv,pl,hz⟩:=I.list hq
 have hlen:its.length=vs.length:=rv.length.symm
 refine call_function_entry_kw si pN pO (ksk_s1 _ _) ?_
 unfold eR.«sorted»
 refine aa (m:=sZ "sorted" 1 1 _) (wpAny_pure ?_)
 refine aa (collect_list pl.isList ?_ (by rw [bE];omega))
 refine aa (fB ?_ (by rw [bE];omega))
 have hsz:((s.heap.push (bA "list" #[] 0)).update s.heap.objs.size (b9 (· ++ its.toArray))).objs.size=s.heap.objs.size+1:=by
  rw [dP,oV]
 have ho:(((s.heap.push (bA "list" #[] 0)).update s.heap.objs.size (b9 (· ++ its.toArray))).push (bA "list" its.toArray 0)).get? (s.heap.objs.size+1)=some (bA "list" its.toArray 0):=by
  rw [<- hsz];exact ay _ rfl
 have keep:∀b o,s.heap.get? b=some o->(((s.heap.push (bA "list" #[] 0)).update s.heap.objs.size (b9 (· ++ its.toArray))).push (bA "list" its.toArray 0)).get? b=some o:=λb o q=>by
  have hlt:b<s.heap.objs.size:=aw q
  rw [cQ _ _ _ (by rw [hsz];exact aC (cg hlt)),c9 _ _ _ _ (aC hlt),cQ _ _ _ (aC hlt)]
  exact q
 show ax _ _ _ _ _ { s with heap:=((s.heap.push (bA "list" #[] 0)).update s.heap.objs.size (b9 (· ++ its.toArray))).push (bA "list" its.toArray 0) }
 rw [hsz]
 refine aa (bw (wpAny_call_entry_kw nH ⟨_,ho,rfl⟩ mJ ?body (ksk_l1 _ _)))
 case body =>
  generalize ((s.heap.push (bA "list" #[] 0)).update s.heap.objs.size (b9 (· ++ its.toArray))).push (bA "list" its.toArray 0)=h0 at ho keep
  generalize ha:s.heap.objs.size+1=a at ho
  have hDs:s.heap.objs.size<=a:=by rw [<- ha];exact fL _
  have aNew:∀b o,s.heap.get? b=some o->b≠a:=λb o q=>by have:=aw q;rw [<- ha];exact aC (cg this)
  show ax (aE X.prog X.w) X.A.in1.in1 (eR.«list.sort» ⟨[.ref a],[(ak "key",.ref f)]⟩) _ _ { s with heap:=h0 }
  rw [ksk_t1]
  unfold ksk_tree
  have hal:a<h0.objs.size:=aw ho
  refine aa (mB ho rfl ?_)
  refine aa (cZ ho rfl ?_ (by rw [av,bE];omega) (aJ _))
  obtain ⟨e1,ho1⟩:∃e1,(h0.update a (b9 λ_=>(#[]:Array aj))).get? a=some (bA "list" #[] e1):=⟨_,eG ho (λ_=>#[])⟩
  refine aa (eY ho1 rfl ?_)
  refine aa (ly ?_ (by show its.length<=_;rw [bE];omega))
  refine aa (fB ?_ (aJ _))
  refine bw ?_
  have ho5:((h0.update a (b9 λ_=>(#[]:Array aj))).push (bA "tuple" its.toArray 0)).get? a=some (bA "list" #[] e1):=ai _ ho1
  have keep5:∀b o,s.heap.get? b=some o->((h0.update a (b9 λ_=>(#[]:Array aj))).push (bA "tuple" its.toArray 0)).get? b=some o:=λb o q =>
   ai _ ((c9 _ _ _ _ (aNew b o q)).trans (keep b o q))
  show ax (aE X.prog X.w) X.A.in1.in1 (ksk_rest a (.ref f) false its.toArray e1 (.ref ((h0.update a (b9 λ_=>(#[]:Array aj))).push (bA "tuple" its.toArray 0)).objs.size)) _ _
   { s with heap:=((h0.update a (b9 λ_=>(#[]:Array aj))).push (bA "tuple" its.toArray 0)).push (bA "list" #[] 0) }
  generalize (h0.update a (b9 λ_=>(#[]:Array aj))).push (bA "tuple" its.toArray 0)=h5 at ho5 keep5
  have I5:Inv X pins σ H { s with heap:=h5,toks:=s.toks }:=I.kept keep5
  have hHa:H a=none:=I.hok.fresh hDs
  have hHk:H h5.objs.size=none:=I5.hok.fresh (ar _)
  have hLoc:a≠X.env.locals:=λz=>by
   obtain ⟨m,⟨o,es,ep,e,_⟩,_⟩:=I.loc
   exact aNew _ _ e z.symm
  have hFs:a∉X.fs:=I.nofs hDs
  have hCell:∀x c,X.env.cells.lookup x=some c->c≠a:=λx c e=>by
   obtain ⟨v,o,e2,_⟩:=I.cell x c e
   exact aNew c o e2
  have hPins:∀q∈X.pn++pins,q.1≠a:=λq hq=>aNew _ _ (I.pin q hq).1
  have I6:Inv X ((a,bA "list" #[] e1)::pins) σ (upd H h5.objs.size (.lst [])) { s with heap:=h5.push (bA "list" #[] 0),toks:=s.toks }:=by
   refine Inv.pins_of (I5.lnew (its:=[]) (ys:=[]) .nil (aJ _)) λq hq=>?_
   rcases List.mem_cons.mp hq with rfl | hq
   ·refine ⟨ai _ ho5,?_,hLoc,hFs,λv=>by intro z;cases z⟩
    rw [j7 (aC (aw ho5))]
    exact hHa
   ·have J:=(I5.lnew (its:=[]) (ys:=[]) (t':=s.toks) .nil (aJ _)).pin q (aD _ hq)
    exact J
  unfold ksk_rest
  refine aa (eB ?_)
  first
   | rw [List.forIn_toArray]
   | (rw [<- oW];simp only [List.toList_toArray])
   | rw [<- oW]
  refine aa (ksk_fold (λj s'=>∃H' ks,Inv X ((a,bA "list" #[] e1)::pins) σ H' s'/\jj H H'/\H' h5.objs.size=some (.lst ks)/\GY H' ks keyf j) its 0 _
   ⟨_,[],I6,jj.new hHk,j6,rfl,λi hi=>absurd hi (sv _)⟩ (λj x s' hx hJ=>?_) λs' hJ=>?_)
  ·-- a key
   rw [mC] at hJ ⊢
   obtain ⟨H',ks,J,sm,hk,hl,hks⟩:=hJ
   have hj:j<its.length:=(List.getElem?_eq_some_iff.mp hx).1
   have hv:vs[j]? = some (vs[j]'∅):=af ∅
   obtain ⟨u,e5,ru⟩:=rv.get hv
   rw [hx] at e5
   cases e5
   refine aa (eM (aZ (hcall j _ hv _ s' H' x J sm ru) (λkv s'' hk2=>?_) λ_ _ hF=>hF.elim))
   obtain ⟨kv',H'',J2,rk,sm2,q,rfl,hqq⟩:=hk2
   dsimp only
   have hk':=sm2 _ _ hk
   obtain ⟨z,itk,n,rvk,hlk,ek⟩:=J2.lstM hk'
   refine aa (cZ ek rfl ?_ (by rw [av,<- hlk,hl,bE];omega) (aH (pj (Array.size_push ..)) (by rw [av,<- hlk,hl,bE];omega)))
   refine wpAny_pure ⟨rfl,_,ks++[.ref q],J2.lset (t':=s''.toks) (its':=itk++[kv]) hk' ek (by simp) (rvk.append (.cons rk .nil)) (by rw [aq,ba,hl];exact aH (by omega:j+1<=1000) ⋯),λb o e=>?_,j6,?_,λi hi=>?_⟩
   ·rw [j7 (j1 e hHk)]
    exact sm2 _ _ (sm _ _ e)
   ·rw [aq,ba,hl]
   ·by_cases hij:i<j
    ·obtain ⟨q',e6,e7⟩:=hks i hij
     refine ⟨q',by rw [cV ∅];exact e6,?_⟩
     have e8:=sm2 _ _ e7
     rw [j7 (jn e8 hk' (by intro z;cases z))]
     exact e8
    ·have:i=j:=∅
     subst this
     refine ⟨q,by rw [cO ∅,hl];simp,?_⟩
     rw [j7 (jn hqq hk' (by intro z;cases z))]
     exact hqq
  ·-- behind the keys
   rw [mC] at hJ
   obtain ⟨H',ks,J,sm,hk,hl,hks⟩:=hJ
   obtain ⟨z,itk,n,rvk,hlk,ek⟩:=J.lstM hk
   have hlk':itk.length=its.length:=∅
   refine aa (mB ek rfl ?_)
   obtain ⟨eD,nD,_⟩:=J.pin (a,bA "list" #[] e1) (aD _ aB)
   have hak:a≠h5.objs.size:=λz=>by rw [z,hk] at nD;cases nD
   have keyAt:∀i,i<its.length->∃q itq o m,itk.getD i aU = .ref q/\s'.heap.get? q=some o/\o.cls = .type "tuple" /\ o.data = .seq itq.toArray m/\dh itq (keyf i):=λi hi=>by
    obtain ⟨q,e6,e7⟩:=hks i hi
    obtain ⟨u,e8,ru⟩:=rvk.get e6
    cases ru
    obtain ⟨zz,itq,rq,o,e9,ec,m,ed⟩:=J.hok q _ e7
    exact ⟨q,itq,o,m,by rw [ao,e8];rfl,e9,ec,ed,zw rq⟩
   have fin:∀(ix:List Nat) (st':SortSt),ix.Perm (aI its.length)->(ix.map keyf).Pairwise wW.kle->t8 st'=none->(arrOf st').map (·.2)=(ix.map λi=>its.getD i aU).toArray ->
     ax (aE X.prog X.w) X.A.in1.in1 (ksk_tail a false e1 (.ref h5.objs.size) st') (λfin s'=>∃v,fin = .done (.ret v)/\ax (aE X.prog X.w) X.A.in1 (do let _ <- pure v;ret (aV a)) (λfin s'=>∃v,fin = .done (.ret v)/\Q v s') E s') E s':=by
    intro ix st' hp hg hf hout
    unfold ksk_tail
    dsimp only
    rw [hout]
    have hol:(ix.map λi=>its.getD i aU).length<64:=by rw [ah,hp.length_eq,bp];omega
    refine aa (cZ ek rfl ?_ (by rw [av,hlk',bE];omega) (aJ _))
    refine aa (nJ ?_)
    have J2:Inv X ((a,bA "list" #[] e1)::pins) σ (upd H' h5.objs.size (.lst [])) { s' with heap:=s'.heap.update h5.objs.size (b9 λ_=>(#[]:Array aj)),toks:=s'.toks }:=J.lset (its':=[]) (ys:=[]) hk ek rfl .nil (aJ _)
    have eD2:(s'.heap.update h5.objs.size (b9 λ_=>(#[]:Array aj))).get? a=some (bA "list" #[] e1):=(c9 _ _ _ _ hak).trans eD
    refine aa (eY eD2 rfl ?_)
    refine aa (cZ eD2 rfl ?_ (aJ _) (by simp only [cp,if_false];rw [av,bE];omega))
    rw [hf]
    simp only [bne_self_eq_false,cp,if_false]
    refine wpAny_pure ⟨_,rfl,aa (wpAny_pure (wpAny_pure ⟨_,rfl,?_⟩))⟩
    have eo:∃n,((s'.heap.update h5.objs.size (b9 λ_=>(#[]:Array aj))).update a (b9 λ_=>(ix.map λi=>its.getD i aU).toArray)).get? a=some (bA "list" (ix.map λi=>its.getD i aU).toArray n):=⟨_,eG eD2 λ_=>_⟩
    obtain ⟨n',eo⟩:=eo
    have J3:=J2.adopt (o:=.lst (ix.map λi=>vs.getD i V.non)) (t':=s'.toks) (aH I.sz hDs) hCell hPins
     (h':=(s'.heap.update h5.objs.size (b9 λ_=>(#[]:Array aj))).update a (b9 λ_=>(ix.map λi=>its.getD i aU).toArray)) (λb u n e=>(c9 _ _ _ _ n).trans e) ⟨by rw [ah,hp.length_eq,bp];exact aH (by omega:its.length<=1000) ⋯,_,n',wc rv ix,eo⟩
    refine k a _ _ _ J3 hHa j6 (λb o e=>?_) ⟨ix,by rw [<- hlen];exact hp,rfl,hg⟩
    rw [j7 (j1 e hHa),j7 (j1 e hHk)]
    exact sm _ _ e
   unfold ksk_end
   dsimp only
   simp only [cp,if_false]
   by_cases h2:its.toArray.size<2
   ·rw [if_pos h2,if_pos h2]
    refine aa (wpAny_pure ?_)
    rw [mK]
    refine aa (wpAny_pure ?_)
    dsimp only
    rw [av] at h2
    refine fin (aI its.length) _ (nI _) ?_ rfl ?_
    ·have hcase:its.length=0\/its.length=1:=∅
     rcases hcase with z | z
     ·rw [z];exact fY
     ·rw [z];exact dQ _ _
    ·rw [ui]
     exact Xu hlk'
   ·rw [if_neg h2,if_neg h2]
    rw [av] at h2
    have tups:∃fs,KatTups s'.heap itk fs/\0<fs.length/\∀v∈fs,Looks (aE X.prog X.w) s'.heap (oQ v) (.type "int"):=by
     have go:∀(l:List aj),(∀i,i<l.length->∃q itq o m ns,l.getD i aU = .ref q/\s'.heap.get? q=some o/\o.cls = .type "tuple" /\ o.data = .seq (pQ itq) m/\dh itq ns/\ns≠[]) ->
       ∃fs,KatTups s'.heap l fs/\fs.length=l.length/\∀v∈fs,Looks (aE X.prog X.w) s'.heap (oQ v) (.type "int"):=by
      intro l
      induction l with
      | nil=>intro _;exact ⟨[],.nil,rfl,λ_ h=>nomatch h⟩
      | cons v l ih =>
       intro h
       obtain ⟨fs,t,e,lk⟩:=ih λi hi=>h (i+1) (by rw [bh];omega)
       obtain ⟨q,itq,o,m,ns,e1,e2,e3,e4,e5,e6⟩:=h 0 (by rw [bh];omega)
       have e1':v = .ref q:=e1
       subst e1'
       cases e5 with
       | nil=>exact absurd rfl e6
       | cons n t' r =>
        refine ⟨.int n t'::fs,KatTups.cons e2 e3 e4 (by simp) t,by rw [bh,bh,e],λv hv=>?_⟩
        rcases List.mem_cons.mp hv with rfl | hv
        ·exact tN rfl
        ·exact lk v hv
     obtain ⟨fs,t,e,lk⟩:=go itk λi hi=>by
      obtain ⟨q,itq,o,m,a1,a2,a3,a4,a5⟩:=keyAt i ∅
      exact ⟨q,itq,o,m,keyf i,a1,a2,a3,a4,a5,hne i ∅⟩
     exact ⟨fs,t,∅,lk⟩
    obtain ⟨fs,t,hfs,lk⟩:=tups
    refine aa (kat_kind (T:=.type "int") t hfs lk rfl ?_)
    rw [show (il "int" != il "tuple")=true from rfl]
    refine aa (aZ (kat_run (ks:=itk) (vs:=its) (κ:=tuples' true) (G:=λp s2=>(qt its.length p/\(p.toList.map keyf).Pairwise wW.kle)/\s2=s') (Q:=λst' s2=>∃p:Array Nat,arrOf st'=p.map (AR (itk.toArray.zip its.toArray))/\t8 st'=none/\(qt its.length p/\(p.toList.map keyf).Pairwise wW.kle)/\s2=s')
     hlk' ∅ ∅ (λp st' s' a1 a2 a3 a4=>⟨p,a2,a3,a4⟩) (xa.wp (lt:=ltK wW keyf) (n:=its.length) (I:=λs2=>s2=s') (λi j C s2 hi hj hI hC=>?_) (λp s2 hp hI=>⟨hp,hI⟩) (Jb ∅ λp' hP hS=>⟨hP,hS.pairwise hP.size⟩) rfl)) ?_ λ_ _ e=>e)
    ·subst hI
     obtain ⟨q,itq,o,m,a1,a2,a3,a4,a5⟩:=keyAt i hi
     obtain ⟨q',itq',o',m',b1,b2,b3,b4,b5⟩:=keyAt j hj
     unfold kas_ask
     rw [a1,b1]
     exact Zy a2 a4 b2 b4 a5 b5 (hC _ rfl)
    ·rintro ⟨⟨⟩,st'⟩ s2 ⟨p,har,hf,⟨hP,hG⟩,rfl⟩
     dsimp only
     exact fin p.toList st' (by have:=Array.perm_iff_toList_perm.mp hP;simpa using this) hG hf (AS hlk' har)
end
end L2
end
section
namespace L2
open PySem.W
section
variable {prog:Program}{w:bx}{A:bz}{E:aj->Shared->Prop}{s:Shared}
theorem ZK (n:Nat):cu none none (-1) (n:Int)=((n:Int)-1,-1):=by
 unfold cu
 simp
theorem Zu (n:Nat):bO ((n:Int)-1) (-1) (-1)=n:=by
 unfold bO
 have h1:¬((-1:Int) > 0):=⋯
 simp only [h1,if_false]
 by_cases h:n=0
 ·subst h;simp
 ·rw [show (- -1:Int)=1 by decide]
  simp only [Int.ediv_one]
  split <;> omega
theorem wm {n:Nat}{Q:Int×Int×Nat->Shared->Prop}(hs:s.heap.IsSliceOf sl .none .none v3) (pk:lp v3 (some (-1)))
  (h:Q ((n:Int)-1,-1,n) s):ax (aE prog w) A (dq (.ref sl) (pure (n:Int))) Q E s:=by
 obtain ⟨os,hos,hcs,hds⟩:=id hs
 unfold dq lE
 refine aa (aa (bB hos hds (x:=.none) rfl (aa (bB hos hds (x:=.none) rfl (aa (bB hos hds (x:=v3) rfl (wpAny_pure ?_)))))))
 refine aa (HT.slicePart_ pk ?_)
 show ax _ _ (if ((-1:Int) == 0)=true then _ else _) _ _ s
 rw [if_neg ⋯]
 refine aa (HT.slicePart_ .none (aa (HT.slicePart_ .none (aa (wpAny_pure ?_)))))
 show ax _ _ (match cu none none (-1) (n:Int) with | (lo,hi)=>pure (lo,(-1:Int),bO lo hi (-1))) _ _ s
 rw [ZK n]
 show ax _ _ (pure ((n:Int)-1,(-1:Int),bO ((n:Int)-1) (-1) (-1))) _ _ s
 rw [Zu]
 exact wpAny_pure h
theorem U4 (xs:Array aj):((aI xs.size).filterMap λ(m:Nat)=>xs[(((xs.size:Int)-1)+(m:Int) * -1).toNat]?).toArray=xs.toList.reverse.toArray:=by
 have e:((aI xs.size).filterMap λ(m:Nat)=>xs[(((xs.size:Int)-1)+(m:Int) * -1).toNat]?)=((aI xs.size).map λk=>xs.size-1-k).filterMap (xs[·]?):=by
  rw [oN]
  congr 1
  funext m
  show xs[(((xs.size:Int)-1)+(m:Int) * -1).toNat]? = xs[xs.size-1-m]?
  congr 1
  omega
 rw [e,krv_range,List.filterMap_reverse,krv_all]
theorem uH {t:Addr}{Q:aj->Shared->Prop}(ht:rS s.heap t items) (hs:s.heap.IsSliceOf sl .none .none v3) (pk:lp v3 (some (-1)))
  (h:Q (.ref s.heap.objs.size) { s with heap:=s.heap.push { cls:=.type "tuple",data:=.seq items.toList.reverse.toArray } }) (hsz:items.size<=sizeLine):ax (aE prog w) A (fV (.ref t) (.ref sl)) Q E s:=by
 have htake:sizeOk (.seq items.toList.reverse.toArray):=by
  show items.toList.reverse.toArray.size<=sizeLine
  rw [av,fk,cw]
  exact hsz
 obtain ⟨os,hos,hcs,hds⟩:=id hs
 have hTs:s.TypeIs (.ref sl) "slice":=⟨os,hos,hcs⟩
 unfold fV
 try with_reducible refine bw ?_
 first | refine aa (wpAny_pure ?_) | skip
 refine aa (lM ht.typeIs ⋯ ?_)
 refine aa (bN (name:=ak "__getitem__") ht.typeIs bW
  (c7 bW ht.typeIs iT ?_ (lu _ _)))
 show ax _ _ (eW (.ref t) >>= _) _ _ s
 refine aa (oz ht ?_)
 refine aa (fW hTs ?_)
 rw [if_pos ⋯]
 refine aa (wm hs pk ?_)
 show ax _ _ (if (((items.size:Int)-1) == 0 && (-1:Int) == 1 && items.size == items.size)=true then _ else _) _ _ s
 rw [if_neg (by simp),U4]
 first
  | exact aa (m:=bU _) (bC (wpAny_pure ⟨_,rfl,wpAny_pure h⟩) htake)
  | exact aa (m:=bU _) (bC (aa (wpAny_pure (wpAny_pure ⟨_,rfl,wpAny_pure h⟩))) htake)
  | exact aa (aa (m:=bU _) (bC (wpAny_pure (wpAny_pure ⟨_,rfl,wpAny_pure h⟩)) htake))
  | exact aa (aa (m:=bU _) (bC (wpAny_pure ⟨_,rfl,wpAny_pure h⟩) htake))
end
section
variable {X:Cx}{e:Expr}{te:TE}{pos p2 p3 p4:Pos}{j3:Nat}
noncomputable def AG (K:ag) (te:TE):TE:=λσ H Q=>te σ H λx H2=>∃a xs,x = .ref a/\SqT K H2 a xs/\New H2 (.tup xs.reverse) Q
noncomputable def Ah (K:ag) (te:TE):TE:=λσ H Q=>te σ H λx H2=>∃a xs,x = .ref a/\SqL K H2 a xs/\New H2 (.lst xs.reverse) Q
theorem WM (K:ag) (he:PE X e te) (hK:X.K=K:=by rfl):PE X (.Subscript e (.Slice none none (some (.UnaryOp .USub (.Constant (.int 1) j3 p3) p4)) p2) pos) (AG K te):=by
 subst hK
 intro pins s σ H Q I h
 refine mw (thn (he pins s σ H _ I h) λv s1 ⟨x,H1,I1,r1,q1⟩=>?_)
 refine rZ ?_
 rw [lT]
 refine wpAny_pure ?_
 refine wpAny_pure ?_
 rw [oA]
 obtain ⟨a,xs,rfl,hx,q⟩:=q1
 refine thn (vP y7 j5 pins s1 σ H1 (λy H2=>y = .int (-1)/\H2=H1) I1 ⟨_,rfl,rfl,rfl⟩) λu s3 ⟨y,H3,I3,ry,ey,eH⟩=>?_
 subst ey eH
 obtain ⟨tk,rfl⟩:=ry
 cases r1
 have I4:Inv X pins σ H3 { s3 with heap:=s3.heap.push { cls:=.type "slice",data:=.fields #[.none,.none,.int (-1) tk] } }:=I3.kept (t':=s3.toks) λb ob q=>ai _ q
 obtain ⟨its,r,ht,hz⟩:=I4.tuple hx
 have hlen:its.toArray.size=xs.length:=by rw [av];exact r.length.symm
 show ax (aE X.prog X.w) X.A (iA e (.Slice none none (some (.UnaryOp .USub (.Constant (.int 1) j3 p3) p4)) p2) (.ref a) (.ref s3.heap.objs.size)) (EP X pins σ Q) X.xe { s3 with heap:=s3.heap.push { cls:=.type "slice",data:=.fields #[.none,.none,.int (-1) tk] } }
 refine AM (ops:=[.ref a,.ref s3.heap.objs.size]) ht.typeIs PyProof.Rows.slot_tuple_getitem.lookup ?_ (by with_unfolding_all rfl)
 refine uH ht (lx ..) (.int _ _) ?_ (by rw [hlen];exact hz)
 have hf:=I4.hok.fresh (ar _)
 refine ⟨.ref _,_,I4.laid (t':=s3.toks) (o:=.tup xs.reverse) (λb ob q=>ai _ q) (ar _) ?_,rfl,q.at _ hf⟩
 exact ⟨by rw [fk];exact hz,_,r.reverse,rj _ _⟩
theorem G7 (K:ag) (he:PE X e te) (hK:X.K=K:=by rfl):PE X (.Subscript e (.Slice none none (some (.UnaryOp .USub (.Constant (.int 1) j3 p3) p4)) p2) pos) (Ah K te):=by
 subst hK
 intro pins s σ H Q I h
 refine mw (thn (he pins s σ H _ I h) λv s1 ⟨x,H1,I1,r1,q1⟩=>?_)
 refine rZ ?_
 rw [lT]
 refine wpAny_pure ?_
 refine wpAny_pure ?_
 rw [oA]
 obtain ⟨a,xs,rfl,hx,q⟩:=q1
 refine thn (vP y7 j5 pins s1 σ H1 (λy H2=>y = .int (-1)/\H2=H1) I1 ⟨_,rfl,rfl,rfl⟩) λu s3 ⟨y,H3,I3,ry,ey,eH⟩=>?_
 subst ey eH
 obtain ⟨tk,rfl⟩:=ry
 cases r1
 have I4:Inv X pins σ H3 { s3 with heap:=s3.heap.push { cls:=.type "slice",data:=.fields #[.none,.none,.int (-1) tk] } }:=I3.kept (t':=s3.toks) λb ob q=>ai _ q
 obtain ⟨its,r,ht,hz⟩:=I4.list hx
 have hlen:its.length=xs.length:=r.length.symm
 show ax (aE X.prog X.w) X.A (iA e (.Slice none none (some (.UnaryOp .USub (.Constant (.int 1) j3 p3) p4)) p2) (.ref a) (.ref s3.heap.objs.size)) (EP X pins σ Q) X.xe { s3 with heap:=s3.heap.push { cls:=.type "slice",data:=.fields #[.none,.none,.int (-1) tk] } }
 refine AM (ops:=[.ref a,.ref s3.heap.objs.size]) ht.isList.typeIs slot_list_getitem.lookup ?_ (by with_unfolding_all rfl)
 refine lU ht.isList (lx ..) .none .none (.int _ _) ⋯ ?_ (by rw [av];omega)
 rw [krv_pick]
 have hf:=I4.hok.fresh (ar _)
 refine ⟨.ref _,_,I4.laid (t':=s3.toks) (o:=.lst xs.reverse) (λb ob q=>ai _ q) (ar _) ?_,rfl,q.at _ hf⟩
 exact ⟨by rw [fk];exact hz,_,0,r.reverse,ay _ rfl⟩
end
theorem SqL.extT {K:ag}{H:Hp}{xs:List V}(hp:H Pt=some (.tbl ps)) (x:Ext Pt H H') (h:SqL K H a xs):SqL K H' a xs:=by
 rcases h with (h | ⟨o,h⟩) | h
 ·exact .inl (.inl (x _ _ h (jn h hp (by intro z;cases z))))
 ·exact .inl (.inr ⟨o,x _ _ h (jn h hp (by intro z;cases z))⟩)
 ·exact .inr h
section
variable {X:Cx}{e body:Expr}{ta:TA}{tb:TE}{params:Arguments}{scope:Scope}{lpos kpos p pos:Pos}{N:List Str}{x:Str}{c Pt:Addr}{k:Nat}
noncomputable def EU (K:ag) (Pt:Addr) (lpos:Pos) (qual:Str) (N:List Str) (ta:TA) (tb:TE):TE:=λσ H Q=>ta σ H λxs H1=>Tab H1 Pt lpos qual/\∃(p:Addr) (vs:List V) (keyf:Nat->List Int),xs=[.ref p]/\SqL K H1 p vs/\vs.length<64/\(∀i,i<vs.length->keyf i≠[]) /\
 (∀H2,Ext Pt H1 H2->∀i v,vs[i]? = some v->tb (start N [v]) H2 λkv H3=>jj H2 H3/\∃q,kv = .ref q/\H3 q=some (.tup ((keyf i).map V.int))) /\
 ∀l H2 out,H1 l=none->H2 l=some (.lst out)->Ext Pt H1 H2->Tab H2 Pt lpos qual->uv wW keyf vs out->Q (.ref l) H2
theorem Za (hg:Gl X "sorted") (hm:X.mg "sorted" = none) (ha:PA X [e] ta) (hcode:X.env.code = .ref c) (CH:CodeHd X.base c Pt) (hB:Bm X.mg X.base) (hr:Room (k+3) X.A) (S:FnScope N [x] scope)
  (hb:∀pm c ctv u,cH (uw (X.env.qual ++ "<lambda>") params body scope pm c ctv) ⟨[u],[]⟩=pure [(x,u)])
  (hbody:∀f c' s H,PE (vJ CX0 X.prog X.w X.K X.mg X.base N (X.env.qual ++ "<lambda>") scope f (.ref c') X.A.in1.in1 X.stack s H E0).nox body tb)
  (hcl:oR scope X.env=pure []:=by rfl) (hdef:defaultsOf params X.env=([],[]):=by rfl)
  (he:cM pos (aP [e] X.env)=(false,eval e X.env)::cM pos (aP [] X.env):=by rfl) (hplain:(cM pos (aP [e] X.env)).any (·.1)=false:=by rfl) :
  PE X (.Call (.Name "sorted" p) [e] [⟨some (ak "key"),.Lambda params body scope lpos,kpos⟩] pos) (EU X.K Pt lpos (X.env.qual ++ "<lambda>") N ta tb):=by
 intro pins s σ H Q I h
 refine cX (yN I hg hm sj ?_ ⋯ ⋯)
 refine callWith_kw (thn (ha pos pins s σ H _ I h) λus s1 ⟨vs,H1,I1,r,q⟩=>?_) he hplain
 show ax _ _ (evalAll ((do let v <- eval (.Lambda params body scope lpos) X.env;ff pos;pure v)::[])) _ _ s1
 obtain ⟨T,a,xs,keyf,e1,hx,h64,hne,hkey,hq⟩:=q
 subst e1
 obtain ⟨u0,rfl,ru⟩:=vQ r
 cases ru
 obtain ⟨ps0,hPt⟩:=T.ne
 refine wpAny_evalAll_cons (aa (U9 I1 hcode CH hB hcl hdef T λf H2 s2 pm c' ctv I2 hf hf2 hc2 X2 T2=>aa (cY (wpAny_pure (wpAny_evalAll_nil ?_)))))
 show ax _ _ (call (.builtin "sorted") [.ref a] [(ak "key",.ref f)]) _ _ s2
 refine Xz I2 (SqL.extT hPt X2 hx) h64 hne (λi v hv pins' s' H' u I' sm ru=>?_) λl H3 out s' I3 hl hl3 sm hs=>?_
 ·have X3:Ext Pt H1 H':=X2.trans (Ext.of_same sm)
  obtain ⟨ho,_⟩:=I'.hok f _ (sm _ _ hf2)
  obtain ⟨hcd,_⟩:=I'.hok c' _ (sm _ _ hc2)
  refine fF (dg (WL (k:=k) ho hcd S (hr.in1.in1) I'.env0.in1.in1 hb ru (hbody f c' s' H') (hkey H' X3 i v hv)) λr s'' hq=>?_)
  cases r with
  | error e=>exact bt hq
  | ok fl =>
   cases fl with
   | ret u=>exact I'.after hq
   | next=>exact bt hq
   | brk=>exact bt hq
   | cont=>exact bt hq
 ·exact ⟨.ref l,H3,I3,rfl,hq l H3 out (X2.free hl (λz=>by rw [z] at hl;obtain ⟨p2,z2⟩:=T2.ne;rw [z2] at hl;cases hl)) hl3 (X2.trans (Ext.of_same sm)) (T2.same sm) hs⟩
end
end L2
end
section
namespace L2
open PySem.W
theorem V2 {P:Program}{w:bx}{K:ag}{k:Nat}{fa a Pt:Addr}{x:Str}{s₁:Shared}{vs:List aj}
  (KX:K.In s₁.heap) (hns:s₁.heap.Ns mainGlobals mg) (hb:s₁.heap.Ns mq mb) (hbb:∀x:Str,x ≠ "__name__" -> mb x=fe x) (hlim:s₁.heap.NoLimit) (hg:s₁.gens = #[])
  (ha:s₁.heap.get? a=some { cls:=.type "list",data:=.seq vs.toArray }) (hi:dh vs ns) (hl:ns.length<=sizeLine) (hr:Room k og)
  (hPt:s₁.heap.get? Pt=some (sM #[])) (hKP:K.lookup Pt=none) (CH:CodeHd s₁.heap c Pt) (hB:Bm mg s₁.heap)
  (F:∀base:Heap,K.In base->base.Ns mainGlobals mg->Bm mg base->FnOk P w K mg base CX0 k fa fd [x] sp) (hbind:∀(s:Shared) (u:aj),pG s fd ⟨[u],[]⟩ [(x,u)])
  (hsp:∀H:Hp,SqL K H a (ns.map V.int)->H Pt=some (.tbl #[])->sp [.ref a] H (λv _=>v = .bl true) λ_ _ _=>False) :
  cU (aE P w) og (.call (.ref fa) ⟨[.ref a],[]⟩) (λr s'=>r = .ok (.ret (.bool true))/\OldK s₁.heap s'.heap/\s'.os=s₁.os/\iz s'.gens) s₁:=by
 have rv:=wb hi
 have lenV:=hi.length
 have core:∀H:Hp,H Pt=some (.tbl #[])->(∀b,b≠Pt->H b=none\/∃o xs,H b=some (.frz o (.lst xs)))->SqL K H a (ns.map V.int)->HOk P w H s₁.heap->(∀b,H b≠none->b=a\/b=Pt)->(H a≠none->K.lookup a=none) ->
   cU (aE P w) og (.call (.ref fa) ⟨[.ref a],[]⟩) (λr s'=>r = .ok (.ret (.bool true))/\OldK s₁.heap s'.heap/\s'.os=s₁.os/\iz s'.gens) s₁:=by
  intro H hP hO hS hok hA hK
  have base_of:∀{b:Addr} {o:Obj},s₁.heap.get? b=some o->H b=none->(Ji s₁.heap H).get? b=some o:=λe n=>UJ e n
  have noA:∀{b:Addr} {o:Obj},s₁.heap.get? b=some o->(∀xs n,o.data≠.seq xs n)->(∀vs,o.data = .fields vs->o.cls≠.none)->H b=none:=λ{b o} e d1 d2=>by
   cases q:H b with
   | none=>rfl
   | some u =>
    rcases hA b (by rw [q];simp) with e' | e'
    ·subst e'
     rw [ha] at e;cases e
     exact absurd rfl (d1 _ _)
    ·subst e'
     rw [hPt] at e;cases e
     exact absurd rfl (d2 _ rfl)
  have noD:∀{b:Addr} {o:Obj} {es:Array DictEntry} {ep:Nat},s₁.heap.get? b=some o->o.data = .dict es ep->H b=none:=λ{b o es ep} e d =>
   noA e (λxs n z=>by rw [d] at z;cases z) (λvs z=>by rw [d] at z;cases z)
  have nsK:∀{b:Addr} {m:Str->Option aj},s₁.heap.Ns b m->(Ji s₁.heap H).Ns b m:=λ{b m} ⟨o,es,ep,e,d,r⟩=>⟨o,es,ep,base_of e (noD e d),d,r⟩
  have hKb:K.In (Ji s₁.heap H):=λb o e=>base_of (KX b o e) (by
   cases q:H b with
   | none=>rfl
   | some u =>
    rcases hA b (by rw [q];simp) with e' | e'
    ·subst e'
     rw [hK (by rw [q];simp)] at e;cases e
    ·subst e'
     rw [hKP] at e;cases e)
  have hBb:Bm mg (Ji s₁.heap H):=by
   obtain ⟨bm,ob,b1,b2,b3,b4,b5,b6⟩:=hB
   exact ⟨bm,ob,b1,b2,base_of b3 (noA b3 (λxs n z=>by rw [b6] at z;cases z) λvs z=>by rw [b6] at z;cases z),b4,b5,b6⟩
  have hM:Mod K mg (Ji s₁.heap H):=⟨hKb,nsK hns,⟨mb,nsK hb,hbb⟩,let ⟨mc,h1,h2⟩:=hlim;⟨mc,nsK h1,h2⟩⟩
  have e0:Env0 P w K mg (Ji s₁.heap H) og [] s₁ H:=⟨rfl,hM,λb o e=>Wu e,pj (YJ _ _),trivial,λb hb=>absurd (show b∈([]:List Addr) from hb) (by simp),hok,.of_eq hg⟩
  refine dg ((F _ hKb (nsK hns) hBb).run og [] s₁ H ⟨[.ref a],[]⟩ [.ref a] [.ref a] _ _ hr e0 (hbind s₁ (.ref a)) (.cons rfl .nil) (hsp H hS hP)) λr s' h=>?_
  cases r with
  | error e=>exact bt h
  | ok fl =>
   cases fl with
   | next=>exact bt h
   | brk=>exact bt h
   | cont=>exact bt h
   | ret u =>
    obtain ⟨v,H',os,bare,un,hok',r',q⟩:=h
    have q':v = .bl true:=q
    subst q'
    obtain rfl:u=mn true:=r'
    have kp:∀b o,b≠Pt->s₁.heap.get? b=some o->s'.heap.get? b=some o:=λb o hb e=>by
     cases q:H b with
     | none=>exact un.keep b o e q (by intro z;exact absurd (show b∈([]:List Addr) from z) (by simp)) (by simp)
     | some u =>
      rcases hO b hb with z | ⟨ob,xs,z⟩
      ·rw [q] at z;cases z
      ·have z2:=un.frzs b ob _ z
       obtain ⟨e1,_⟩:=hok b _ z
       obtain ⟨e2,_⟩:=hok' b _ z2
       rw [e] at e1;cases e1
       exact e2
    obtain ⟨more,hm⟩:=un.tbls Pt _ hP
    have hm':s'.heap.get? Pt=some { cls:=.none,data:=.fields (#[]++more) }:=hok' Pt _ hm
    refine ⟨rfl,⟨λb o e=>?_,λb o e=>?_⟩,os,bare⟩
    ·by_cases hb:b=Pt
     ·subst hb
      rw [hPt] at e;cases e
      exact .inr (.inl ⟨(CH.tab hPt).isCodeTable,rfl,#[],more,rfl,hm'⟩)
     ·exact .inl (kp b o hb e)
    ·by_cases hb:b=Pt
     ·subst hb;exact ⟨_,hm'⟩
     ·exact ⟨o,kp b o hb e⟩
 have haP:a≠Pt:=λz=>by rw [z,hPt] at ha;cases ha
 cases hk:K.lookup a with
 | some o =>
  have e:=KX a o hk
  rw [ha] at e
  cases e
  refine core (λb=>if b=Pt then some (.tbl #[]) else none) (if_pos rfl) (λb hb=>.inl (if_neg hb)) (.inr ⟨_,vs.toArray,_,hk,rfl,rfl,rfl,by rw [av,lenV];exact hl,by simpa using rv⟩) (λb u z=>?_) (λb z=>?_) λz=>absurd (if_neg haP) z
  ·by_cases hb:b=Pt
   ·have z':=(if_pos hb).symm.trans z
    cases z'
    subst hb
    exact hPt
   ·have z':=(if_neg hb).symm.trans z
    cases z'
  ·by_cases hb:b=Pt
   ·exact .inr hb
   ·exact absurd (if_neg hb) z
 | none =>
  refine core (λb=>if b=Pt then some (.tbl #[]) else if b=a then some (.frz { cls:=.type "list",data:=.seq vs.toArray } (.lst (ns.map V.int))) else none) (if_pos rfl) (λb hb=>?_)
   (.inl (.inr ⟨{ cls:=.type "list",data:=.seq vs.toArray },(if_neg haP).trans (if_pos rfl)⟩)) (λb u z=>?_) (λb z=>?_) λ_=>hk
  ·by_cases hb2:b=a
   ·exact .inr ⟨_,_,(if_neg hb).trans (if_pos hb2)⟩
   ·exact .inl ((if_neg hb).trans (if_neg hb2))
  ·by_cases hb:b=Pt
   ·have z':=(if_pos hb).symm.trans z
    cases z'
    subst hb
    exact hPt
   ·by_cases hb2:b=a
    ·have z':=((if_neg hb).trans (if_pos hb2)).symm.trans z
     cases z'
     subst hb2
     exact ⟨ha,by rw [ah];exact hl,vs,_,rv,ha⟩
    ·have z':=((if_neg hb).trans (if_neg hb2)).symm.trans z
     cases z'
  ·by_cases hb:b=Pt
   ·exact .inr hb
   ·by_cases hb2:b=a
    ·exact .inl hb2
    ·exact absurd ((if_neg hb).trans (if_neg hb2)) z
noncomputable def Zv (K:ag) (Pt:Addr):Sp:=λvs H Q _=>∃(a:Addr) (ns:List Int),vs=[.ref a]/\SqL K H a (ns.map V.int)/\ns.length<=63/\H Pt=some (.tbl #[])/\∀H',Q (.bl true) H'
theorem Wm {l:sx}{loose:List Str}{YP:bx->Heap->Prop}{d:DefRec}{K:AW->ag}(k:Nat) (c Pt:Addr) (hr:Room k og) (hn:l.most=some 63) (hdf:d.params.defaults=[])
  (hY:∀(w:bx) (h:Heap),YP w h->(K w.params).In h/\h.get? Pt=some (sM #[])) (hKP:∀p:AW,(K p).lookup Pt=none) (hC:∀p:AW,codeHdIn (K p) c Pt=true)
  (F:∀(w:bx) (mg:Str->Option aj) (fa:Addr) (h:Heap),(K w.params).In h->h.Ns mainGlobals mg->mg d.name=some (.ref fa) ->
   ∃fd:FuncData,(∀(s:Shared) (u:aj),pG s fd ⟨[u],[]⟩ [("_law_script",u)])/\∀base:Heap,(K w.params).In base->base.Ns mainGlobals mg->Bm mg base->FnOk l.prog w (K w.params) mg base CX0 k fa fd ["_law_script"] (Zv (K w.params) Pt)) :
  PySem.W.WalkO q loose XP YP l.row.toRowW d [] (λf vs=>PySem.call f vs):=by
 refine Att.attach_call hn hdf λw s₀ s₁ mg mb fa o pm cd doc a vs ns G Y ho hd hcd hmg hobj hints hlen hg=>?_
 obtain ⟨KX,hT⟩:=hY w _ Y
 obtain ⟨fd,hb,hF⟩:=F w mg fa _ KX G.T.g hmg
 exact V2 (c:=c) KX G.T.g G.T.b G.T.builtins G.T.nolimit hg hobj hints (aH hlen ⋯) hr hT (hKP w.params) (codeHd_of_K KX (hC w.params)) G.T.bmain hF hb λH hS hP=>⟨a,ns,rfl,hS,hlen,hP,λ_=>rfl⟩
theorem Fun.okC {w:bx}{K:ag}{mg:Str->Option aj}{base:Heap}{x:Str}{st:Stmt}{oc:aj}{od:Option Addr}{osl:Array (Option aj)}{kV pm ct:aj}{N:List Str}{k:Nat}{sp:Sp}
  (l:K.lookup f=some ⟨oc,od,.func (bG x qual (jV st) (jM st) (j8 st) .none kV doc pm an (.ref c) ct),osl⟩) (cd:cC K (.ref c) qual=true) (S:FnScope N ps (j8 st)) (len:∀vs H Q E,sp vs H Q E->vs.length=ps.length)
  (hbody:∀(A:bz) (outer:List Env) (s:Shared) (H:Hp) (vs:List V) (Q:VK) (E:XK),Room k (A.deeper (iK qual (j8 st) s.heap.objs.size f (.ref c)))->sp vs H Q E ->
   ∃t,PSs (vJ CX0 P w K mg base N qual (j8 st) f (.ref c) A outer s H E).nox (jM st) t/\t { nx:=λ_ H'=>Q .non H',rt:=Q } (start N vs) H) :
  FnOk P w K mg base CX0 (k+1) f (bG x qual (jV st) (jM st) (j8 st) .none kV doc pm an (.ref c) ct) ps sp:=by
 refine Uj l cd S len λA outer s H vs Q E hr hsp=>?_
 obtain ⟨t,h,q⟩:=hbody A outer s H vs Q E hr hsp
 exact ⟨t,h.nox,q⟩
theorem Cal.mkC {w:bx}{K:ag}{mg:Str->Option aj}{base:Heap}{k:Nat}{x:Str}{ps:List Str}{st:Stmt}{oc:aj}{od an:Option Addr}{osl:Array (Option aj)}{kV doc pm ct:aj}
  (X:K.In h) (G:h.Ns mainGlobals mg) (a:aS K mainGlobals x=some (some (.ref f)))
  (l:K.lookup f=some ⟨oc,od,.func (bG x x (jV st) (jM st) (j8 st) .none kV doc pm an (.ref c) ct),osl⟩) (cd:cC K (.ref c) x=true) (k':bR K (.ref f)=true)
  (hb:∀(kV doc pm:aj) (an:Option Addr) (cdv ct:aj) (us:List aj),us.length=ps.length->cH (bG x x (jV st) (jM st) (j8 st) .none kV doc pm an cdv ct) ⟨us,[]⟩=pure (ps.zip us))
  (ok:FnOk P w K mg base CX0 k f (bG x x (jV st) (jM st) (j8 st) .none kV doc pm an (.ref c) ct) ps sp):Cal P w K mg base k x ps sp:=by
 have F:=vf (st:=st) l cd k'
 exact ⟨f,_,ok,F.binds hb,bj X G a,k'⟩
end L2
end
section
namespace L2
open PySem.W
noncomputable def Ite (K:ag) (a:Addr):It :=
 ⟨λi H=>∃xs x,SqL K H a xs/\xs[i]? = some x,λi H v H'=>∃t x,v = .ref t/\H t=none/\H'=upd H t (.tup [.int i,x])/\∀xs,SqL K H a xs->xs[i]? = some x,λi H=>∃xs,SqL K H a xs/\xs.length<=i⟩
theorem V0 {K:ag}{x1:Nat}{pos:Pos}(a e it:Addr) (hne:e≠it):Turn P w K (.Tuple es x1 pos) (Ite K a) [e,it] e (λi h=>∃old,IsEnum h e it i old/\h.IsListIter it a i) where
 mem:=by simp
 obj:=λi h ⟨old,st1,st2⟩ b hb=>by
  rcases List.mem_cons.mp hb with rfl | hb
  ·exact ⟨_,st1,λv z=>by
    have z':nk _=m7 v:=z
    cases z'⟩
  ·have e:b=it:=by simpa using hb
   subst e
   obtain ⟨o,e,c,d⟩:=st2
   exact ⟨o,e,λv z=>by rw [d] at z;cases z⟩
 keep:=λi h h' ⟨old,st1,st2⟩ k=>⟨old,k e (by simp) _ st1,st2.at λo z=>k it (by simp) o z⟩
 item:=by
  intro X hP hw hK hc i pins s σ H E I hf st hg
  subst hP hw hK
  obtain ⟨old,st1,st2⟩:=st
  obtain ⟨xs,x,hq,hx⟩:=hg
  obtain ⟨its,rv,p,hz⟩:=I.list hq
  obtain ⟨u,hu,ru⟩:=rv.get hx
  obtain ⟨f0,f1,f2,f3,f4,f5⟩:=hf e (by simp)
  obtain ⟨g0,g1,g2,g3,g4,g5⟩:=hf it (by simp)
  have hn:H s.heap.objs.size=none:=I.hok.fresh (ar _)
  refine wpAny_pyNext_enum_item st1 st2 p.isList (x:=u) (by simpa using hu) hne λh' o1 o2 o3 o4 o5=>⟨_,rfl,?_⟩
  refine wpAny_letOwnedTupleGo_enum o1 λh2 q1 sb=>?_
  have hel:e<s.heap.objs.size:=aw st1
  have kk:∀b o,b≠e->b≠it->s.heap.get? b=some o->h2.get? b=some o:=λb o n1 n2 z=>(sb.2 b n1).trans (o5 b o n1 n2 z)
  have et:h2.get? s.heap.objs.size=some { cls:=.type "tuple",data:=.seq #[.int i s.toks,u] }:=(sb.2 _ (cN hel)).trans o3
  have tne:∀b o,H b=some o->b≠e/\b≠it/\b≠s.heap.objs.size:=λb o q=>⟨λz=>(by rw [z,f0] at q;cases q),λz=>(by rw [z,g0] at q;cases q),λz=>(by rw [z,hn] at q;cases q)⟩
  have getF:∀{b:Addr} {o:HO},H b=some o->upd H s.heap.objs.size (.tup [.int i,x]) b=some o:=λ{b o} q=>by rw [j7 (tne b o q).2.2];exact q
  have I1:Inv X pins σ (upd H s.heap.objs.size (.tup [.int i,x])) { s with heap:=h2,toks:=s.toks+1 }:=by
   refine I.step (g':=s.gens) (d':=s.drawn) (ch:=[e,it]) (λb hb=>?_) (λb o _ _ hc z _=>kk b o (λy=>hc (by simp [y])) (λy=>hc (by simp [y])) z) (λb o _ _ hc z _=>⟨o.slots,kk b o (λy=>hc (by simp [y])) (λy=>hc (by simp [y])) z⟩)
    (λb o hc z n=>by rw [j7 (aC (aw z))];exact n) (λb o hc z=>⟨o,kk b o (λy=>hc (by simp [y])) (λy=>hc (by simp [y])) z⟩) (λ_ _ q=>getF q) (λ_ _ _ q=>getF q) (λb ps q=>⟨#[],by rw [getF q];simp⟩) (λm hm=>?_) (λb v q=>?_) I.bare
   ·rcases List.mem_cons.mp hb with rfl | hb
    ·exact ⟨f3,f1,f4,f5⟩
    ·have e:b=it:=by simpa using hb
     subst e
     exact ⟨g3,g1,g4,g5⟩
   ·obtain ⟨o,es,ep,ho,r⟩:=hm
    exact ⟨o,es,ep,kk _ o (cF f1) (cF g1) ho,r⟩
   ·by_cases hb:b=s.heap.objs.size
    ·subst hb
     rw [j6] at q;cases q
     exact ⟨by show 2<=sizeLine;decide,[.int i s.toks,u],.cons ⟨_,rfl⟩ (.cons ru .nil),⟨_,et,rfl,0,rfl⟩⟩
    ·rw [j7 hb] at q
     refine (I.hok b v q).stay (λc o hc z=>kk c o ?_ ?_ z) (λ_ z=>getF z) λ_ _ z=>getF z
     ·rcases hc with z | z
      ·rw [z];exact (tne b v q).1
      ·exact (tne c _ z).1
     ·rcases hc with z | z
      ·rw [z];exact (tne b v q).2.1
      ·exact (tne c _ z).2.1
  have st2':h2.IsListIter it a (i+1):=o2.at λo z=>(sb.2 it (cF hne)).trans z
  refine ⟨.ref s.heap.objs.size,_,I1,rfl,⟨_,x,rfl,hn,rfl,λys hy=>by rw [I.list_inj hy hq];exact hx⟩,⟨u,?_,st2'⟩,λb hb=>?_⟩
  ·have:((i+1:Nat):Int)=(i:Int)+1:=by push_cast;rfl
   rw [this]
   exact q1
  ·rcases List.mem_cons.mp hb with rfl | hb
   ·rw [j7 (aC hel)];exact f0
   ·have e:b=it:=by simpa using hb
    subst e
    obtain ⟨o,z,_⟩:=st2
    rw [j7 (aC (aw z))];exact g0
 done:=by
  intro X hP hw hK hc i pins s σ H E I hf st hg
  subst hP hw hK
  obtain ⟨old,st1,st2⟩:=st
  obtain ⟨xs,hq,hx⟩:=hg
  obtain ⟨its,rv,p,hz⟩:=I.list hq
  obtain ⟨g0,g1,g2,g3,g4,g5⟩:=hf it (by simp)
  have hl:=rv.length
  exact wpAny_pyNext_enum_end (I.ok.hd hc) st1 st2 p.isList (by simp;omega) λh' eb=>⟨rfl,I.turned (t':=s.toks) (λb o hb e=>eb b o hb e) g0 g1 g3 g4 g5⟩
 self:=λ_ _ _ _ _ ⟨old,st1,_⟩ h=>pR st1 h
section
variable {X:Cx}
noncomputable def A8 (K:ag) (ta:TA):TI:=λσ H R=>ta σ H λvs H1=>∃a,vs=[.ref a]/\(∃xs,SqL K H1 a xs)/\R (Ite K a) H1
theorem km {x1:Nat}{l:Expr}{p pos:Pos}(K:ag) (hg:Gl X "enumerate") (hm:X.mg "enumerate" = none) (ha:PA X [l] ta) (hs:aP [l] X.env=[(false,eval l X.env)]:=by rfl) (hK:X.K=K:=by rfl) :
  PI X (.Tuple es x1 tpos) (.Call (.Name "enumerate" p) [l] [] pos) (A8 K ta):=by
 subst hK
 intro pins s σ H R I h
 refine AZ (yN I hg hm boot_enumerate (cf (thn (ha pos pins s σ H _ I h) λus s1 ⟨vs,H1,I1,r1,q1⟩=>?_) hs rfl))
 obtain ⟨a,e,⟨xs,hq⟩,q⟩:=q1
 subst e
 obtain ⟨u,rfl,ru⟩:=vQ r1
 cases ru
 obtain ⟨its,rv,pl,hz⟩:=I1.list hq
 refine call_enumerate_list pl.isList λh' i1 i2 i3 kk=>?_
 refine pR i1 ?_
 have I2:Inv X pins σ H1 { s1 with heap:=h',toks:=s1.toks }:=I1.kept kk
 refine ⟨_,[s1.heap.objs.size+1,s1.heap.objs.size],_,_,H1,rfl,I2,V0 a _ _ (by exact Nat.succ_ne_self _),⟨.none,i1,i2⟩,λb hb=>?_,q⟩
 rcases List.mem_cons.mp hb with rfl | hb
 ·exact I1.fpOk (fL _) (I1.hok.fresh (fL _))
 ·have e:b=s1.heap.objs.size:=by simpa using hb
  subst e
  exact I1.fpOk (ar _) (I1.hok.fresh (ar _))
end
theorem V7 {K:ag}{xs:List V}{g:TG}{ti:TT}{te:TE}{R:Hp->Prop}{σ:St}{H:Hp}(Pv:Nat->St->Hp->Prop) (h0:Pv 0 σ H) (hl:∀i σ H,i<=xs.length->Pv i σ H->SqL K H a xs)
  (hs:∀i x σ H t,xs[i]? = some x->Pv i σ H->H t=none->g (.ref t) σ (upd H t (.tup [.int i,x])) λσ3 H3=>ti σ3 H3 λok H4=>if ok=true then te σ3 H4 λv H5=>∃ys,H5 acc=some (.lst ys)/\ys.length<sizeLine/\Pv (i+1) σ3 (upd H5 acc (.lst (ys++[v]))) else Pv (i+1) σ3 H4)
  (hd:∀σ H,Pv xs.length σ H->R H) :
  ∃W:Nat->Nat->St->Hp->Prop,(∃m,W 0 m σ H)/\∀i m σ' H',W i m σ' H' ->
   ((Ite K a).stop i H'/\R H')\/((Ite K a).go i H'/\∃NX:St->Hp->Prop,(∀σ2 H2,NX σ2 H2->∃m',m'<m/\W (i+1) m' σ2 H2) /\
    ∀x H2,(Ite K a).yld i H' x H2->g x σ' H2 λσ3 H3=>ti σ3 H3 λok H4=>if ok=true then te σ3 H4 λv H5=>∃ys,H5 acc=some (.lst ys)/\ys.length<sizeLine/\NX σ3 (upd H5 acc (.lst (ys++[v]))) else NX σ3 H4):=by
 refine ⟨λi m σ H=>m=xs.length-i/\i<=xs.length/\Pv i σ H,⟨xs.length,by simp,aJ _,h0⟩,?_⟩
 rintro i m σ H ⟨rfl,hi,p⟩
 have q:=hl i σ H hi p
 by_cases hlt:i<xs.length
 ·refine .inr ⟨⟨xs,xs[i],q,by simp [hlt]⟩,Pv (i+1),λσ' H' p'=>⟨xs.length-(i+1),∅,rfl,hlt,p'⟩,λv H' y=>?_⟩
  obtain ⟨t,x,rfl,hn,rfl,y⟩:=y
  exact hs i x σ H t (y xs q) p hn
 ·have e:i=xs.length:=∅
  subst e
  exact .inl ⟨⟨xs,q,ar _⟩,hd σ H p⟩
theorem kO {K:ag}{xs:List V}{g:TG}{tb:TS}{D:Ends}{σ:St}{H:Hp}(Pv:Nat->St->Hp->Prop) (h0:Pv 0 σ H) (hl:∀i σ H,i<=xs.length->Pv i σ H->SqL K H a xs)
  (hs:∀i x σ H t,xs[i]? = some x->Pv i σ H->H t=none->g (.ref t) σ (upd H t (.tup [.int i,x])) λσ2 H2=>tb { D with nx:=Pv (i+1),ct:=Pv (i+1),bk:=D.nx } σ2 H2) (hd:∀σ H,Pv xs.length σ H->D.nx σ H) :
  ∃W:Nat->Nat->St->Hp->Prop,(∃m,W 0 m σ H)/\∀i m σ H,W i m σ H ->
   ((Ite K a).stop i H/\D.nx σ H)\/((Ite K a).go i H/\∃N:St->Hp->Prop,(∀σ' H',N σ' H'->∃m',m'<m/\W (i+1) m' σ' H')/\∀x H',(Ite K a).yld i H x H'->g x σ H' λσ2 H2=>tb { D with nx:=N,ct:=N,bk:=D.nx } σ2 H2):=by
 refine ⟨λi m σ H=>m=xs.length-i/\i<=xs.length/\Pv i σ H,⟨xs.length,by simp,aJ _,h0⟩,?_⟩
 rintro i m σ H ⟨rfl,hi,p⟩
 have q:=hl i σ H hi p
 by_cases hlt:i<xs.length
 ·refine .inr ⟨⟨xs,xs[i],q,by simp [hlt]⟩,Pv (i+1),λσ' H' p'=>⟨xs.length-(i+1),∅,rfl,hlt,p'⟩,λv H' y=>?_⟩
  obtain ⟨t,x,rfl,hn,rfl,y⟩:=y
  exact hs i x σ H t (y xs q) p hn
 ·have e:i=xs.length:=∅
  subst e
  exact .inl ⟨⟨xs,q,ar _⟩,hd σ H p⟩
end L2
end
section
namespace L2
open PySem.W
theorem JJ:∀(l:List Int),(∀n∈l,0<=n/\n<=2 ^ 20)->0<=l.sum/\l.sum<=2 ^ 20*l.length
 | [],_=>by simp
 | n::l,h=>by
  have ih:=JJ l λm hm=>h m (aF _ hm)
  have h0:=h n aB
  rw [oE,bh]
  constructor
  ·omega
  ·push_cast
   omega
section
variable {X:Cx}
theorem kQ (K:ag) (hc:X.calm=true) (hK:X.K=K:=by rfl):xh X (.builtin "sum") (λxs H Q=>∃(p:Addr) (ns:List Int),xs=[.ref p]/\SqL K H p (ns.map V.int)/\ns.length<=1000/\(∀n∈ns,0<=n/\n<=2 ^ 20)/\Q (.int ns.sum) H):=by
 subst hK
 intro pins s σ H xs us Q I r h
 obtain ⟨p,ns,rfl,hq,hl,hb,q⟩:=h
 obtain ⟨u,rfl,ru⟩:=vQ r
 cases ru
 obtain ⟨its,rv,pl,hz⟩:=I.list hq
 have hI:=zw rv
 have hlen:=hI.length
 have hne:p≠s.heap.objs.size:=by
  obtain ⟨o,n,e,_⟩:=id pl
  exact aC (aw e)
 refine call_sum_walk (dE pl.isList ?_)
 refine ⟨s.heap.objs.size,_,_,_,_,_,λi=>ns.getD i 0,rfl,Walks.list (show (X.A.in1).handled=none from I.ok.hd hc) s.heap.objs.size p hne its.toArray,⟨⟨_,ay _ rfl,rfl,rfl⟩,pl.isList.at λo e=>ai _ e⟩,?_,?_,?_,?_⟩
 ·intro b hb'
  have hps:p<s.heap.objs.size:=by
   obtain ⟨o,n,e,_⟩:=id pl
   exact aw e
  show b<(s.heap.push _).objs.size
  rw [cB]
  rcases List.mem_cons.mp hb' with rfl | hb'
  ·exact iq _
  ·have e:b=p:=by simpa using hb'
   subst e
   exact cg hps
 ·intro i v hP
  have hP':its[i]? = some v:=by simpa using hP
  have hi:i<its.length:=(List.getElem?_eq_some_iff.mp hP').1
  obtain ⟨t,e⟩:=Qb hI hi
  rw [e] at hP'
  refine ⟨t,?_⟩
  show v=lX (ns.getD i 0) t
  rw [ao,af ∅]
  exact (aW hP').symm
 ·intro j hj
  have hj':j<ns.length:=by
   have:its.toArray.size=its.length:=by simp
   omega
  constructor
  ·show InLong (ns.getD j 0)
   rw [ao,af hj']
   have:=hb _ (c8 hj')
   show -(2 ^ 63)<=ns[j]/\ns[j]<2 ^ 63
   omega
  ·rw [preSum_getD]
   have:=JJ (ns.take (j+1)) λn hn=>hb n (List.mem_of_mem_take hn)
   have hl2:(ns.take (j+1)).length<=1000:=by rw [aK];omega
   show -(2 ^ 63)<=_/\_<2 ^ 63
   omega
 ·intro h' tk t' hk
  rw [preSum_getD,cR (by simp;omega)]
  refine ⟨.int ns.sum,H,I.kept (t':=tk) λb o eo=>hk b o (by
   intro z
   have:=List.mem_singleton.mp z
   subst this
   exact absurd (aw eo) (cK _)) (ai _ eo),⟨t',rfl⟩,q⟩
theorem xK (K:ag) (h:X.K=K:=by rfl):xh X (.type "tuple") (λxs H Q=>∃p ys,xs=[.ref p]/\SqL K H p ys/\New H (.tup ys) Q):=by
 subst h
 exact Jg.weak λ_ _ _ ⟨p,ys,h1,h2,q⟩=>⟨p,ys,h1,.inl ⟨h2,q.at⟩⟩
end
end L2
end
section
namespace L2
open PySem.W
structure Nb2 (mg:Str->Option aj):Prop extends Nb mg where
 b_enumerate:mg "enumerate" = none
 b_sorted:mg "sorted" = none
 b_sum:mg "sum" = none
noncomputable abbrev Rch:=Int×List Int
noncomputable def tos (rs:List Rch):List Int:=rs.map (·.1)
noncomputable def xZ (rs:List Rch) (r:Nat):Int:=(rs.getD r (-1,[])).1
noncomputable def y3 (rs:List Rch) (r:Nat):List Int:=(rs.getD r (-1,[])).2
noncomputable def xM (i:Nat) (t:Int):Bool:=if i=0 then decide (t = -1) else decide (0<=t/\t<i)
noncomputable def okR (i:Nat) (r:Rch):Bool:=xM i r.1 && decide (1<=(r.2.length:Int)/\(r.2.length:Int)<=12) && r.2.all λx=>decide (0<=x/\x<=99)
noncomputable def wf (rs:List Rch):Bool:=(aI rs.length).all λi=>okR i (rs.getD i (-1,[]))
noncomputable def xy (rs:List Rch):Prop:=∀i,i<rs.length->xM i (xZ rs i)=true
noncomputable def jR (rs:List Rch) (h:Nat):Bool:=!decide ((h:Int)∈tos rs)
noncomputable def jv (rs:List Rch):List Nat:=(aI rs.length).filter (jR rs)
noncomputable def vR (rs:List Rch):Nat->Nat->List Int
 | 0,_=>[]
 | f+1,r=>(r:Int)::(if xZ rs r<0 then [] else vR rs f (xZ rs r).toNat)
noncomputable def qG (rs:List Rch) (r:Nat):List Int:=vR rs (r+1) r
noncomputable def jG (rs:List Rch) (way:List Int):Int:=(way.map λr=>((y3 rs r.toNat).length:Int)).sum
noncomputable def zK (rs:List Rch):Bool:=decide (1<=(rs.length:Int)/\(rs.length:Int)<=8) && (wf rs && (decide (((jv rs).length:Int)<=6) && (jv rs).all λh=>decide (jG rs (qG rs h)<=30)))
theorem J8 {i:Nat}{t:Int}(h:xM i t=true):t<i/\(-1<=t)/\(t<0->i=0):=by
 unfold xM at h
 by_cases hi:i=0
 ·rw [if_pos hi] at h
  have:=of_decide_eq_true h
  omega
 ·rw [if_neg hi] at h
  have:=of_decide_eq_true h
  omega
theorem YR {i:Nat}(h:okR i r=true):xM i r.1=true:=by
 unfold okR at h
 rw [bb,bb] at h
 exact h.1.1
theorem Qv (h:wf rs=true) {i:Nat}(hr:rs[i]? = some r):okR i r=true:=by
 unfold wf at h
 rw [bP] at h
 have hi:=(List.getElem?_eq_some_iff.mp hr).1
 have:=h i (List.mem_range.mpr hi)
 rw [ao,hr] at this
 exact this
theorem qk (h:wf rs=true):xy rs:=λi hi=>by
 have:=YR (Qv h (af hi))
 unfold xZ
 rw [ao,af hi]
 exact this
theorem QA {rs:List Rch}{i:Nat}(h:rs[i]? = some r):xZ rs i=r.1:=by
 unfold xZ
 rw [ao,h]
 rfl
theorem QK {rs:List Rch}{i:Nat}(h:rs[i]? = some r):y3 rs i=r.2:=by
 unfold y3
 rw [ao,h]
 rfl
theorem xy.lt {rs:List Rch}(L:xy rs) {r:Nat}(hr:r<rs.length):xZ rs r<r:=(J8 (L r hr)).1
theorem JO (L:xy rs):∀(f g r:Nat),r<rs.length->r<f->r<g->vR rs f r=vR rs g r
 | 0,_,_,_,h,_=>∅
 | _+1,0,_,_,_,h=>∅
 | f+1,g+1,r,hr,h1,h2=>by
  unfold vR
  by_cases ht:xZ rs r<0
  ·rw [if_pos ht,if_pos ht]
  ·rw [if_neg ht,if_neg ht]
   have hl:=L.lt hr
   rw [JO L f g (xZ rs r).toNat ∅ ∅ ∅]
theorem zQ (L:xy rs) {r:Nat}(hr:r<rs.length):qG rs r=(r:Int)::(if xZ rs r<0 then [] else qG rs (xZ rs r).toNat):=by
 unfold qG
 rw [vR]
 by_cases ht:xZ rs r<0
 ·rw [if_pos ht,if_pos ht]
 ·rw [if_neg ht,if_neg ht]
  have hl:=L.lt hr
  rw [JO L r ((xZ rs r).toNat+1) (xZ rs r).toNat ∅ ∅ ∅]
theorem WD (r:Nat):qG rs r≠[]:=by unfold qG vR;exact λz=>nomatch z
theorem uB (L:xy rs):∀(r:Nat),r<rs.length->(qG rs r).length<=r+1
 | r,hr=>by
  rw [zQ L hr]
  by_cases ht:xZ rs r<0
  ·rw [if_pos ht];simp
  ·rw [if_neg ht]
   have hl:=L.lt hr
   have:=uB L (xZ rs r).toNat ∅
   rw [bh]
   omega
 termination_by r=>r
 decreasing_by omega
theorem zg {rs:List Rch}(L:xy rs):∀(r:Nat),r<rs.length->∀x∈qG rs r,0<=x/\x<rs.length
 | r,hr,x,hx=>by
  rw [zQ L hr] at hx
  rcases List.mem_cons.mp hx with rfl | hx
  ·omega
  ·by_cases ht:xZ rs r<0
   ·rw [if_pos ht] at hx;cases hx
   ·rw [if_neg ht] at hx
    have hl:=L.lt hr
    exact zg L (xZ rs r).toNat ∅ x hx
 termination_by r=>r
 decreasing_by omega
theorem xz {h:Nat}(hh:h∈jv rs):h<rs.length:=by
 have:=(List.mem_filter.mp hh).1
 exact List.mem_range.mp this
theorem xm (rs:List Rch) (r:Int) (way:List Int):jG rs (r::way)=((y3 rs r.toNat).length:Int)+jG rs way:=by
 unfold jG
 rw [aM,oE]
theorem UI {α:Type}{p:α->Bool}{l l':List α}(h:l.Perm l'):l.all p=l'.all p:=by
 rw [eF,bP,bP]
 exact ⟨λz x hx=>z x (h.mem_iff.mpr hx),λz x hx=>z x (h.mem_iff.mp hx)⟩
noncomputable def qg (rs:List Rch) (ws:List (List Int)):Prop:=ws.Perm ((jv rs).map (qG rs))/\(ws.map cS).Pairwise wW.kle
theorem qg.length {rs:List Rch}{ws:List (List Int)}(h:qg rs ws):ws.length=(jv rs).length:=by rw [h.1.length_eq,ah]
theorem qg.mem {rs:List Rch}{ws:List (List Int)}(h:qg rs ws) {w:List Int}(hw:w∈ws):∃x∈jv rs,w=qG rs x:=by
 obtain ⟨x,hx,e⟩:=List.mem_map.mp (h.1.mem_iff.mp hw)
 exact ⟨x,hx,e.symm⟩
theorem qg.all {rs:List Rch}{ws:List (List Int)}(h:qg rs ws):(ws.map λw=>decide (jG rs w<=30)).all (λb=>b)=(jv rs).all λx=>decide (jG rs (qG rs x)<=30):=by
 rw [i5,UI h.1,i5]
 rfl
theorem yS {O:KeyOrd}:∀{l l':List O.α},l.Perm l'->l.Pairwise O.kle->l'.Pairwise O.kle->l=l'
 | [],l',h,_,_=>(List.nil_perm.mp h).symm
 | x::l,[],h,_,_=>by have:=h.length_eq;simp at this
 | x::l,y::l',h,h1,h2=>by
  have hx:=(List.pairwise_cons.mp h1)
  have hy:=(List.pairwise_cons.mp h2)
  have e:x=y:=by
   have m1:x∈y::l':=h.mem_iff.mp aB
   have m2:y∈x::l:=h.mem_iff.mpr aB
   rcases List.mem_cons.mp m1 with z | z
   ·exact z
   ·rcases List.mem_cons.mp m2 with z2 | z2
    ·exact z2.symm
    ·exact iU (hx.1 y z2) (hy.1 x z)
  subst e
  rw [yS (oX h) hx.2 hy.2]
theorem qg.unique {rs:List Rch}{ws:List (List Int)}(h:qg rs ws) (h':qg rs ws'):ws=ws':=by
 have p:(ws.map cS).Perm (ws'.map cS):=(h.1.trans h'.1.symm).map _
 have e:=yS (O:=wW) p h.2 h'.2
 have e2:=congrArg (tj cS) e
 rw [bZ,bZ,show (cS ∘ cS:List Int->List Int)=id from funext λx=>eZ x,nK,nK] at e2
 exact e2
theorem XE (rs:List Rch) (t:Int) (hs:List Int):tos (rs++[(t,hs)])=tos rs++[t]:=by unfold tos;rw [aG];rfl
theorem uY {rs:List Rch}{x:Rch}{i:Nat}(h:i<rs.length):(rs++[x]).getD i d=rs.getD i d:=by
 rw [ao,ao,cV h]
theorem xD {rs:List Rch}{x:Rch}:(rs++[x]).getD rs.length d=x:=by
 rw [ao,cO (ar _),Nat.sub_self]
 rfl
theorem JK (h:wf rs=true) (hx:okR rs.length x=true):wf (rs++[x])=true:=by
 unfold wf at h ⊢
 rw [bP] at h ⊢
 intro i hi
 have hi':i<rs.length+1:=by have:=List.mem_range.mp hi;rw [aq,ba] at this;exact this
 by_cases hlt:i<rs.length
 ·rw [uY hlt];exact h i (List.mem_range.mpr hlt)
 ·have e:i=rs.length:=∅
  subst e
  rw [xD];exact hx
theorem gA {x:Rch}(L:xy rs):∀(f r:Nat),r<rs.length->vR (rs++[x]) f r=vR rs f r
 | 0,_,_=>rfl
 | f+1,r,hr=>by
  have e:xZ (rs++[x]) r=xZ rs r:=by unfold xZ;rw [uY hr]
  unfold vR
  rw [e]
  by_cases ht:xZ rs r<0
  ·rw [if_pos ht,if_pos ht]
  ·rw [if_neg ht,if_neg ht,gA L f _ (by have:=L.lt hr;omega)]
theorem vH {x:Rch}(L:xy rs) {r:Nat}(hr:r<rs.length):qG (rs++[x]) r=qG rs r:=gA L _ r hr
theorem zc {rs:List Rch}{x:Rch}:∀(way:List Int),(∀r∈way,0<=r/\r<rs.length)->jG (rs++[x]) way=jG rs way
 | [],_=>rfl
 | r::way,h=>by
  have h0:=h r aB
  rw [xm,xm,zc way λy hy=>h y (aF _ hy)]
  congr 2
  unfold y3
  rw [uY ∅]
theorem Zn (L:xy rs) {t:Int}(h:t∈tos rs):t+1<rs.length:=by
 unfold tos at h
 obtain ⟨r,hr,rfl⟩:=List.mem_map.mp h
 obtain ⟨i,hi,e⟩:=List.mem_iff_getElem.mp hr
 have:=L.lt hi
 rw [QA (af hi),e] at this
 omega
theorem ZT {t:Int}{hs:List Int}(L:xy rs) (h0:0<=t) (h1:t<rs.length) :
  (jv (rs++[(t,hs)])).length=if t∈tos rs then (jv rs).length+1 else (jv rs).length:=by
 unfold jv
 rw [aq,ba,cG,cq,aq]
 have e1:(fM (jR (rs++[(t,hs)])) [rs.length]).length=1:=by
  have:jR (rs++[(t,hs)]) rs.length=true:=by
   unfold jR
   rw [XE,decide_eq_false]
   ·rfl
   ·intro z
    rcases List.mem_append.mp z with z | z
    ·have:=Zn L z;omega
    ·have:(rs.length:Int)=t:=by simpa using z
     omega
  simp [this]
 rw [e1]
 have e2:∀h,jR (rs++[(t,hs)]) h=(jR rs h && !decide ((h:Int)=t)):=λh=>by
  unfold jR
  rw [XE]
  by_cases a:(h:Int)∈tos rs
  ·rw [decide_eq_true (bL _ a),decide_eq_true a];rfl
  ·rw [decide_eq_false a]
   by_cases b:(h:Int)=t
   ·rw [decide_eq_true (aD _ (by simp [b])),decide_eq_true b];rfl
   ·rw [decide_eq_false (λz=>(List.mem_append.mp z).elim a λy=>b (by simpa using y)),decide_eq_false b];rfl
 have e3:fM (jR (rs++[(t,hs)])) (aI rs.length)=fM (λh:Nat=>!decide ((h:Int)=t)) (fM (jR rs) (aI rs.length)):=by
  rw [List.filter_filter]
  congr 1
  funext h
  rw [e2,Bool.and_comm]
 rw [e3]
 have nd:(fM (jR rs) (aI rs.length)).Nodup:=List.Nodup.sublist List.filter_sublist rA
 generalize hl:fM (jR rs) (aI rs.length)=l at nd
 have cnt:∀(l:List Nat),l.Nodup->(fM (λh:Nat=>!decide ((h:Int)=t)) l).length=if t.toNat∈l then l.length-1 else l.length:=by
  intro l
  induction l with
  | nil=>intro _;rfl
  | cons x l ih =>
   intro nd
   have nd':=List.nodup_cons.mp nd
   have ih:=ih nd'.2
   by_cases b:(x:Int)=t
   ·have hx:x=t.toNat:=∅
    rw [fN (by simp [b]),ih,if_neg (by rw [<- hx];exact nd'.1),if_pos (by rw [hx];exact aB)]
    simp
   ·have hx:t.toNat≠x:=∅
    rw [fO (by simp [b]),bh,ih]
    by_cases m:t.toNat∈l
    ·rw [if_pos m,if_pos (aF _ m),bh]
     have:0<l.length:=i6 m
     omega
    ·rw [if_neg m,if_neg (λz=>(List.mem_cons.mp z).elim hx m)]
     simp
 rw [cnt l nd]
 have hm:t.toNat∈l↔¬t∈tos rs:=by
  rw [<- hl,List.mem_filter,List.mem_range]
  unfold jR
  have e:((t.toNat:Nat):Int)=t:=∅
  rw [e]
  constructor
  ·rintro ⟨_,z⟩ y
   rw [decide_eq_true y] at z
   cases z
  ·intro z
   exact ⟨∅,by rw [decide_eq_false z];rfl⟩
 by_cases m:t∈tos rs
 ·rw [if_pos m,if_neg (by rw [hm];exact λz=>z m)]
 ·rw [if_neg m,if_pos (by rw [hm];exact m)]
  have:0<l.length:=i6 (hm.mpr m)
  omega
structure Grown (rs:List Rch):Prop where
 ok:wf rs=true
 heads:(jv rs).length<=6
 deep:∀i,i<rs.length->jG rs (qG rs i)<=30
theorem Grown.snoc {rs:List Rch}{t:Int}{hs:List Int}(G:Grown rs) (h0:0<=t) (h1:t<rs.length) (hx:okR rs.length (t,hs)=true) (hh:t∈tos rs->(jv rs).length<6) (hd:jG rs (qG rs t.toNat)+hs.length<=30):Grown (rs++[(t,hs)]):=by
 have L:=qk G.ok
 have ok':=JK G.ok hx
 refine ⟨ok',?_,λi hi=>?_⟩
 ·rw [ZT L h0 h1]
  split
  ·rename_i m;have:=hh m;omega
  ·exact G.heads
 ·rw [aq,ba] at hi
  by_cases hlt:i<rs.length
  ·rw [vH L hlt,zc _ (zg L i hlt)]
   exact G.deep i hlt
  ·have e:i=rs.length:=∅
   subst e
   have L':=qk ok'
   have et:xZ (rs++[(t,hs)]) rs.length=t:=by unfold xZ;rw [xD]
   have eh:y3 (rs++[(t,hs)]) rs.length=hs:=by unfold y3;rw [xD]
   rw [zQ L' (by rw [aq,ba];omega),xm,bF,eh,et,if_neg ∅,vH L ∅,zc _ (zg L _ ∅)]
   omega
theorem Grown.good {rs:List Rch}(G:Grown rs) (h1:1<=rs.length) (h8:rs.length<=8):zK rs=true:=by
 unfold zK
 rw [decide_eq_true (show 1<=(rs.length:Int)/\(rs.length:Int)<=8 by omega),G.ok,decide_eq_true (show ((jv rs).length:Int)<=6 by have:=G.heads;omega),dI,dI,dI,bP]
 intro h hh
 exact decide_eq_true (G.deep h (xz hh))
theorem Grown.deep_snoc {rs:List Rch}{t:Int}{hs:List Int}(G:Grown rs) (h0:0<=t) (h1:t<rs.length) (hx:okR rs.length (t,hs)=true):jG (rs++[(t,hs)]) (qG (rs++[(t,hs)]) rs.length)=jG rs (qG rs t.toNat)+hs.length:=by
 have L:=qk G.ok
 have L':=qk (JK G.ok hx)
 have et:xZ (rs++[(t,hs)]) rs.length=t:=by unfold xZ;rw [xD]
 have eh:y3 (rs++[(t,hs)]) rs.length=hs:=by unfold y3;rw [xD]
 rw [zQ L' (by rw [aq,ba];omega),xm,bF,eh,et,if_neg ∅,vH L ∅,zc _ (zg L _ ∅)]
 omega
noncomputable def ji (H H':Hp):Prop:=∀p xs,H p=some (.tup xs)->H' p=some (.tup xs)
theorem ji.same (s:jj H H'):ji H H':=λ_ _ h=>s _ _ h
theorem ji.trans (a:ji H H1) (b:ji H1 H2):ji H H2:=λp xs h=>b p xs (a p xs h)
theorem ji.ext {b:Addr}(e:Ext b H H') (h:∀xs,H b≠some (.tup xs)):ji H H':=λp xs q=>e _ _ q λz=>h xs (z ▸ q)
theorem ji.lst {b:Addr}{xs:List V}(e:Ext b H H') (h:H b=some (.lst xs)):ji H H':=.ext e λys z=>by rw [h] at z;cases z
theorem ji.new {b:Addr}(e:Ext b H H') (h:H b=none):ji H H':=.ext e λys z=>by rw [h] at z;cases z
theorem ji.tbl {b:Addr}(e:Ext b H H') (h:H b=some (.tbl ps)):ji H H':=.ext e λys z=>by rw [h] at z;cases z
noncomputable def Qf (H:Hp) (v:V) (r:Rch):Prop:=∃p g,v=V.ref p/\H p=some (.tup [.int r.1,.ref g])/\H g=some (.tup (r.2.map V.int))
noncomputable def qd (H:Hp) (vs:List V) (rs:List Rch):Prop:=d0 (Qf H) vs rs
theorem Qf.keep (k:ji H H') (h:Qf H v r):Qf H' v r:=by
 obtain ⟨p,g,e,h1,h2⟩:=h
 exact ⟨p,g,e,k _ _ h1,k _ _ h2⟩
theorem qd.keep {rs:List Rch}(k:ji H H') (h:qd H vs rs):qd H' vs rs:=Paired.mapP h λ_ _ z=>z.keep k
theorem qd.length {rs:List Rch}(h:qd H vs rs):vs.length=rs.length:=aT h
theorem qd.get {rs:List Rch}{i:Nat}(h:qd H vs rs) (e:vs[i]? = some v):∃r,rs[i]? = some r/\Qf H v r:=Paired.get h e
theorem qd.at {rs:List Rch}{i:Nat}(h:qd H vs rs) (e:rs[i]? = some r):∃v,vs[i]? = some v/\Qf H v r:=by
 have hi:i<vs.length:=by rw [h.length];exact (List.getElem?_eq_some_iff.mp e).1
 obtain ⟨r',e2,q⟩:=h.get (af hi)
 rw [e] at e2
 cases e2
 exact ⟨_,af hi,q⟩
theorem qd.snoc {rs:List Rch}(h:qd H vs rs) (q:Qf H v r):qd H (vs++[v]) (rs++[r]):=d5 h q
theorem Ja:∀(l:List Int),i7 (l.map cP)=true/\iO (l.map cP)=0
 | []=>⟨rfl,rfl⟩
 | n::l=>by
  have:=Ja l
  simp [i7,nM,iO,PyData.depth,this.1,this.2]
noncomputable def yg (H:Hp) (vs:List V) (ws:List (List Int)):Prop:=d0 (λv (w:List Int)=>∃a,v=V.ref a/\H a=some (.tup (w.map V.int))) vs ws
theorem yg.keep {ws:List (List Int)}(k:ji H H') (h:yg H vs ws):yg H' vs ws:=Paired.mapP h λ_ _ ⟨a,e,q⟩=>⟨a,e,k _ _ q⟩
theorem yg.length {ws:List (List Int)}(h:yg H vs ws):vs.length=ws.length:=aT h
theorem vq (x:Int) (l:List Int):inV (.int x) (l.map V.int)=decide (x∈l):=by
 unfold inV
 induction l with
 | nil=>rfl
 | cons y l ih =>
  rw [aM,ft,ih]
  by_cases e:x=y
  ·subst e
   rw [decide_eq_true (aB (a:=x))]
   simp [eqV]
  ·by_cases m:x∈l
   ·rw [decide_eq_true m,decide_eq_true (aF _ m),Bool.or_true]
   ·rw [decide_eq_false m,decide_eq_false (λz=>(List.mem_cons.mp z).elim e m),Bool.or_false]
    simp [eqV]
    exact λz=>e z.symm
theorem ym (l:List Int):(l.map V.int).all uN=true:=by
 rw [i5,bP]
 intro x _
 rfl
end L2
end
section
namespace L2
open PySem.W
section
variable {prog:Program}{w:bx}{A:bz}{E:aj->Shared->Prop}{s:Shared}
theorem vL {t:Addr}{lo:Option Int}{Q:aj->Shared->Prop}(ht:rS s.heap t items) (hs:s.heap.IsSliceOf sl vl vu .none) (pl:lp vl lo) (pu:lp vu hi)
  (hw:HT.sIx items.size 0 lo=0/\HT.sIx items.size items.size hi=items.size) (h:Q (.ref t) s):ax (aE prog w) A (fV (.ref t) (.ref sl)) Q E s:=by
 obtain ⟨os,hos,hcs,hds⟩:=id hs
 have hTs:s.TypeIs (.ref sl) "slice":=⟨os,hos,hcs⟩
 unfold fV
 try with_reducible refine bw ?_
 first | refine aa (wpAny_pure ?_) | skip
 refine aa (lM ht.typeIs ⋯ ?_)
 refine aa (bN (name:=ak "__getitem__") ht.typeIs bW
  (c7 bW ht.typeIs iT ?_ (lu _ _)))
 show ax _ _ (eW (.ref t) >>= _) _ _ s
 refine aa (oz ht ?_)
 refine aa (fW hTs ?_)
 rw [if_pos ⋯]
 refine aa (HT.sliceApplied_gen hs pl pu ?_)
 show ax _ _ (if (((HT.sIx items.size 0 lo:Nat):Int) == 0 && (1:Int) == 1 && (HT.sIx items.size items.size hi-HT.sIx items.size 0 lo) == items.size)=true then _ else _) _ _ s
 rw [hw.1,hw.2,if_pos (by simp)]
 refine aa (aa (fW (T:="tuple") ht.typeIs (wpAny_pure ?_)))
 rw [if_pos (by rfl)]
 exact aa (eB (wpAny_pure ⟨_,rfl,wpAny_pure h⟩))
end
theorem U8 {X:Cx}(K:ag) (hK:X.K=K:=by rfl):SlR X (λx lo hi H Q=>∃a xs,x = .ref a/\H a=some (.tup xs)/\∀p H',jj H H'->H' p=some (.tup (wS xs lo hi))->Q (.ref p) H'):=by
 subst hK
 intro pins s σ H x v vl vu lo hi sl Q I rx hs pl pu h
 obtain ⟨a,xs,rfl,hx,q⟩:=h
 cases rx
 obtain ⟨its,r,ht,hz⟩:=I.tuple (SqT.of hx)
 have hlen:its.toArray.size=xs.length:=by rw [av];exact r.length.symm
 refine ⟨"tuple",_,PyProof.Rows.slot_tuple_getitem.lookup,ht.typeIs,?_⟩
 by_cases hw:HT.sIx xs.length 0 lo=0/\HT.sIx xs.length xs.length hi=xs.length
 ·refine vL ht hs pl pu (by rw [hlen];exact hw) ⟨.ref a,H,I,rfl,q a H (jj.refl H) ?_⟩
  rw [hx]
  unfold wS
  rw [hw.1,hw.2,lA,mD,aY]
 ·refine HT.getItem_tuple_cut ht hs pl pu (by rw [hlen];exact hw) ?_ (by rw [hlen];exact hz)
  rw [hlen]
  have hf:=I.fresh
  refine ⟨.ref s.heap.objs.size,_,I.laid (t':=s.toks) (o:=.tup (wS xs lo hi)) (λb ob q=>ai _ q) (ar _) ?_,rfl,q _ _ (jj.new hf) j6⟩
  exact ⟨aH (wI xs lo hi) hz,_,(r.drop (HT.sIx xs.length 0 lo)).take (HT.sIx xs.length xs.length hi-HT.sIx xs.length 0 lo),rj _ _⟩
end L2
end
section
namespace L2
open PySem.W
section
variable {X:Cx}
end
end L2
end
section
namespace L2
open PySem.W
theorem ZW {T id:String}{apos cpos:Pos}(K:ag) (pa:oP T) (slot:Slot T name id) (hty:oQ (.builtin id)=pure (.type "method_descriptor")) (hm:MtR X id r) (ho:PE X o to)
  (hbase:dG o name X.env (eval o X.env)=eval o X.env:=by rfl) (hline:(apos.endLine == cpos.line)=true:=by rfl) (hK:X.K=K:=by rfl) :
  PE X (.Call (.Attribute o name apos) [] [] cpos) (Au K T r to):=by
 subst hK
 first | exact Uv pa slot hty hm ho hbase hline | exact Uv pa slot hty hm ho
end L2
end
section
namespace L2
open PySem.W
section
variable {s:Shared}{A:bz}{prog:Program}{w:bx}{E:aj->Shared->Prop}
theorem Ag {t:Addr}{k:Nat}{Q:aj->Shared->Prop}(q:s.heap.IsTupleIter it t k) (p:s.heap.IsTuple t its) (e:its[k]? = some v)
  (z:∀g,g.IsTupleIter it t (k+1)->ee it s.heap g->Q v { s with heap:=g }):ax (aE prog w) A (bD (.ref it)) Q E s:=by
 obtain ⟨ob,gb,cb,db⟩:=id q;obtain ⟨ot,gt,_,nt,dt⟩:=p;unfold bD
 refine aa (bN (name:=ak "__next__") q.typeIs du (c7 du q.typeIs iW ?_ (iP _)))
 show ax _ _ (mL (.ref it) 0 >>= _) _ _ s;refine aa (bB gb db (x:=.ref t) rfl ?_)
 show ax _ _ (if (aV t == aU)=true then _ else _) _ _ s;rw [if_neg (show ¬((aV t == aU)=true) from au)]
 show ax _ _ (mL (.ref it) 1 >>= _) _ _ s;refine aa (bB gb db (x:=.int k 0) rfl ?_)
 show ax _ _ (rC (.ref t) >>= _) _ _ s;refine aa (cD gt dt ?_)
 simp only [bF,e]
 refine aa (fb gb db (by simp) (wpAny_pure ⟨v,rfl,wpAny_pure (z _ ⟨_,dA _ gb (eQ (eC db _)),(pS ..).trans cb,by rw [eC db];simp [cc]⟩ (oo ..))⟩))
theorem AB {t:Addr}{k:Nat}(hh:A.handled=none) (q:s.heap.IsTupleIter it t k) (p:s.heap.IsTuple t its) (e:its[k]? = none)
  (z:∀g x,iG it s.heap g->(∃o,g.get? x=some o/\o.cls = .type "StopIteration")->E (.ref x) { s with heap:=g }):ax (aE prog w) A (bD (.ref it)) Q E s:=by
 obtain ⟨ob,gb,cb,db⟩:=id q;obtain ⟨ot,gt,_,nt,dt⟩:=p;unfold bD
 refine aa (bN (name:=ak "__next__") q.typeIs du (c7 du q.typeIs iW ?_ (iP _)))
 show ax _ _ (mL (.ref it) 0 >>= _) _ _ s;refine aa (bB gb db (x:=.ref t) rfl ?_)
 show ax _ _ (if (aV t == aU)=true then _ else _) _ _ s;rw [if_neg (show ¬((aV t == aU)=true) from au)]
 show ax _ _ (mL (.ref it) 1 >>= _) _ _ s;refine aa (bB gb db (x:=.int k 0) rfl ?_)
 show ax _ _ (rC (.ref t) >>= _) _ _ s;refine aa (cD gt dt ?_)
 simp only [bF,e]
 refine aa (eB (aa (fb gb db (by simp) ?_)))
 show ax _ _ (AY (.type "StopIteration") [] >>= _) _ _ _;refine aa ?_;simp only [AY,newTuple]
 refine aa (bC ?_ (by size_fits));refine aa (m:=lB _ _) (nN (a:=aU) (by first | rfl | (simp only [lB];rfl)) ?_)
 refine bC ?_ (by size_fits);simp only [raiseNew];refine aa (tO ?_);first | rw [hh] | rw [show A.in1.handled=none from hh]
 exact aa (wpAny_pure (wpAny_throw (z _ _ (((oo ..).extBut.push _).push _) ⟨_,ay _ rfl,rfl⟩)))
structure Feeds (prog:Program) (w:bx) (i l:Addr) (xs:Array aj) (S:Nat->Heap->Prop):Prop where
 keep:∀k h h',S k h->(∀o,h.get? i=some o->h'.get? i=some o)->(∀o,h.get? l=some o->h'.get? l=some o)->S k h'
 obj:∀k h,S k h->∃o,h.get? i=some o/\∀v,o.data≠.cell v
 item:∀(A:bz) (E:aj->Shared->Prop) (k:Nat) (x:aj) (s:Shared) (Q:aj->Shared->Prop),S k s.heap->xs[k]? = some x->(∀g,S (k+1) g->ee i s.heap g->Q x { s with heap:=g })->ax (aE prog w) A (bD (.ref i)) Q E s
 done:∀(A:bz) (E:aj->Shared->Prop) (k:Nat) (s:Shared) (Q:aj->Shared->Prop),A.handled=none->S k s.heap->xs[k]? = none->(∀g x,iG i s.heap g->(∃o,g.get? x=some o/\o.cls = .type "StopIteration")->E (.ref x) { s with heap:=g })->ax (aE prog w) A (bD (.ref i)) Q E s
theorem Feeds.but {b:Addr}{xs:Array aj}{S:Nat->Heap->Prop}(f:Feeds prog w i l xs S) {k:Nat}(q:S k h) (sb:ee b h h') (n1:i≠b) (n2:l≠b):S k h':=f.keep k h h' q (λo e=>sb.extBut _ _ n1 e) λo e=>sb.extBut _ _ n2 e
theorem ZE {i l:Addr}{xs:Array aj}(n:l≠i):Feeds prog w i l xs λk h=>h.IsListIter i l k/\h.IsList l xs where
 keep:=λk h h' q k1 k2=>⟨q.1.at λo e=>k1 o e,q.2.at λo e=>k2 o e⟩
 obj:=λk h q=>by obtain ⟨o,e,_,d⟩:=q.1;exact ⟨o,e,λv z=>by rw [d] at z;cases z⟩
 item:=λA E k x s Q q e z=>wpAny_nextOf_list_item q.1 q.2 e λg q1 sb=>z g ⟨q1,q.2.extBut sb.extBut n⟩ sb
 done:=λA E k s Q hh q e z=>wpAny_nextOf_list_end hh q.1 q.2 e z
theorem Vv {i l:Addr}{xs:Array aj}(n:l≠i):Feeds prog w i l xs λk h=>h.IsTupleIter i l k/\h.IsTuple l xs where
 keep:=λk h h' q k1 k2=>⟨q.1.at λo e=>k1 o e,let ⟨o,e,r⟩:=q.2;⟨o,k2 o e,r⟩⟩
 obj:=λk h q=>by obtain ⟨o,e,_,d⟩:=q.1;exact ⟨o,e,λv z=>by rw [d] at z;cases z⟩
 item:=λA E k x s Q q e z=>Ag q.1 q.2 e λg q1 sb=>z g ⟨q1,q.2.extBut sb.extBut n⟩ sb
 done:=λA E k s Q hh q e z=>AB hh q.1 q.2 e z
theorem Ux {TI TO:Addr}{k1 k2:Nat}{Q:aj->Shared->Prop}(D:nO z TI TO i1 i2 l1 l2) (f1:Feeds prog w i1 l1 xs S1) (f2:Feeds prog w i2 l2 ys S2)
  (g0:lC s.heap z TI TO .none) (gI:dJ s.heap TI (.ref i1) (.ref i2)) (gO:dJ s.heap TO a b) (q1:S1 k1 s.heap) (q2:S2 k2 s.heap) (ex:xs[k1]? = some x) (ey:ys[k2]? = some y)
  (R:∀g,lC g z TI TO (cc s.heap.objs.size)->dJ g TO x y->S1 (k1+1) g->S2 (k2+1) g->dJ g s.heap.objs.size x y->g.objs.size=s.heap.objs.size+1 ->
   (∀c o,c≠z->c≠TO->c≠i1->c≠i2->s.heap.get? c=some o->g.get? c=some o)->Q (.ref s.heap.objs.size) { s with heap:=g }):ax (aE prog w) A (eR.«zip.__next__» ⟨[.ref z],[]⟩) (λfin s'=>∃v,fin = .done (.ret v)/\Q v s') E s:=by
 show ax _ _ (mL (.ref z) 2 >>= _) _ _ _;refine aa (bB g0 rfl (x:=.bool false) rfl ?_)
 show ax _ _ (mL (.ref z) 3 >>= _) _ _ _;refine aa (bB g0 rfl (x:=.ref TI) rfl ?_)
 refine aa (cD gI rfl ?_);show ax _ _ (cE (.ref z) >>= _) _ _ _
 refine aa ?_;unfold cE;refine aa (bB g0 rfl (x:=.none) rfl (wpAny_pure ?_));simp only [if_true]
 refine aa (eB ?_);refine aa (bB g0 rfl (x:=.ref TO) rfl ?_)
 refine aa (dv g0 (by simp) λh1 g1 e1=>?_)
 replace g1:lC h1 z TI TO .ellipsis:=g1
 refine aa ?_;simp only [rE,sy,iN,tm]
 refine aa (aa (lW ?_));show ax _ _ (bD (.ref i1) >>= _) _ _ _
 refine aa (f1.item _ _ k1 x _ _ (f1.but q1 e1 D.i1z D.l1z) ex λh2 q1' e2=>wpAny_pure ?_)
 have gO2:dJ h2 TO a b:=e2.extBut _ _ D.TOi1 (e1.extBut _ _ D.TOz gO)
 refine aa (cD gO2 rfl ?_);refine aa (iH gO2 λh3 gO3 e3=>?_)
 replace gO3:dJ h3 TO x b:=gO3
 refine aa (nJ (wpAny_pure ?_));refine aa (aa (lW ?_));show ax _ _ (bD (.ref i2) >>= _) _ _ _
 refine aa (f2.item _ _ k2 y _ _ (f2.but (f2.but (f2.but q2 e1 D.i2z D.l2z) e2 D.i12.symm D.l2i1) e3 D.TOi2.symm D.l2TO) ey λh4 q2' e4=>wpAny_pure ?_)
 have gO4:dJ h4 TO x b:=e4.extBut _ _ D.TOi2 gO3
 refine aa (cD gO4 rfl ?_);refine aa (iH gO4 λh5 gO5 e5=>?_)
 replace gO5:dJ h5 TO x y:=gO5
 refine aa (nJ (wpAny_pure (wpAny_pure ?_)));refine aa (cD gO5 rfl ?_);refine aa (ly ?_)
 have sz:h5.objs.size=s.heap.objs.size:=by rw [e5.1,e4.1,e3.1,e2.1,e1.1]
 have g5:lC h5 z TI TO .ellipsis:=e5.extBut _ _ D.TOz.symm (e4.extBut _ _ D.i2z.symm (e3.extBut _ _ D.TOz.symm (e2.extBut _ _ D.i1z.symm g1)))
 have k5:∀c o,c≠z->c≠TO->c≠i1->c≠i2->s.heap.get? c=some o->h5.get? c=some o:=λc o n1 n2 n3 n4 e=>e5.extBut _ _ n2 (e4.extBut _ _ n4 (e3.extBut _ _ n2 (e2.extBut _ _ n3 (e1.extBut _ _ n1 e))))
 have q15:S1 (k1+1) h5:=f1.but (f1.but (f1.but q1' e3 D.TOi1.symm D.l1TO) e4 D.i12 D.l1i2) e5 D.TOi1.symm D.l1TO
 have q25:S2 (k2+1) h5:=f2.but q2' e5 D.TOi2.symm D.l2TO
 have lz:z<h5.objs.size:=aw g5
 show ax _ _ (fm (.ref z) (.ref h5.objs.size) >>= _) _ _ _;refine aa ?_;unfold fm
 have g6:lC (h5.push { cls:=.type "tuple",data:=.seq #[x,y] }) z TI TO .ellipsis:=ai _ g5
 refine aa (dv g6 (by simp) λh7 g7 e7=>?_)
 replace g7:lC h7 z TI TO (cc h5.objs.size):=g7
 refine dv g7 (by simp) λh8 g8 e8=>?_
 replace g8:lC h8 z TI TO (cc h5.objs.size):=g8
 have up:∀c o,c≠z->h5.get? c=some o->h8.get? c=some o:=λc o n e=>e8.extBut _ _ n (e7.extBut _ _ n (ai _ e))
 have gT:dJ h8 h5.objs.size x y:=e8.extBut _ _ (cN lz) (e7.extBut _ _ (cN lz) (ay _ rfl))
 have sz8:h8.objs.size=h5.objs.size+1:=by rw [e8.1,e7.1,cB]
 rw [sz] at g8 gT sz8
 refine wpAny_pure ⟨_,rfl,?_⟩;show Q (.ref h5.objs.size) _;rw [sz]
 exact R h8 g8 (up _ _ D.TOz gO5) (f1.keep _ _ _ q15 (λo e=>up _ o D.i1z e) λo e=>up _ o D.l1z e) (f2.keep _ _ _ q25 (λo e=>up _ o D.i2z e) λo e=>up _ o D.l2z e) gT sz8 λc o n1 n2 n3 n4 e=>up c o n1 (k5 c o n1 n2 n3 n4 e)
theorem Uu {TI TO:Addr}{k1 k2:Nat}(hh:A.handled=none) (D:nO z TI TO i1 i2 l1 l2) (f1:Feeds prog w i1 l1 xs S1) (f2:Feeds prog w i2 l2 ys S2)
  (g0:lC s.heap z TI TO .none) (gI:dJ s.heap TI (.ref i1) (.ref i2)) (gO:dJ s.heap TO a b) (q1:S1 k1 s.heap) (q2:S2 k2 s.heap) (ed:xs[k1]? = none\/ys[k2]? = none)
  (R:∀g e,(∀c o,c≠z->c≠TO->c≠i1->c≠i2->s.heap.get? c=some o->g.get? c=some o)->(∃o,g.get? e=some o/\o.cls = .type "StopIteration")->E (.ref e) { s with heap:=g }):ax (aE prog w) A (eR.«zip.__next__» ⟨[.ref z],[]⟩) Q E s:=by
 show ax _ _ (mL (.ref z) 2 >>= _) _ _ _;refine aa (bB g0 rfl (x:=.bool false) rfl ?_)
 show ax _ _ (mL (.ref z) 3 >>= _) _ _ _;refine aa (bB g0 rfl (x:=.ref TI) rfl ?_)
 refine aa (cD gI rfl ?_);show ax _ _ (cE (.ref z) >>= _) _ _ _
 refine aa ?_;unfold cE;refine aa (bB g0 rfl (x:=.none) rfl (wpAny_pure ?_));simp only [if_true]
 refine aa (eB ?_);refine aa (bB g0 rfl (x:=.ref TO) rfl ?_)
 refine aa (dv g0 (by simp) λh1 g1 e1=>?_)
 replace g1:lC h1 z TI TO .ellipsis:=g1
 refine aa ?_;simp only [rE,sy,iN,tm]
 refine aa (aa (lW ?_));show ax _ _ (bD (.ref i1) >>= _) _ _ _
 cases ex:xs[k1]? with
 | none =>
  refine aa (f1.done _ _ k1 _ _ hh (f1.but q1 e1 D.i1z D.l1z) ex λh2 e e2 he=>?_)
  obtain ⟨oe,ge,ce⟩:=he
  have g2:lC h2 z TI TO .ellipsis:=e2 _ _ D.i1z.symm g1
  have ne:e≠z:=λq=>by subst q;rw [g2] at ge;cases ge;simp at ce
  exact dv g2 (by simp) λh3 _ e3=>R h3 e (λc o n1 _ n3 _ q=>e3.extBut _ _ n1 (e2 _ _ n3 (e1.extBut _ _ n1 q))) ⟨oe,e3.extBut _ _ ne ge,ce⟩
 | some x =>
  have ey:ys[k2]? = none:=by rcases ed with q | q;rw [ex] at q;cases q;exact q
  refine aa (f1.item _ _ k1 x _ _ (f1.but q1 e1 D.i1z D.l1z) ex λh2 q1' e2=>wpAny_pure ?_)
  have gO2:dJ h2 TO a b:=e2.extBut _ _ D.TOi1 (e1.extBut _ _ D.TOz gO)
  refine aa (cD gO2 rfl ?_);refine aa (iH gO2 λh3 gO3 e3=>?_)
  refine aa (nJ (wpAny_pure ?_));refine aa (aa (lW ?_));show ax _ _ (bD (.ref i2) >>= _) _ _ _
  refine aa (f2.done _ _ k2 _ _ hh (f2.but (f2.but (f2.but q2 e1 D.i2z D.l2z) e2 D.i12.symm D.l2i1) e3 D.TOi2.symm D.l2TO) ey λh4 e e4 he=>?_)
  obtain ⟨oe,ge,ce⟩:=he
  have g4:lC h4 z TI TO .ellipsis:=e4 _ _ D.i2z.symm (e3.extBut _ _ D.TOz.symm (e2.extBut _ _ D.i1z.symm g1))
  have ne:e≠z:=λq=>by subst q;rw [g4] at ge;cases ge;simp at ce
  exact dv g4 (by simp) λh5 _ e5=>R h5 e (λc o n1 n2 n3 n4 q=>e5.extBut _ _ n1 (e4 _ _ n4 (e3.extBut _ _ n2 (e2.extBut _ _ n3 (e1.extBut _ _ n1 q))))) ⟨oe,e5.extBut _ _ ne ge,ce⟩
theorem Ab {TI TO:Addr}{k1 k2:Nat}{Q:Option aj->Shared->Prop}(D:nO z TI TO i1 i2 l1 l2) (f1:Feeds prog w i1 l1 xs S1) (f2:Feeds prog w i2 l2 ys S2)
  (g0:lC s.heap z TI TO .none) (gI:dJ s.heap TI (.ref i1) (.ref i2)) (gO:dJ s.heap TO a b) (q1:S1 k1 s.heap) (q2:S2 k2 s.heap) (ex:xs[k1]? = some x) (ey:ys[k2]? = some y)
  (R:∀g,lC g z TI TO (cc s.heap.objs.size)->dJ g TO x y->S1 (k1+1) g->S2 (k2+1) g->dJ g s.heap.objs.size x y->g.objs.size=s.heap.objs.size+1 ->
   (∀c o,c≠z->c≠TO->c≠i1->c≠i2->s.heap.get? c=some o->g.get? c=some o)->Q (some (.ref s.heap.objs.size)) { s with heap:=g }):ax (aE prog w) A (eP (.ref z)) Q E s:=by
 have ty:s.TypeIs (.ref z) "zip":=⟨_,g0,rfl⟩
 unfold eP;exact aa (eM (bN (name:=ak "__next__") ty iQ (c7 iQ ty rG
   (Ux D f1 f2 g0 gI gO q1 q2 ex ey λg a1 a2 a3 a4 a5 a6 a7=>wpAny_pure (R g a1 a2 a3 a4 a5 a6 a7)) (pT _))))
theorem AH {TI TO:Addr}{k1 k2:Nat}{Q:Option aj->Shared->Prop}(hh:A.handled=none) (D:nO z TI TO i1 i2 l1 l2) (f1:Feeds prog w i1 l1 xs S1) (f2:Feeds prog w i2 l2 ys S2)
  (g0:lC s.heap z TI TO .none) (gI:dJ s.heap TI (.ref i1) (.ref i2)) (gO:dJ s.heap TO a b) (q1:S1 k1 s.heap) (q2:S2 k2 s.heap) (ed:xs[k1]? = none\/ys[k2]? = none)
  (R:∀g,(∀c o,c≠z->c≠TO->c≠i1->c≠i2->s.heap.get? c=some o->g.get? c=some o)->Q none { s with heap:=g }):ax (aE prog w) A (eP (.ref z)) Q E s:=by
 have ty:s.TypeIs (.ref z) "zip":=⟨_,g0,rfl⟩
 unfold eP;refine aa (eM (bN (name:=ak "__next__") ty iQ (c7 iQ ty rG (Uu hh D f1 f2 g0 gI gO q1 q2 ed λg e hk he=>?_) (pT _))))
 obtain ⟨o,ho,hc⟩:=he
 exact aa (mi (T:="StopIteration") (b:=true) ⟨o,ho,hc⟩ nQ (wpAny_pure (R _ hk)))
noncomputable def GL (t:Bool):String:=match t with | true=>"tuple_iterator" | false=>"list_iterator"
noncomputable def ItK (t:Bool) (h:Heap) (i l:Addr) (k:Nat):Prop:=match t with | true=>h.IsTupleIter i l k | false=>h.IsListIter i l k
noncomputable def IsK (t:Bool) (h:Heap) (l:Addr) (xs:Array aj):Prop:=match t with | true=>h.IsTuple l xs | false=>h.IsList l xs
noncomputable def SqK (t:Bool) (K:ag) (H:Hp) (a:Addr) (xs:List V):Prop:=match t with | true=>SqT K H a xs | false=>SqL K H a xs
theorem IsK.at {t:Bool}{h':Heap}{xs:Array aj}(q:IsK t h l xs) (k:∀o,h.get? l=some o->h'.get? l=some o):IsK t h' l xs:=by
 cases t with
 | true=>obtain ⟨o,e,r⟩:=q;exact ⟨o,k o e,r⟩
 | false=>exact Heap.IsList.at q λo e=>k o e
theorem IsK.lt {t:Bool}{xs:Array aj}(q:IsK t h l xs):l<h.objs.size:=by
 cases t with
 | true=>obtain ⟨o,e,r⟩:=q;exact aw e
 | false=>obtain ⟨o,e,r⟩:=q;exact aw e
theorem ItK.at {t:Bool}{h':Heap}{k:Nat}(q:ItK t h i l k) (f:∀o,h.get? i=some o->h'.get? i=some o):ItK t h' i l k:=by
 cases t with
 | true=>obtain ⟨o,e,r⟩:=q;exact ⟨o,f o e,r⟩
 | false=>obtain ⟨o,e,r⟩:=q;exact ⟨o,f o e,r⟩
theorem ItK.obj {t:Bool}{k:Nat}(q:ItK t h i l k):∃o,h.get? i=some o/\∀v,o.data≠.cell v:=by
 cases t with
 | true=>obtain ⟨o,e,_,d⟩:=q;exact ⟨o,e,λv z=>by rw [d] at z;cases z⟩
 | false=>obtain ⟨o,e,_,d⟩:=q;exact ⟨o,e,λv z=>by rw [d] at z;cases z⟩
theorem ItK.of {t:Bool}{h:Heap}{i:Addr}(e:h.get? i=some { cls:=.type (GL t),data:=.fields #[.ref l,.int 0 0] }):ItK t h i l 0:=by
 cases t with
 | true=>exact ⟨_,e,rfl,rfl⟩
 | false=>exact ⟨_,e,rfl,rfl⟩
theorem QB {t:Bool}{i l:Addr}{xs:Array aj}(n:l≠i):Feeds prog w i l xs λk h=>ItK t h i l k/\IsK t h l xs:=by
 cases t with
 | true=>exact Vv n
 | false=>exact ZE n
theorem Y5 {t:Bool}{Q:aj->Shared->Prop}(q:IsK t s.heap l xs) (z:Q (.ref s.heap.objs.size) { s with heap:=s.heap.push { cls:=.type (GL t),data:=.fields #[.ref l,.int 0 0] } }):ax (aE prog w) A (lR (.ref l)) Q E s:=by
 cases t with
 | true=>exact oI q z
 | false=>exact dE q z
noncomputable abbrev zp1 (t:Bool) (h:Heap) (l:Addr):Heap:=h.push { cls:=.type (GL t),data:=.fields #[.ref l,.int 0 0] }
noncomputable abbrev zp2 (t u:Bool) (h:Heap) (l m:Addr):Heap:=zp1 u (zp1 t h l) m
noncomputable abbrev zp3 (t u:Bool) (h:Heap) (l m:Addr):Heap:=(zp2 t u h l m).push { cls:=.type "tuple",data:=.seq #[.ref h.objs.size,.ref (zp1 t h l).objs.size] }
noncomputable abbrev zp4 (t u:Bool) (h:Heap) (l m:Addr):Heap:=(zp3 t u h l m).push { cls:=.type "tuple",data:=.seq #[.none,.none] }
noncomputable abbrev zp5 (t u:Bool) (h:Heap) (l m:Addr):Heap:=(zp4 t u h l m).push { cls:=.type "zip",data:=.fields #[.none,.bool false,.bool false,.ref (zp2 t u h l m).objs.size,.ref (zp3 t u h l m).objs.size] }
theorem Vj (t u:Bool) (l m:Addr) (xs ys:Array aj) :
  Meets (eR.«zip.__new__» ⟨[.type "zip",.ref l,.ref m],[]⟩) (λ_ R s=>IsK t s.heap l xs/\IsK u s.heap m ys/\R (.ok (.ret (.ref (zp4 t u s.heap l m).objs.size))) { s with heap:=zp5 t u s.heap l m }) :=
 .of_wp λprog w A R s0 h=>by
  obtain ⟨hp,g,d,tk,os⟩:=s0;obtain ⟨q1,q2,h⟩:=h;have hsub:=sub_zip
  have p1:IsK t (Shared.heap ⟨hp,g,d,tk,os⟩) l xs:=q1
  have p2:IsK u (Shared.heap ⟨zp1 t hp l,g,d,tk,os⟩) m ys:=q2.at λo e=>ai _ e
  wp_walk using Y5 p1,Y5 p2
  exact ⟨_,rfl,h⟩
theorem EW {t u:Bool}{Q:aj->Shared->Prop}(q1:IsK t s.heap l xs) (q2:IsK u s.heap m ys)
  (R:∀g,lC g (s.heap.objs.size+4) (s.heap.objs.size+2) (s.heap.objs.size+3) .none->dJ g (s.heap.objs.size+2) (.ref s.heap.objs.size) (.ref (s.heap.objs.size+1)) ->
   dJ g (s.heap.objs.size+3) .none .none->ItK t g s.heap.objs.size l 0->ItK u g (s.heap.objs.size+1) m 0->(∀c o,s.heap.get? c=some o->g.get? c=some o)->Q (.ref (s.heap.objs.size+4)) { s with heap:=g }) :
  ax (aE prog w) A (call (.type "zip") [.ref l,.ref m]) Q E s:=by
 refine callType_new F.called_zip ⋯ (F.typeCall_zip_2 _ _) (F.newCall_zip_2 _ _) (λobj=>F.args_object_init_3 obj _ _) F.entry_zip_new (Vj t u l m xs ys) ⟨q1,q2,?_⟩
 have z1:(zp1 t s.heap l).objs.size=s.heap.objs.size+1:=cB ..
 have z2:(zp2 t u s.heap l m).objs.size=s.heap.objs.size+2:=by rw [cB,z1]
 have z3:(zp3 t u s.heap l m).objs.size=s.heap.objs.size+3:=by rw [cB,z2]
 have z4:(zp4 t u s.heap l m).objs.size=s.heap.objs.size+4:=by rw [cB,z3]
 have g5:(zp5 t u s.heap l m).get? (zp4 t u s.heap l m).objs.size=some _:=ay _ rfl
 have g4:(zp5 t u s.heap l m).get? (zp3 t u s.heap l m).objs.size=some _:=ai _ (ay _ rfl)
 have g3:(zp5 t u s.heap l m).get? (zp2 t u s.heap l m).objs.size=some _:=ai _ (ai _ (ay _ rfl))
 have g2:(zp5 t u s.heap l m).get? (zp1 t s.heap l).objs.size=some _:=ai _ (ai _ (ai _ (ay _ rfl)))
 have g1:(zp5 t u s.heap l m).get? s.heap.objs.size=some _:=ai _ (ai _ (ai _ (ai _ (ay _ rfl))))
 show _/\_
 rw [z2,z3,z4] at g5;rw [z1,z2] at g3;rw [z3] at g4;rw [z1] at g2;rw [z4]
 exact ⟨⟨_,g5,rfl⟩,R _ g5 g3 g4 (.of g1) (.of g2) λc o x=>ai _ (ai _ (ai _ (ai _ (ai _ x))))⟩
end
section
variable {X:Cx}{s:Shared}{σ:St}{H:Hp}{pins:List (Addr×Obj)}
theorem VC {t:Bool}(I:Inv X pins σ H s) (h:SqK t X.K H a xs):∃its:List aj,jE xs its/\IsK t s.heap a its.toArray/\xs.length<=sizeLine:=by
 cases t with
 | true=>exact I.tuple h
 | false=>obtain ⟨its,r,p,z⟩:=I.list h;exact ⟨its,r,p.isList,z⟩
theorem QR {t:Bool}(I:Inv X pins σ H s) (h:SqK t X.K H a xs) (h':SqK t X.K H a ys):xs=ys:=by
 cases t with
 | true=>exact I.tuple_inj h h'
 | false=>exact I.list_inj h h'
end
noncomputable def VG (K:ag) (t u:Bool) (l1 l2:Addr):It :=
 ⟨λi H=>∃xs ys x y,SqK t K H l1 xs/\SqK u K H l2 ys/\xs[i]? = some x/\ys[i]? = some y,λi H v H'=>∃p x y,v = .ref p/\H p=none/\H'=upd H p (.tup [x,y])/\(∀xs,SqK t K H l1 xs->xs[i]? = some x)/\∀ys,SqK u K H l2 ys->ys[i]? = some y,
  λi H=>∃xs ys,SqK t K H l1 xs/\SqK u K H l2 ys/\(xs.length<=i\/ys.length<=i)⟩
theorem YS {t u:Bool}{K:ag}{x1:Nat}{pos:Pos}{TI TO:Addr}(D:nO z TI TO i1 i2 l1 l2) :
  Turn P w K (.Tuple es x1 pos) (VG K t u l1 l2) [z,TI,TO,i1,i2] z (λi h=>∃a b,lC h z TI TO .none/\dJ h TI (.ref i1) (.ref i2)/\dJ h TO a b/\ItK t h i1 l1 i/\ItK u h i2 l2 i) where
 mem:=by simp
 obj:=λi h ⟨a,b,t1,t2,t3,t4,t5⟩ c hc=>by
  simp only [eN,fi,or_false] at hc
  rcases hc with rfl | rfl | rfl | rfl | rfl
  ·exact ⟨_,t1,λv e=>by have e':nk _=m7 v:=e;cases e'⟩
  ·exact ⟨_,t2,λv e=>by have e':Data.seq _ _=m7 v:=e;cases e'⟩
  ·exact ⟨_,t3,λv e=>by have e':Data.seq _ _=m7 v:=e;cases e'⟩
  ·exact t4.obj
  ·exact t5.obj
 keep:=λi h h' ⟨a,b,t1,t2,t3,t4,t5⟩ k=>⟨a,b,k z (by simp) _ t1,k TI (by simp) _ t2,k TO (by simp) _ t3,t4.at λo e=>k i1 (by simp) o e,t5.at λo e=>k i2 (by simp) o e⟩
 item:=by
  intro X hP hw hK hc i pins s σ H E I hf st hg
  subst hP hw hK
  obtain ⟨a,b,t1,t2,t3,t4,t5⟩:=st
  obtain ⟨xs,ys,x,y,hq1,hq2,hx,hy⟩:=hg
  obtain ⟨its1,rv1,p1,_⟩:=VC I hq1
  obtain ⟨its2,rv2,p2,_⟩:=VC I hq2
  obtain ⟨u1,hu1,ru1⟩:=rv1.get hx
  obtain ⟨u2,hu2,ru2⟩:=rv2.get hy
  have hn:H s.heap.objs.size=none:=I.hok.fresh (ar _)
  have fz:=hf z (by simp)
  have fTO:=hf TO (by simp)
  have f1:=hf i1 (by simp)
  have f2:=hf i2 (by simp)
  refine Ab D (QB D.l1i1) (QB D.l2i2) t1 t2 t3 ⟨t4,p1⟩ ⟨t5,p2⟩ (x:=u1) (y:=u2) (by simpa using hu1) (by simpa using hu2) λh' o1 o2 o3 o4 o5 o6 o7=>⟨_,rfl,?_⟩
  obtain ⟨o3,_⟩:=o3;obtain ⟨o4,_⟩:=o4
  refine wpAny_letOwnedTupleGo_zip o1 λh2 q1 sb=>?_
  have hzl:z<s.heap.objs.size:=aw t1
  have kk:∀c o,c≠z->c≠TO->c≠i1->c≠i2->s.heap.get? c=some o->h2.get? c=some o:=λc o n1 n2 n3 n4 e=>(sb.2 c n1).trans (o7 c o n1 n2 n3 n4 e)
  have et:h2.get? s.heap.objs.size=some { cls:=.type "tuple",data:=.seq #[u1,u2] }:=(sb.2 _ (cN hzl)).trans o5
  have tne:∀c o,H c=some o->c≠z/\c≠TO/\c≠i1/\c≠i2/\c≠s.heap.objs.size:=λc o q=>⟨λe=>(by rw [e,fz.1] at q;cases q),λe=>(by rw [e,fTO.1] at q;cases q),λe=>(by rw [e,f1.1] at q;cases q),λe=>(by rw [e,f2.1] at q;cases q),λe=>(by rw [e,hn] at q;cases q)⟩
  have getF:∀{c:Addr} {o:HO},H c=some o->upd H s.heap.objs.size (.tup [x,y]) c=some o:=λ{c o} q=>by rw [j7 (tne c o q).2.2.2.2];exact q
  have nin:∀{c:Addr},c∉[z,TO,i1,i2]->c≠z/\c≠TO/\c≠i1/\c≠i2:=λ{c} h=>by simpa using h
  have I1:Inv X pins σ (upd H s.heap.objs.size (.tup [x,y])) { s with heap:=h2,toks:=s.toks }:=by
   refine I.step (g':=s.gens) (d':=s.drawn) (ch:=[z,TO,i1,i2]) (λc hc'=>?_) (λc o _ _ hc' e _=>kk c o (nin hc').1 (nin hc').2.1 (nin hc').2.2.1 (nin hc').2.2.2 e) (λc o _ _ hc' e _=>⟨o.slots,kk c o (nin hc').1 (nin hc').2.1 (nin hc').2.2.1 (nin hc').2.2.2 e⟩)
    (λc o _ e n=>by rw [j7 (aC (aw e))];exact n) (λc o hc' e=>⟨o,kk c o (nin hc').1 (nin hc').2.1 (nin hc').2.2.1 (nin hc').2.2.2 e⟩) (λ_ _ q=>getF q) (λ_ _ _ q=>getF q) (λc ps q=>⟨#[],by rw [getF q];simp⟩) (λm hm=>?_) (λc v q=>?_) I.bare
   ·simp only [eN,fi,or_false] at hc'
    rcases hc' with rfl | rfl | rfl | rfl
    ·exact ⟨fz.2.2.2.1,fz.2.1,fz.2.2.2.2.1,fz.2.2.2.2.2⟩
    ·exact ⟨fTO.2.2.2.1,fTO.2.1,fTO.2.2.2.2.1,fTO.2.2.2.2.2⟩
    ·exact ⟨f1.2.2.2.1,f1.2.1,f1.2.2.2.2.1,f1.2.2.2.2.2⟩
    ·exact ⟨f2.2.2.2.1,f2.2.1,f2.2.2.2.2.1,f2.2.2.2.2.2⟩
   ·obtain ⟨o,es,ep,ho,r⟩:=hm
    exact ⟨o,es,ep,kk _ o (cF fz.2.1) (cF fTO.2.1) (cF f1.2.1) (cF f2.2.1) ho,r⟩
   ·by_cases hb:c=s.heap.objs.size
    ·subst hb
     rw [j6] at q;cases q
     exact ⟨by show 2<=sizeLine;decide,[u1,u2],.cons ru1 (.cons ru2 .nil),⟨_,et,rfl,0,rfl⟩⟩
    ·rw [j7 hb] at q
     have hh:=tne c v q
     refine (I.hok c v q).stay (λc' o hc' e=>?_) (λ_ e=>getF e) λ_ _ e=>getF e
     have hh':c'≠z/\c'≠TO/\c'≠i1/\c'≠i2:=by
      rcases hc' with e | e
      ·rw [e];exact ⟨hh.1,hh.2.1,hh.2.2.1,hh.2.2.2.1⟩
      ·have:=tne c' _ e;exact ⟨this.1,this.2.1,this.2.2.1,this.2.2.2.1⟩
     exact kk c' o hh'.1 hh'.2.1 hh'.2.2.1 hh'.2.2.2 e
  have s2:∀{c:Addr} {o:Obj},c≠z->h'.get? c=some o->h2.get? c=some o:=λn e=>(sb.2 _ n).trans e
  refine ⟨.ref s.heap.objs.size,_,I1,rfl,⟨_,x,y,rfl,hn,rfl,λys' hy'=>by rw [QR I hy' hq1];exact hx,λys' hy'=>by rw [QR I hy' hq2];exact hy⟩,⟨u1,u2,q1,kk _ _ D.TIz D.TITO D.TIi1 D.TIi2 t2,s2 D.TOz o2,o3.at λo e=>s2 D.i1z e,o4.at λo e=>s2 D.i2z e⟩,λc hc'=>?_⟩
  have hl:c<s.heap.objs.size:=by
   simp only [eN,fi,or_false] at hc'
   rcases hc' with rfl | rfl | rfl | rfl | rfl
   ·exact hzl
   ·exact aw t2
   ·exact aw t3
   ·obtain ⟨o,e,_⟩:=t4.obj;exact aw e
   ·obtain ⟨o,e,_⟩:=t5.obj;exact aw e
  rw [j7 (aC hl)]
  exact (hf c hc').1
 done:=by
  intro X hP hw hK hc i pins s σ H E I hf st hg
  subst hP hw hK
  obtain ⟨a,b,t1,t2,t3,t4,t5⟩:=st
  obtain ⟨xs,ys,hq1,hq2,hend⟩:=hg
  obtain ⟨its1,rv1,p1,_⟩:=VC I hq1
  obtain ⟨its2,rv2,p2,_⟩:=VC I hq2
  have e1:=rv1.length
  have e2:=rv2.length
  have fz:=hf z (by simp)
  have fTO:=hf TO (by simp)
  have f1:=hf i1 (by simp)
  have f2:=hf i2 (by simp)
  have tne:∀c o,H c=some o->c≠z/\c≠TO/\c≠i1/\c≠i2:=λc o q=>⟨λe=>(by rw [e,fz.1] at q;cases q),λe=>(by rw [e,fTO.1] at q;cases q),λe=>(by rw [e,f1.1] at q;cases q),λe=>(by rw [e,f2.1] at q;cases q)⟩
  have nin:∀{c:Addr},c∉[z,TO,i1,i2]->c≠z/\c≠TO/\c≠i1/\c≠i2:=λ{c} h=>by simpa using h
  refine AH (I.ok.hd hc) D (QB D.l1i1) (QB D.l2i2) t1 t2 t3 ⟨t4,p1⟩ ⟨t5,p2⟩ ?_ λh' kk=>⟨rfl,?_⟩
  ·rcases hend with h | h
   ·exact .inl (by simp;omega)
   ·exact .inr (by simp;omega)
  ·refine I.step (g':=s.gens) (d':=s.drawn) (t':=s.toks) (ch:=[z,TO,i1,i2]) (λc hc'=>?_) (λc o _ _ hc' e _=>kk c o (nin hc').1 (nin hc').2.1 (nin hc').2.2.1 (nin hc').2.2.2 e) (λc o _ _ hc' e _=>⟨o.slots,kk c o (nin hc').1 (nin hc').2.1 (nin hc').2.2.1 (nin hc').2.2.2 e⟩)
    (λ_ _ _ _ n=>n) (λc o hc' e=>⟨o,kk c o (nin hc').1 (nin hc').2.1 (nin hc').2.2.1 (nin hc').2.2.2 e⟩) (λ_ _ q=>q) (λ_ _ _ q=>q) (λc ps q=>⟨#[],by rw [q];simp⟩) (λm hm=>?_) (λc v q=>?_) I.bare
   ·simp only [eN,fi,or_false] at hc'
    rcases hc' with rfl | rfl | rfl | rfl
    ·exact ⟨fz.2.2.2.1,fz.2.1,fz.2.2.2.2.1,fz.2.2.2.2.2⟩
    ·exact ⟨fTO.2.2.2.1,fTO.2.1,fTO.2.2.2.2.1,fTO.2.2.2.2.2⟩
    ·exact ⟨f1.2.2.2.1,f1.2.1,f1.2.2.2.2.1,f1.2.2.2.2.2⟩
    ·exact ⟨f2.2.2.2.1,f2.2.1,f2.2.2.2.2.1,f2.2.2.2.2.2⟩
   ·obtain ⟨o,es,ep,ho,r⟩:=hm
    exact ⟨o,es,ep,kk _ o (cF fz.2.1) (cF fTO.2.1) (cF f1.2.1) (cF f2.2.1) ho,r⟩
   ·have hh:=tne c v q
    refine (I.hok c v q).stay (λc' o hc' e=>?_) (λ_ e=>e) λ_ _ e=>e
    have hh':c'≠z/\c'≠TO/\c'≠i1/\c'≠i2:=by
     rcases hc' with e | e
     ·rw [e];exact hh
     ·exact tne c' _ e
    exact kk c' o hh'.1 hh'.2.1 hh'.2.2.1 hh'.2.2.2 e
 self:=λ_ _ _ _ _ ⟨_,_,t1,_⟩ h=>rH t1 h
section
variable {X:Cx}
noncomputable def Ax (K:ag) (ta:TA):TI:=λσ H R=>ta σ H λvs H1=>∃t u a b,vs=[.ref a,.ref b]/\(∃xs,SqK t K H1 a xs)/\(∃ys,SqK u K H1 b ys)/\R (VG K t u a b) H1
theorem Wh {x1:Nat}{l r:Expr}{p pos:Pos}(K:ag) (hg:Gl X "zip") (hm:X.mg "zip" = none) (ha:PA X [l,r] ta) (hs:aP [l,r] X.env=(false,eval l X.env)::aP [r] X.env:=by rfl) (hs2:(cM pos (aP [r] X.env)).any (·.1)=false:=by rfl) (hK:X.K=K:=by rfl) :
  PI X (.Tuple es x1 tpos) (.Call (.Name "zip" p) [l,r] [] pos) (Ax K ta):=by
 subst hK
 intro pins s σ H R I h
 refine AZ (yN I hg hm boot_zip (cf (thn (ha pos pins s σ H _ I h) λus s1 ⟨vs,H1,I1,r1,q1⟩=>?_) hs hs2))
 obtain ⟨t,t2,a,b,e,⟨xs,hq⟩,⟨ys,hq2⟩,q⟩:=q1
 subst e
 obtain ⟨u,u2,rfl,ru,ru2⟩:=Yb r1
 cases ru
 cases ru2
 obtain ⟨its,rv,pl,_⟩:=VC I1 hq
 obtain ⟨its2,rv2,pl2,_⟩:=VC I1 hq2
 refine EW pl pl2 λh' z1 z2 z3 z4 z5 kk=>?_
 refine rH z1 ?_
 have I2:Inv X pins σ H1 { s1 with heap:=h',toks:=s1.toks }:=I1.kept kk
 have la:a<s1.heap.objs.size:=pl.lt
 have lb:b<s1.heap.objs.size:=pl2.lt
 have D:nO (s1.heap.objs.size+4) (s1.heap.objs.size+2) (s1.heap.objs.size+3) s1.heap.objs.size (s1.heap.objs.size+1) a b:=by
  constructor <;> first | exact aC la | exact aC lb | exact aC (aO la (dR _ _)) | exact aC (aO lb (dR _ _)) | (apply aC;omega) | (apply cN;omega)
 refine ⟨_,[s1.heap.objs.size+4,s1.heap.objs.size+2,s1.heap.objs.size+3,s1.heap.objs.size,s1.heap.objs.size+1],_,_,H1,rfl,I2,YS D,⟨.none,.none,z1,z2,z3,z4,z5⟩,λc hc=>?_,q⟩
 have hle:s1.heap.objs.size<=c:=by
  simp only [eN,fi,or_false] at hc
  rcases hc with rfl | rfl | rfl | rfl | rfl
  ·exact dR _ _
  ·exact dR _ _
  ·exact dR _ _
  ·exact ar _
  ·exact dR _ _
 exact I1.fpOk hle (I1.hok.fresh hle)
end
theorem Jt {K:ag}{t0 u0:Bool}{xs ys:List V}{g:TG}{ti:TT}{te:TE}{R:Hp->Prop}{σ:St}{H:Hp}(hl2:xs.length=ys.length) (Pv:Nat->St->Hp->Prop) (h0:Pv 0 σ H) (hl:∀i σ H,i<=xs.length->Pv i σ H->SqK t0 K H a xs/\SqK u0 K H b ys)
  (hs:∀i x y σ H t,xs[i]? = some x->ys[i]? = some y->Pv i σ H->H t=none->g (.ref t) σ (upd H t (.tup [x,y])) λσ3 H3=>ti σ3 H3 λok H4=>if ok=true then te σ3 H4 λv H5=>∃zs,H5 acc=some (.lst zs)/\zs.length<sizeLine/\Pv (i+1) σ3 (upd H5 acc (.lst (zs++[v]))) else Pv (i+1) σ3 H4)
  (hd:∀σ H,Pv xs.length σ H->R H) :
  ∃W:Nat->Nat->St->Hp->Prop,(∃m,W 0 m σ H)/\∀i m σ' H',W i m σ' H' ->
   ((VG K t0 u0 a b).stop i H'/\R H')\/((VG K t0 u0 a b).go i H'/\∃NX:St->Hp->Prop,(∀σ2 H2,NX σ2 H2->∃m',m'<m/\W (i+1) m' σ2 H2) /\
    ∀x H2,(VG K t0 u0 a b).yld i H' x H2->g x σ' H2 λσ3 H3=>ti σ3 H3 λok H4=>if ok=true then te σ3 H4 λv H5=>∃zs,H5 acc=some (.lst zs)/\zs.length<sizeLine/\NX σ3 (upd H5 acc (.lst (zs++[v]))) else NX σ3 H4):=by
 refine ⟨λi m σ H=>m=xs.length-i/\i<=xs.length/\Pv i σ H,⟨xs.length,by simp,aJ _,h0⟩,?_⟩
 rintro i m σ H ⟨rfl,hi,p⟩
 obtain ⟨q,q2⟩:=hl i σ H hi p
 by_cases hlt:i<xs.length
 ·refine .inr ⟨⟨xs,ys,xs[i],ys[i]'∅,q,q2,by simp [hlt],af ∅⟩,Pv (i+1),λσ' H' p'=>⟨xs.length-(i+1),∅,rfl,hlt,p'⟩,λv H' y=>?_⟩
  obtain ⟨t,x,y',rfl,hn,rfl,y1,y2⟩:=y
  exact hs i x y' σ H t (y1 xs q) (y2 ys q2) p hn
 ·have e:i=xs.length:=∅
  subst e
  exact .inl ⟨⟨xs,ys,q,q2,.inl (ar _)⟩,hd σ H p⟩
end L2
end
section
namespace L2
open PySem.W
mutual
inductive Dat (H:Hp):V->PyData->Prop
 | non:Dat H .non .none
 | bl (b:Bool):Dat H (.bl b) (.bool b)
 | int (i:Int):Dat H (.int i) (.int i)
 | str (x:Str):Dat H (.str x) (.str x)
 | tup {p:Addr} {vs:List V} {ds:List PyData}:H p=some (.tup vs)->DatL H vs ds->Dat H (.ref p) (.tuple ds)
 | lst {p:Addr} {vs:List V} {ds:List PyData}:H p=some (.lst vs)->DatL H vs ds->Dat H (.ref p) (.list ds)
inductive DatL (H:Hp):List V->List PyData->Prop
 | nil:DatL H [] []
 | cons {v:V} {vs:List V} {d:PyData} {ds:List PyData}:Dat H v d->DatL H vs ds->DatL H (v::vs) (d::ds)
end
mutual
theorem Dat.ext (x:Up M H H') (hM:∀c,M c->∀vs,H c≠some (.lst vs)/\H c≠some (.tup vs)):∀{v:V}{d:PyData},Dat H v d->Dat H' v d
 | _,_,.non=>.non
 | _,_,.bl b=>.bl b
 | _,_,.int i=>.int i
 | _,_,.str y=>.str y
 | _,_,.tup h r=>.tup (x _ _ h λz=>(hM _ z _).2 h) (DatL.ext x hM r)
 | _,_,.lst h r=>.lst (x _ _ h λz=>(hM _ z _).1 h) (DatL.ext x hM r)
theorem DatL.ext (x:Up M H H') (hM:∀c,M c->∀vs,H c≠some (.lst vs)/\H c≠some (.tup vs)):∀{vs:List V}{ds:List PyData},DatL H vs ds->DatL H' vs ds
 | _,_,.nil=>.nil
 | _,_,.cons h r=>.cons (Dat.ext x hM h) (DatL.ext x hM r)
end
theorem Dat.same (s:jj H H') (h:Dat H v d):Dat H' v d:=h.ext (M:=λ_=>False) (Up.of_same s) (λ_ z=>z.elim)
mutual
theorem Dat.rep {M:Addr->Prop}(hM:∀p,¬M p) {K:ag}:∀{v:V}{d:PyData},Dat H v d->Rep M K H v d
 | _,_,.non=>.non
 | _,_,.bl b=>.bl b
 | _,_,.int i=>.int i
 | _,_,.str y=>.str y
 | _,_,.tup h r=>.tup (hM _) (SqT.of h) (DatL.rep hM r)
 | _,_,.lst h r=>.lst (hM _) (SqL.of h) (DatL.rep hM r)
theorem DatL.rep {M:Addr->Prop}(hM:∀p,¬M p) {K:ag}:∀{vs:List V}{ds:List PyData},DatL H vs ds->RepL M K H vs ds
 | _,_,.nil=>.nil
 | _,_,.cons h r=>.cons (Dat.rep hM h) (DatL.rep hM r)
end
theorem DatL.length :∀{vs:List V}{ds:List PyData},DatL H vs ds->vs.length=ds.length
 | _,_,.nil=>rfl
 | _,_,.cons _ r=>congrArg Nat.succ r.length
theorem DatL.get :∀{vs:List V}{ds:List PyData}{i:Nat}{v:V},DatL H vs ds->vs[i]? = some v->∃d,ds[i]? = some d/\Dat H v d
 | _,_,_,_,.nil,e=>by simp at e
 | _,_,0,_,.cons r _,e=>by simp at e;subst e;exact ⟨_,rfl,r⟩
 | _,_,i+1,v,.cons _ t,e=>by
  obtain ⟨d,h1,h2⟩:=DatL.get (i:=i) (v:=v) t (by simpa using e)
  exact ⟨d,by simpa using h1,h2⟩
noncomputable def zB:Nat->PyData->Bool
 | 0,_=>false
 | _+1,.none=>true
 | _+1,.bool _=>true
 | _+1,.int _=>true
 | _+1,.str _=>true
 | n+1,.list ds=>decide (ds.length<=1000) && ds.all (zB n)
 | n+1,.tuple ds=>decide (ds.length<=1000) && ds.all (zB n)
 | _+1,_=>false
noncomputable def WE (n:Nat):Sp:=λvs H Q _=>∃(x y:V) (d:PyData),vs=[x,y]/\Dat H x d/\Dat H y d/\zB n d=true/\∀H',jj H H'->Q (.bl true) H'
theorem YU {n:Nat}{ds:List PyData}(h:ds.length<=1000) (a:ds.all (zB n)=true):zB (n+1) (.list ds)=true:=by
 show (decide (ds.length<=1000) && ds.all (zB n))=true
 rw [decide_eq_true h,a];rfl
theorem Xd (K:ag):b8 K (.type "str") (.type "bool")=some false:=(qm K _ _).trans (by decide +kernel)
theorem Z8 (K:ag):b8 K (.type "str") (.type "int")=some false:=(qm K _ _).trans (by decide +kernel)
theorem Jc (K:ag):b8 K (.type "str") (.type "str")=some true:=(qm K _ _).trans (by decide +kernel)
end L2
end
section
namespace L2
open PySem.W
noncomputable def Two (vs:Array aj) (a0:aj):Prop:=vs[0]? = some a0/\vs[2]? = some .none
theorem Two.put (t:Two vs a0) (x:aj):Two (vs.setIfInBounds 1 x) a0 :=
 ⟨by rw [ig ⋯];exact t.1,by rw [ig ⋯];exact t.2⟩
theorem Ut (o:Obj) (f:Array aj->Array aj):(o.mapFields f).dict=o.dict:=by
 obtain ⟨c,d,dt,sl⟩:=o
 cases dt <;> rfl
noncomputable def OnT (h B:Heap) (e:Addr) (cls a0 fl:aj):Prop :=
 ∃oe vs T oT ts,h.get? e=some oe/\(oe.cls=cls/\Two vs a0/\oe.dict=none)/\oe.data = .fields vs/\vs[1]? = some (.ref T)/\B.get? T=none/\T≠e/\h.get? T=some oT/\oT.data = .fields ts/\ts[3]? = some fl
section
variable {M:Model}{A:bz}{E:aj->Shared->Prop}{s:Shared}{B:Heap}{env:Env}{outer l:List Env}{L e:Addr}{cls a0 fl:aj}{Q:Unit->Shared->Prop}
theorem yD (st:B.StaysIn s.heap) (fu:s.heap.FunFrames B l) (on:OnT s.heap B e cls a0 fl)
  (k:∀g,B.StaysIn g->g.FunFrames B l->OnT g B e cls a0 .none->(∀b o,s.heap.get? b=some o->(∀vs,o.data≠.fields vs)->g.get? b=some o)->Q () { s with heap:=g }):ax M A (setFlight (.ref e) none) Q E s:=by
 obtain ⟨oe,vs,T,oT,ts,ge,gc,gd,g1,gB,gn,gT,gD,g3⟩:=on
 have z3:3<ts.size:=(Array.getElem?_eq_some_iff.mp g3).1
 have ot:∀b,b≠T->(s.heap.update T (eO (·.setIfInBounds 3 ((none:Option Addr).elim aU λf=>cc f)))).get? b=s.heap.get? b:=λb hb =>
  c0 _ _ hb.symm
 have nr:∀{b o},s.heap.get? b=some o->(∀vs,o.data≠.fields vs)->b≠T:=λhb hn q=>by
  rw [q,gT] at hb
  cases hb
  exact hn ts gD
 unfold setFlight
 refine aa (bB ge gd g1 ?_)
 rw [if_pos (by simp)]
 refine fb gT gD z3 (k _ (λb o hb=>?_) (fu.of_keeps λb o hb hn=>⟨o,?_,rfl⟩) ?_ λb o hb hn=>?_)
 ·rw [ot b λq=>by rw [q,gB] at hb;cases hb]
  exact st b o hb
 ·rw [ot b (nr hb hn)]
  exact hb
 ·refine ⟨oe,vs,T,_,_,?_,gc,gd,g1,gB,gn,dA _ gT (eQ (eC gD _)),eC gD _,by simp [z3]⟩
  rw [ot e gn.symm]
  exact ge
 ·rw [ot b (nr hb hn)]
  exact hb
theorem QN {nx:Bool}(fr:A.frames=some (env::outer)) (fu:s.heap.FunFrames B (env::outer)) (hL:env.frame=some L) (ge:s.heap.get? e=some oe) (st:B.StaysIn s.heap) (ne:B.get? e=none) (gd:oe.data = .fields vs)
  (z1:1<vs.size) (tw:Two vs a0) (dn:oe.dict=none) (k:∀g,B.StaysIn g->g.FunFrames B (env::outer)->OnT g B e oe.cls a0 (cc L)->s.heap.UpToSlots g->Q () { s with heap:=g }) :
  ax M A (do let a <- frameOf env;let pl <- entryPlaceOf L nx;let b <- oq head a .none (cc L) .none pl;setField (.ref e) 1 b) Q E s:=by
 have out:e∉(env::outer).filterMap (·.frame):=λq=>by
  obtain ⟨_,o,ho,hn⟩:=fu.mem q
  rw [ge] at ho
  cases ho
  exact hn vs gd
 refine aa (wpAny_frameOf_fun fr fu hL λg1 so=>?_)
 refine aa (wpAny_entryPlaceOf λpl sh=>?_)
 unfold oq newFields
 refine aa (bC ?_ (sh.sizeOk5 _ _ _ _ _))
 have e1:g1.get? e=some oe:=(so.2.1 e out).trans ge
 have s1:B.StaysIn g1:=λb o hb=>(so.2.1 b λq=>by rw [(fu.mem q).1] at hb;cases hb).trans (st b o hb)
 generalize hnew:({ cls:=.type "traceback",dict:=none,data:=.fields ([head,.ref L,.none,cc L,.none]++(if pl.isEmpty then bJ 6 aU else pl)).toArray }:Obj)=new
 have nd:new.data = .fields ([head,.ref L,.none,cc L,.none]++(if pl.isEmpty then bJ 6 aU else pl)).toArray:=by rw [<- hnew]
 have e2:=ai (h:=g1) new e1
 refine fb e2 gd z1 ?_
 have Te:g1.objs.size≠e:=cN (aw e1)
 have d3:=eC gd (·.setIfInBounds 1 (aV g1.objs.size))
 have e3:=dA (eO (·.setIfInBounds 1 (aV g1.objs.size))) e2 (eQ d3)
 have T3:((g1.push new).update e (eO (·.setIfInBounds 1 (aV g1.objs.size)))).get? g1.objs.size=some new:=by
  rw [c0 _ _ Te.symm]
  exact ay g1 (eQ nd)
 have kp:∀{b o},b≠e->g1.get? b=some o->((g1.push new).update e (eO (·.setIfInBounds 1 (aV g1.objs.size)))).get? b=some o:=λhb q=>by
  rw [c0 _ _ hb.symm]
  exact ai _ q
 have nr:∀{b o},s.heap.get? b=some o->(∀vs,o.data≠.fields vs)->b≠e:=λhb hn q=>by
  rw [q,ge] at hb
  cases hb
  exact hn vs gd
 refine k _ (λb o hb=>kp (λq=>by rw [q,ne] at hb;cases hb) (s1 b o hb)) (fu.of_keeps λb o hb hn=>?_) ?_ λb o hb hn=>?_
 ·obtain ⟨sl,hs⟩:=so.2.2 b o hb
  exact ⟨_,kp (nr hb hn) hs,rfl⟩
 ·exact ⟨_,_,g1.objs.size,_,_,e3,⟨pS _ _,tw.put _,(Ut _ _).trans dn⟩,d3,by simp [z1],s1.fresh,Te,T3,nd,by first | (simp;done) | (rcases sh with rfl | ⟨_,_,_,_,_,_,_,rfl⟩ <;> simp)⟩
 ·obtain ⟨sl,hs⟩:=so.2.2 b o hb
  exact ⟨sl,kp (nr hb hn) hs⟩
theorem ZZ (fr:A.frames=some (env::outer)) (fu:s.heap.FunFrames B (env::outer)) (hL:env.frame=some L) (on:OnT s.heap B e cls a0 .none) (st:B.StaysIn s.heap) (ne:B.get? e=none)
  (k:∀g,B.StaysIn g->g.FunFrames B (env::outer)->OnT g B e cls a0 (cc L)->s.heap.UpToSlots g->Q () { s with heap:=g }):ax M A (iY (.ref e) env) Q E s:=by
 obtain ⟨oe,vs,T,oT,ts,ge,⟨rfl,tw,dn⟩,gd,g1,gB,gn,gT,gD,g3⟩:=on
 unfold iY
 simp only [hL]
 refine aa (bB ge gd g1 ?_)
 rw [if_pos (by simp)]
 refine aa (bB gT gD g3 ?_)
 rw [if_neg (by simp [cc])]
 refine aa (fb gT gD (Array.getElem?_eq_some_iff.mp g3).1 ?_)
 have ot:∀b,b≠T->(s.heap.update T (eO (·.setIfInBounds 3 aU))).get? b=s.heap.get? b:=λb hb =>
  c0 _ _ hb.symm
 have nr:∀{b o},s.heap.get? b=some o->(∀vs,o.data≠.fields vs)->b≠T:=λhb hn q=>by
  rw [q,gT] at hb
  cases hb
  exact hn ts gD
 refine QN (oe:=oe) (vs:=vs) (a0:=a0) fr (fu.of_keeps λb o hb hn=>⟨o,?_,rfl⟩) hL ?_ (λb o hb=>?_) ne gd (Array.getElem?_eq_some_iff.mp g1).1 tw dn λg k1 k2 k3 k4=>k g k1 k2 k3 λb o hb hn=>?_
 ·exact (ot b (nr hb hn)).trans hb
 ·exact (ot e gn.symm).trans ge
 ·exact (ot b λq=>by rw [q,gB] at hb;cases hb).trans (st b o hb)
 ·exact k4 b o ((ot b (nr hb hn)).trans hb) hn
theorem VO (fr:A.frames=some (env::outer)) (fu:s.heap.FunFrames B (env::outer)) (hL:env.frame=some L) (on:OnT s.heap B e cls a0 .none) (st:B.StaysIn s.heap) (ne:B.get? e=none)
  (k:∀g,B.StaysIn g->g.FunFrames B (env::outer)->OnT g B e cls a0 .none->s.heap.UpToSlots g->Q () { s with heap:=g }):ax M A (oa env (.ref e)) Q E s:=by
 unfold oa
 refine aa (ZZ fr fu hL on st ne λg k1 k2 k3 k4=>?_)
 exact yD (s:={ s with heap:=g }) k1 k2 k3 λg' m1 m2 m3 m4=>k g' m1 m2 m3 (k4.trans λb o hb hn=>⟨o.slots,m4 b o hb hn⟩)
theorem Z1 (fr:A.frames=some (env::outer)) (hL:env.frame=some L) (st:B.StaysIn h) (fu:h.FunFrames B (env::outer)) (hx:nR h s.heap e cls args)
  (k:∀g t,B.StaysIn g->g.FunFrames B (env::outer)->OnT g B e cls (.ref t) .none->B.get? e=none->s.heap.UpToSlots g->Q () { s with heap:=g }):ax M A (oa env (.ref e)) Q E s:=by
 obtain ⟨t,ge,tn,gt⟩:=hx.there
 have new:B.get? e=none:=by
  cases q:B.get? e with
  | none=>rfl
  | some o =>
   have:=st e o q
   rw [hx.new] at this
   cases this
 unfold oa iY
 simp only [hL]
 refine aa (aa (bB (x:=.none) ge rfl rfl ?_))
 rw [if_neg ⋯]
 refine QN (a0:=.ref t) fr (fu.of_keeps λb o hb _=>⟨o,hx.keeps b o hb,rfl⟩) hL ge (λb o hb=>hx.keeps b o (st b o hb)) new rfl (by simp) ⟨rfl,rfl⟩ rfl λg k1 k2 k3 k4=>?_
 exact yD (s:={ s with heap:=g }) k1 k2 k3 λg' m1 m2 m3 m4=>k g' t m1 m2 m3 new (k4.trans λb o hb hn=>⟨o.slots,m4 b o hb hn⟩)
end
end L2
end
section
namespace L2
open PySem.W
structure Fly (g:Heap) (H:Hp) (h:Heap) (a:Addr) (cls fl:aj):Prop where
 na:g.get? a=none
 ha:H a=none
 ob:∃oe vs T oT ts a0,h.get? a=some oe/\(oe.cls=cls/\Two vs a0/\oe.dict=none)/\oe.data = .fields vs/\vs[1]? = some (.ref T)/\g.get? T=none/\H T=none/\T≠a/\h.get? T=some oT/\oT.data = .fields ts/\ts[3]? = some fl
theorem Fly.mono {g':Heap}(f:Fly g H h a cls fl) (l:∀b o,g'.get? b=some o->∃o',g.get? b=some o'):Fly g' H h a cls fl:=by
 have no:∀{b},g.get? b=none->g'.get? b=none:=λ{b} e=>by
  cases q:g'.get? b with
  | none=>rfl
  | some o =>
   obtain ⟨o',e'⟩:=l b o q
   rw [e] at e'
   cases e'
 obtain ⟨oe,vs,T,oT,ts,a0,h1,h2,h3,h4,h5,h6⟩:=f.ob
 exact ⟨no f.na,f.ha,oe,vs,T,oT,ts,a0,h1,h2,h3,h4,no h5,h6⟩
noncomputable def CX1 (P:Program) (w:bx):CXT:=λouter H s E e s' =>
 ∃a cls H',e = .ref a/\s'.os=s.os/\iz s'.gens/\Un (frs outer) [] H H' s.heap s'.heap/\HOk P w H' s'.heap/\Fly s.heap H' s'.heap a cls .none/\E cls none H'
noncomputable def za (X:Cx) (pins:List (Addr×Obj)) (σ:St) (H':Hp) (s1:Shared) (a:Addr) (cls fl:aj):Prop :=
 ∃s H,Inv X pins σ H s/\s1.os=s.os/\iz s1.gens/\Un (frs X.stack) [] H H' s.heap s1.heap/\HOk X.prog X.w H' s1.heap/\Fly s.heap H' s1.heap a cls fl
theorem gW (x:qo P w H h a o):∃ob,h.get? a=some ob:=by
 cases o with
 | lst xs=>obtain ⟨_,_,_,_,e⟩:=x;exact ⟨_,e⟩
 | tup xs=>obtain ⟨_,_,_,ob,e,_⟩:=x;exact ⟨_,e⟩
 | dK kvs=>obtain ⟨_,_,_,_,ob,_,_,e,_⟩:=x;exact ⟨_,e⟩
 | dT kvs=>obtain ⟨_,_,_,_,ob,_,_,e,_⟩:=x;exact ⟨_,e⟩
 | set S n=>obtain ⟨ob,_,_,_,e,_⟩:=x;exact ⟨_,e⟩
 | ins C dx fs=>obtain ⟨_,_,_,e,_⟩:=x;exact ⟨_,e⟩
 | own y=>exact x
 | xd fs=>obtain ⟨_,⟨_,_,_,e,_⟩,_⟩:=x;exact ⟨_,e⟩
 | rng lo hi=>obtain ⟨_,_,_,e⟩:=x;exact ⟨_,e⟩
 | frz ob u=>obtain ⟨e,_⟩:=x;exact ⟨_,e⟩
 | tbl ps=>exact ⟨_,(show h.get? a=some _ from x)⟩
 | met f y=>exact ⟨_,(show h.get? a=some _ from x)⟩
 | ext φ=>obtain ⟨_,e,_⟩:=x;exact e
section
variable {X:Cx}{pins:List (Addr×Obj)}{σ:St}{H H':Hp}{s s1:Shared}{a:Addr}{cls fl:aj}
theorem za.inv (f:za X pins σ H' s1 a cls fl):Inv X pins σ H' s1:=by
 obtain ⟨s,H,I,os,b,u,ok,fy⟩:=f
 exact I.call' os u ok b (λb z=>absurd z (by simp))
theorem za.fly (hex:X.ex=[]) (f:za X pins σ H' s1 a cls fl):Fly X.s₀.heap H' s1.heap a cls fl:=by
 obtain ⟨s,H,I,os,b,u,ok,fy⟩:=f
 exact fy.mono λc o e=>I.base.there c o e (by rw [hex];exact λz=>by cases z)
theorem za.under (f:za X pins σ H' s1 a cls .none):∃B a0,(B.StaysIn s1.heap/\B.get? a=none/\s1.heap.FunFrames B X.stack/\OnT s1.heap B a cls a0 .none) /\
  ∀h2 fl2,B.StaysIn h2->s1.heap.UpToSlots h2->OnT h2 B a cls a0 fl2->za X pins σ H' { s1 with heap:=h2 } a cls fl2:=by
 have I1:=f.inv
 obtain ⟨s,H,I,os,b,u,ok,fy⟩:=f
 obtain ⟨oe,vs,T,oT,ts,a0,h1,h2,h3,h4,h5,h6,h7,h8,h9,h10⟩:=fy.ob
 have fr:=I1.stack
 have fs:∀b∈frs X.stack,b≠a/\b≠T:=λb hb=>by
  obtain ⟨_,o,ho,hn⟩:=fr.mem hb
  refine ⟨λz=>?_,λz=>?_⟩
  ·rw [z,h1] at ho;cases ho;exact hn _ h3
  ·rw [z,h8] at ho;cases ho;exact hn _ h9
 have in_:∀env∈X.stack,∀c,env.frame=some c->c∈a::T::frs X.stack:=λenv he c hc=>aF _ (aF _ (List.mem_filterMap.mpr ⟨env,he,hc⟩))
 have noB:∀{c o},s1.heap.get? c=some o->c≠a->c≠T->c∉frs X.stack->(hideAll s1.heap (a::T::frs X.stack)).get? c=some o:=λe n1 n2 n3 =>
  hideAll_get _ e (by simp only [eN,not_or];exact ⟨n1,n2,n3⟩)
 refine ⟨hideAll s1.heap (a::T::frs X.stack),a0,⟨λb o q=>of_hideAll _ q,hideAll_none _ (.head _),tu fr in_,oe,vs,T,oT,ts,h1,h2,h3,h4,hideAll_none _ (.tail _ (.head _)),h7,h8,h9,h10⟩,λhp fl2 st up tr=>?_⟩
 have lo:∀{c o},s.heap.get? c=some o->c≠a/\c≠T:=λ{c o} e=>⟨λz=>(by rw [z,fy.na] at e;cases e),λz=>(by rw [z,h5] at e;cases e)⟩
 have frn:∀{c o},s1.heap.get? c=some o->c∈frs X.stack->∀vs,o.data≠.fields vs:=λe hc=>by
  obtain ⟨_,o',ho,hn⟩:=fr.mem hc
  rw [e] at ho;cases ho;exact hn
 refine ⟨s,H,I,os,b,⟨λc o e n nf nx=>?_,λc o e n hf nx=>?_,λc o e n nx=>u.free c o e n nx,λc o e nx=>?_,u.tups,u.frzs,u.tbls⟩,λc o hc=>?_,?_⟩
 ·exact st _ _ (noB (u.keep c o e n nf nx) (lo e).1 (lo e).2 nf)
 ·obtain ⟨sl,e1⟩:=u.slot c o e n hf nx
  obtain ⟨sl2,e2⟩:=up c _ e1 (frn e1 hf)
  exact ⟨sl2,e2⟩
 ·obtain ⟨o1,e1⟩:=u.there c o e nx
  by_cases hf:c∈frs X.stack
  ·obtain ⟨sl2,e2⟩:=up c _ e1 (frn e1 hf)
   exact ⟨_,e2⟩
  ·exact ⟨o1,st _ _ (noB e1 (lo e).1 (lo e).2 hf)⟩
 ·refine (ok c o hc).stay (λc' o' hc' e=>?_) (λ_ e=>e) λ_ _ e=>e
  have hne:H' c'≠none:=by
   rcases hc' with z | z
   ·rw [z,hc];exact λy=>by cases y
   ·rw [z];exact λy=>by cases y
  exact st _ _ (noB e (λz=>hne (by rw [z];exact fy.ha)) (λz=>hne (by rw [z];exact h6)) λz=>hne (I1.stkFree _ z))
 ·obtain ⟨oe2,vs2,T2,oT2,ts2,g1,g2,g3,g4,g5,g6,g7,g8,g9⟩:=tr
  have key:T2=T\/s1.heap.get? T2=none:=by
   cases q:s1.heap.get? T2 with
   | none=>exact .inr rfl
   | some o =>
    refine .inl ?_
    by_cases hT:T2=T
    ·exact hT
    ·by_cases hf:T2∈frs X.stack
     ·obtain ⟨sl2,e2⟩:=up T2 _ q (frn q hf)
      rw [e2] at g7
      cases g7
      exact absurd g8 (frn q hf _)
     ·have:=noB q g6 hT hf
      rw [g5] at this
      cases this
  refine ⟨fy.na,fy.ha,oe2,vs2,T2,oT2,ts2,a0,g1,g2,g3,g4,?_,?_,g6,g7,g8,g9⟩
  ·rcases key with z | z
   ·rw [z];exact h5
   ·cases q:s.heap.get? T2 with
    | none=>rfl
    | some o =>
     obtain ⟨o',e'⟩:=u.there T2 o q (by simp)
     rw [z] at e'
     cases e'
  ·rcases key with z | z
   ·rw [z];exact h6
   ·cases q:H' T2 with
    | none=>rfl
    | some o =>
     obtain ⟨o',e'⟩:=gW (ok T2 o q)
     rw [z] at e'
     cases e'
theorem za.leave {Q:Unit->Shared->Prop}(f:za X pins σ H' s1 a cls .none) (st:X.stack=X.env::X.outer) (hf:X.env.frame=some X.env.locals)
  (k:∀h2,za X pins σ H' { s1 with heap:=h2 } a cls .none->Q () { s1 with heap:=h2 }):ax (aE X.prog X.w) X.A (oa X.env (.ref a)) Q E s1:=by
 obtain ⟨B,a0,fw,up⟩:=f.under
 have fr:X.A.frames=some (X.env::X.outer):=by rw [<- st];exact f.inv.ok.frames
 rw [st] at fw
 obtain ⟨f1,f2,f3,f4⟩:=fw
 exact VO fr f3 hf f4 f1 f2 λh2 k1 k2 k3 k4=>k h2 (up h2 .none k1 k4 k3)
theorem ZF {Q:Unit->Shared->Prop}(I:Inv X pins σ H s) (hx:nR s.heap h1 a cls vs) (st:X.stack=X.env::X.outer) (hf:X.env.frame=some X.env.locals)
  (k:∀h2,za X pins σ H { s with heap:=h2 } a cls .none->Q () { s with heap:=h2 }):ax (aE X.prog X.w) X.A (oa X.env (.ref a)) Q E { s with heap:=h1 }:=by
 have fr:X.A.frames=some (X.env::X.outer):=by rw [<- st];exact I.ok.frames
 have fun0:=I.stack
 have in_:∀env∈X.stack,∀c,env.frame=some c->c∈frs X.stack:=λenv he c hc=>List.mem_filterMap.mpr ⟨env,he,hc⟩
 have fun1:=tu fun0 in_
 have frn:∀{c o},s.heap.get? c=some o->c∈frs X.stack->∀vs,o.data≠.fields vs:=λe hc=>by
  obtain ⟨_,o',ho,hn⟩:=fun0.mem hc
  rw [e] at ho;cases ho;exact hn
 rw [st] at fun1
 refine Z1 (s:={ s with heap:=h1 }) (B:=hideAll s.heap (frs (X.env::X.outer))) (h:=s.heap) fr hf (λb o q=>of_hideAll _ q) fun1 hx λh2 t b1 b2 fw b3 up=>?_
 rw [<- st] at fw b1
 obtain ⟨oe,ws,T,oT,ts,g1,g2,g3,g4,g5,g6,g7,g8,g9⟩:=fw
 have keepB:∀{c o},s.heap.get? c=some o->c∉frs X.stack->h2.get? c=some o:=λe n=>b1 _ _ (hideAll_get _ e n)
 have slotB:∀{c o},s.heap.get? c=some o->c∈frs X.stack->∃sl,h2.get? c=some { o with slots:=sl }:=λ{c o} e hc=>up c o (hx.keeps _ _ e) (frn e hc)
 have nT:s.heap.get? T=none:=by
  cases q:s.heap.get? T with
  | none=>rfl
  | some o =>
   exfalso
   by_cases hc:T∈frs X.stack
   ·obtain ⟨sl,e⟩:=slotB q hc
    rw [e] at g7
    cases g7
    exact frn q hc _ g8
   ·rw [hideAll_get _ q hc] at g5
    cases g5
 have hn:∀{c},s.heap.get? c=none->H c=none:=λ{c} e=>by
  cases q:H c with
  | none=>rfl
  | some o =>
   obtain ⟨o',e'⟩:=gW (I.hok c o q)
   rw [e] at e'
   cases e'
 refine k h2 ⟨s,H,I,rfl,I.bare,⟨λc o e n nf nx=>keepB e nf,λc o e n hf nx=>slotB e hf,λc o e n nx=>n,λc o e nx=>?_,λ_ _ e=>e,λ_ _ _ e=>e,λc ps e=>⟨#[],by rw [e];simp⟩⟩,λc o hc=>?_,hx.new,hn hx.new,oe,ws,T,oT,ts,.ref t,g1,g2,g3,g4,nT,hn nT,g6,g7,g8,g9⟩
 ·by_cases hc:c∈frs X.stack
  ·obtain ⟨sl,e2⟩:=slotB e hc
   exact ⟨_,e2⟩
  ·exact ⟨o,keepB e hc⟩
 ·refine (I.hok c o hc).stay (λc' o' hc' e=>?_) (λ_ e=>e) λ_ _ e=>e
  refine keepB e λz=>?_
  have:=I.stkFree _ z
  rcases hc' with y | y
  ·rw [y,hc] at this;cases this
  ·rw [y] at this;cases this
end
noncomputable def Acc (X:Cx) (J:aj->St->Hp->Prop):Prop:=∀(pins:List (Addr×Obj)) (σ:St) (H':Hp) (s1:Shared) (a:Addr) (cls:aj),za X pins σ H' s1 a cls .none->J cls σ H'->X.xe (.ref a) s1
noncomputable def Eg (sp:Sp) (J:aj->St->Hp->Prop) (t:TA):TE:=λσ H Q=>t σ H λvs H1=>sp vs H1 Q λcls _ H'=>J cls σ H'
structure CalX (P:Program) (w:bx) (K:ag) (mg:Str->Option aj) (base:Heap) (k:Nat) (x:Str) (ps:List Str) (sp:Sp):Prop where
 ex:∃f fd,FnOk P w K mg base (CX1 P w) k f fd ps sp/\yr K fd ps []/\mg x=some (.ref f)/\bR K (.ref f)=true
theorem xY {X:Cx}{k:Nat}{e:Expr}{es:List Expr}{t:TA}{pos:Pos}(c:CalX X.prog X.w X.K X.mg X.base k x ps sp) (hr:Room k X.A) (ac:Acc X J) (hg:Gl X x) (ha:PA X (e::es) t)
  (hdb:(x == ("__debug__" : Str))=false:=by decide) (he:aP (e::es) X.env=(false,eval e X.env)::aP es X.env:=by rfl) (hpl:(cM pos (aP es X.env)).any (·.1)=false:=by rfl) :
  PE X (.Call (.Name x p) (e::es) [] pos) (Eg sp J t):=by
 obtain ⟨f,fd,F,hb,hm,hk⟩:=c.ex
 intro pins s σ H Q I h
 refine cX (yx I hg hm ?_ hdb)
 refine dm (h₀:=X.base) I.ok.mod.kin hk (thn (ha pos pins s σ H _ I h) λus s1 ⟨vs,H1,I1,r,q⟩=>⟨I1.kIn,?_⟩) he hpl
 have hl:us.length=ps.length:=by rw [<- r.length];exact F.len _ _ _ _ q
 have hb':=hb s1 us I1.kIn (by rw [aN];exact hl)
 rw [aN] at hb'
 refine fF (dg (F.run X.A X.stack s1 H1 ⟨us,[]⟩ us vs Q _ hr I1.env0 hb' r q) λr s' hq=>?_)
 cases r with
 | error e =>
  obtain ⟨a,cls,H',rfl,os,b,u,ok,fy,j⟩:=hq
  exact ac pins σ H' s' a cls ⟨s1,H1,I1,os,b,u,ok,fy⟩ j
 | ok fl =>
  cases fl with
  | ret u=>exact I1.after hq
  | next=>exact bt hq
  | brk=>exact bt hq
  | cont=>exact bt hq
theorem CalX.cal {w:bx}{K:ag}{mg:Str->Option aj}{base:Heap}{k:Nat}{x:Str}{sp:Sp}(c:CalX P w K mg base k x ps sp):Cal P w K mg base k x ps (λvs H Q _=>sp vs H Q E0):=by
 obtain ⟨f,fd,F,hb,hm,hk⟩:=c.ex
 refine ⟨f,fd,⟨λvs H Q E h=>F.len vs H Q E0 h,λA outer s H args us vs Q E hr he hb hv hs=>dg (F.run A outer s H args us vs Q E0 hr he hb hv hs) λr s' q=>?_⟩,hb,hm,hk⟩
 cases r with
 | error e =>
  obtain ⟨a,cls,H',_,_,_,_,_,_,j⟩:=q
  exact bt j
 | ok fl =>
  cases fl with
  | ret u=>exact q
  | next=>exact q
  | brk=>exact q
  | cont=>exact q
theorem qL {K:ag}{E:XK} :
  Acc (vJ (CX1 P w) P w K mg base N qual scope f cd A outer s H E) λcls _ H'=>E cls none H':=by
 intro pins σ H' s1 a cls fl j
 refine za.leave (X:=vJ (CX1 P w) P w K mg base N qual scope f cd A outer s H E) fl rfl rfl λh2 f2=>?_
 exact ⟨a,cls,H',rfl,f2.inv.os,f2.inv.bare,f2.inv.base,f2.inv.hok,f2.fly rfl,j⟩
noncomputable def Ac (X:Cx) (J:aj->St->Hp->Prop):Prop:=∀(pins:List (Addr×Obj)) (σ:St) (H:Hp) (s:Shared) (h1:Heap) (a:Addr) (cls:aj) (vs:List aj),Inv X pins σ H s->nR s.heap h1 a cls vs->J cls σ H->X.xe (.ref a) { s with heap:=h1 }
theorem zq {K:ag}{E:XK} :
  Ac (vJ (CX1 P w) P w K mg base N qual scope f cd A outer s H E) λcls _ H'=>E cls none H':=by
 intro pins σ H' s1 h1 a cls vs I hx j
 refine ZF (X:=vJ (CX1 P w) P w K mg base N qual scope f cd A outer s H E) I hx rfl rfl λh2 f2=>?_
 exact ⟨a,cls,H',rfl,f2.inv.os,f2.inv.bare,f2.inv.base,f2.inv.hok,f2.fly rfl,j⟩
theorem Ef {K:ag}{newId:String}(X:K.In h) (q:excIn K C bmB newId=true) :
  ∃bm N nm q bs hdct sn sub ab col dd k0 k1 k2 k3 k5 mN,h.get? C=some (excClassObj nm q C N bs bm hdct sn sub ab col dd k0 k1 k2 k3 k5 newId)/\h.Ns N mN/\mN "__init__" = none/\OwnTail h bmB bm:=by
 unfold excIn at q
 split at q
 ·rename_i dd cd sl ho
  split at q
  ·rename_i C' bm k0 k1 k2 k3 n k5 em es
   simp only [bb,beq_iff_eq,Bool.not_eq_true'] at q
   obtain ⟨⟨⟨⟨⟨rfl,rfl⟩,e1⟩,e2⟩,e3⟩,e4⟩:=q
   obtain ⟨nm,bs,mro,ns,qn,hd,sn,sub,ab,col,del⟩:=cd
   dsimp only at em e1 e3 e4
   subst em e1
   have e5:sl = #[k0,k1,k2,k3,some (.builtin n),k5]:=by obtain ⟨l⟩:=sl;simp only at es;rw [es]
   subst e5
   exact ⟨bm,ns,nm,qn,bs,hd,sn,sub,ab,col,dd,k0,k1,k2,k3,k5,_,X _ _ ho,.of_isNs (isNs_of_in X e3),nsMap_none_of_in X e3 e4,tail_of_in X e2⟩
  ·cases q
 ·cases q
theorem xI {X:Cx}{pos:Pos}{e:Expr}{es:List Expr}{t:TA}{C:Addr}{B newId initId:String}{J:aj->St->Hp->Prop}(FB:ExcBaseFacts B newId initId bmB) (O:excIn X.K C bmB newId=true) (hm:X.mg x=some (.ref C)) (hc:X.calm=true) (am:Ac X J)
  (hg:Gl X x) (ha:PA X (e::es) t) (hdb:(x == ("__debug__" : Str))=false:=by decide) (he:aP (e::es) X.env=(false,eval e X.env)::aP es X.env:=by rfl) (hpl:(cM cpos (aP es X.env)).any (·.1)=false:=by rfl) :
  PS X (.Raise (some (.Call (.Name x np) (e::es) [] cpos)) none pos) (λD σ H=>t σ H λvs H1=>vs.length<=sizeLine/\J (.ref C) σ H1):=by
 intro pins s σ H D I h
 obtain ⟨bm,N,nm,q,bs,hdct,sn,sub,ab,col,dd,k0,k1,k2,k3,k5,mN,hC,hN,hni,T⟩:=Ef I.ok.mod.kin O
 have h':=ha cpos pins s σ H _ I h
 rw [he] at h'
 refine wpAny_Raise_call_subT (C:=C) (nm:=nm) (q:=q) (N:=N) (bs:=bs) (bm:=bm) (hdct:=hdct) (sn:=sn) (sub:=sub) (ab:=ab) (col:=col) (dd:=dd) (k0:=k0) (k1:=k1) (k2:=k2) (k3:=k3) (k5:=k5)
  FB (mN:=mN) (T.hasType FB.hasBase) (I.ok.hd hc) (by rw [he];show (false || (cM cpos (aP es X.env)).any (·.1))=false;rw [hpl];rfl) hni (yx I hg hm ⟨rfl,?_⟩ hdb)
 rw [he]
 refine iE (thn h' λus s2 ⟨vs,H2,I2,r,hl,j⟩=>⟨rfl,by rw [<- r.length];exact hl,I2.bk _ _ hC,hN.keeps I2.bk,T.keeps I2.bk,λh1 a hx=>am pins σ H2 s2 h1 a (.ref C) _ I2 hx j⟩)
theorem Fun.okX {w:bx}{K:ag}{mg:Str->Option aj}{base:Heap}{x:Str}{st:Stmt}{N:List Str}{k:Nat}{sp:Sp}(F:Fun K x qual st f fd) (S:FnScope N ps (j8 st)) (len:∀vs H Q E,sp vs H Q E->vs.length=ps.length)
  (hbody:∀(cdv:aj) (A:bz) (outer:List Env) (s:Shared) (H:Hp) (vs:List V) (Q:VK) (E:XK),Room k (A.deeper (iK qual (j8 st) s.heap.objs.size f cdv))->sp vs H Q E ->
   ∃t,PSs (vJ (CX1 P w) P w K mg base N qual (j8 st) f cdv A outer s H E) (jM st) t/\t { nx:=λ_ H'=>Q .non H',rt:=Q } (start N vs) H):FnOk P w K mg base (CX1 P w) (k+1) f fd ps sp:=by
 obtain ⟨oc,od,kV,doc,pm,an,cdv,ct,osl,rfl,lk,hcd⟩:=F.ex
 exact Uj lk hcd S len λA outer s H vs Q E hr hsp=>hbody cdv A outer s H vs Q E hr hsp
theorem CalX.mk' {w:bx}{K:ag}{mg:Str->Option aj}{base:Heap}{k:Nat}{x:Str}{ps:List Str}{st:Stmt}{f:Addr}{oc:aj}{od an:Option Addr}{osl:Array (Option aj)}{kV doc pm cdv ct:aj}
  (X:K.In h) (G:h.Ns mainGlobals mg) (a:aS K mainGlobals x=some (some (.ref f)))
  (l:K.lookup f=some ⟨oc,od,.func (bG x x (jV st) (jM st) (j8 st) .none kV doc pm an cdv ct),osl⟩) (c:cC K cdv x=true) (k':bR K (.ref f)=true)
  (hb:∀(kV doc pm:aj) (an:Option Addr) (cdv ct:aj) (us:List aj),us.length=ps.length->cH (bG x x (jV st) (jM st) (j8 st) .none kV doc pm an cdv ct) ⟨us,[]⟩=pure (ps.zip us))
  (ok:∀{f:Addr} {fd:FuncData},Fun K x x st f fd->FnOk P w K mg base (CX1 P w) k f fd ps sp):CalX P w K mg base k x ps sp:=by
 have F:=vf (st:=st) l c k'
 exact ⟨f,_,ok F,F.binds hb,bj X G a,k'⟩
end L2
end
section
namespace L2
open PySem.W
noncomputable abbrev Cx.atP (X:Cx) (pn:List (Addr×Obj)):Cx:={ X with pn:=pn }
noncomputable abbrev Cx.tryX (X:Cx) (pn:List (Addr×Obj)) (J:aj->St->Hp->Prop):Cx:={ X with pn:=pn,xe:=λe s1=>∃a cls σ' H',e = .ref a/\za (X.atP pn) [] σ' H' s1 a cls .none/\J cls σ' H' }
noncomputable abbrev Cx.hand (X:Cx) (a:Addr):Cx:={ X with A:=X.A.mark (some (.ref a)),calm:=false,xe:=λ_ _=>False }
section
variable {X:Cx}{pins pn:List (Addr×Obj)}{σ:St}{H:Hp}{s:Shared}{J:aj->St->Hp->Prop}
theorem okP (ok:X.Ok) (Y:Cx) (h:Y={ X with pn:=Y.pn,xe:=Y.xe }):Y.Ok:=by
 rw [h]
 exact ⟨ok.mod,ok.kind,ok.glob,ok.blt,ok.above,ok.inj,ok.has,ok.cab,ok.hd,ok.frames,ok.stk,ok.exf,ok.bs,ok.bsz,ok.noex,ok.exfs,ok.funs,ok.frf⟩
theorem Inv.toTry (I:Inv X pins σ H s):Inv (X.tryX (X.pn++pins) J) [] σ H s :=
 ⟨okP I.ok _ rfl,I.os,I.bare,I.base,I.loc,I.cell,I.free,I.freeC,λp hp=>I.pin p (by rw [aN] at hp;exact hp),I.hok,I.len⟩
theorem Inv.ofTry (I:Inv (X.tryX pn J) pins σ H s):Inv (X.atP pn) [] σ H s :=
 ⟨okP I.ok _ rfl,I.os,I.bare,I.base,I.loc,I.cell,I.free,I.freeC,λp hp=>I.pin p (bL _ (by rw [aN] at hp;exact hp)),I.hok,I.len⟩
theorem Inv.ofP (I:Inv (X.atP (X.pn++pins)) [] σ H s):Inv X pins σ H s :=
 ⟨okP I.ok _ rfl,I.os,I.bare,I.base,I.loc,I.cell,I.free,I.freeC,λp hp=>I.pin p (by rw [aN];exact hp),I.hok,I.len⟩
theorem Inv.ofTryP (I:Inv (X.tryX (X.pn++pins) J) [] σ H s):Inv X pins σ H s:=Inv.ofP (Inv.ofTry I)
theorem Inv.toHand (a:Addr) (I:Inv X pins σ H s):Inv (X.hand a) pins σ H s :=
 ⟨⟨I.ok.mod,I.ok.kind,I.ok.glob,I.ok.blt,I.ok.above,I.ok.inj,I.ok.has,I.ok.cab,(λz=>(by cases z)),I.ok.frames,I.ok.stk,I.ok.exf,I.ok.bs,I.ok.bsz,I.ok.noex,I.ok.exfs,I.ok.funs,I.ok.frf⟩,I.os,I.bare,I.base,I.loc,I.cell,I.free,I.freeC,I.pin,I.hok,I.len⟩
theorem Ad {D:Ends}(g:∀{σ H},Inv Y pins' σ H s'->Inv X pins σ H s') (h:SP Y pins' D f s'):SP X pins D f s':=by
 cases f with
 | next=>obtain ⟨σ',H',I,q⟩:=h;exact ⟨σ',H',g I,q⟩
 | brk=>obtain ⟨σ',H',I,q⟩:=h;exact ⟨σ',H',g I,q⟩
 | cont=>obtain ⟨σ',H',I,q⟩:=h;exact ⟨σ',H',g I,q⟩
 | ret u=>obtain ⟨v,σ',H',I,r,q⟩:=h;exact ⟨v,σ',H',g I,r,q⟩
theorem G8:Acc (X.tryX pn J) J:=by
 intro pins σ H' s1 a cls f j
 obtain ⟨s,H,I,os,b,u,ok,fy⟩:=f
 exact ⟨a,cls,σ,H',rfl,⟨s,H,Inv.ofTry I,os,b,u,ok,fy⟩,j⟩
end
end L2
end
section
namespace L2
open PySem.W
section
variable {s:Shared}{A:bz}{prog:Program}{w:bx}{E:aj->Shared->Prop}
end
section
variable {X:Cx}
end
end L2
end
section
namespace L2
open PySem.W
end L2
end
section
namespace L2
open PySem.W
section
variable {X:Cx}{o e:Expr}{es:List Expr}{to:TE}{t:TA}{name:Str}{apos cpos:Pos}{id:String}{r:V->List V->Hp->VK->Prop}
end
end L2
end
section
namespace L2
open PySem.W
noncomputable abbrev ko (ifs:List Expr) (env:Env):Sem Bool:=AN ifs true λc r=>if r=true then do let ok <- isTrue c env (eval c env);pure (c4 ok) else pure (c4 r)
noncomputable abbrev xB (elt tg iter tg2 iter2:Expr) (ifs ifs2:List Expr) (scope:Scope) (pos:Pos):Expr:=.ListComp elt [⟨tg,iter,ifs,0⟩,⟨tg2,iter2,ifs2,0⟩] scope pos
theorem VA (elt tg iter tg2 iter2:Expr) (ifs ifs2:List Expr) (scope:Scope) (pos:Pos) (it acc:aj) (env:Env) :
  pL (xB elt tg iter tg2 iter2 ifs ifs2 scope pos) 0 it acc env=(ff iter.pos >>= λ_=>eP it >>= λr=>match r with
   | none=>pure (.done .next)
   | some v=>cT tg it v >>= λ_=>ip tg env v >>= λ_=>ko ifs env >>= λok =>
    (if ok=true then (eval iter2 env >>= λx=>ff iter2.pos >>= λ_=>cz iter2 env x >>= λx=>ef [x] (lR x) >>= λi2=>runOwn (.compStart (xB elt tg iter tg2 iter2 ifs ifs2 scope pos) 1 i2 acc env) env >>= λ_=>again (.compLoop (xB elt tg iter tg2 iter2 ifs ifs2 scope pos) 0 it acc env))
     else again (.compLoop (xB elt tg iter tg2 iter2 ifs ifs2 scope pos) 0 it acc env))):=by
 rfl
theorem UC (elt tg iter tg2 iter2:Expr) (ifs ifs2:List Expr) (scope:Scope) (pos:Pos) (it acc:aj) (env:Env) :
  pL (xB elt tg iter tg2 iter2 ifs ifs2 scope pos) 1 it acc env=(ff iter2.pos >>= λ_=>eP it >>= λr=>match r with
   | none=>pure (.done .next)
   | some v=>cT tg2 it v >>= λ_=>ip tg2 env v >>= λ_=>ko ifs2 env >>= λok =>
    (if ok=true then ((eval elt env >>= λx=>call (.builtin "list.append") [acc,x] >>= λ_=>pure ()) >>= λ_=>again (.compLoop (xB elt tg iter tg2 iter2 ifs ifs2 scope pos) 1 it acc env))
     else again (.compLoop (xB elt tg iter tg2 iter2 ifs ifs2 scope pos) 1 it acc env))):=by
 rfl
section
variable {s:Shared}{A:bz}{prog:Program}{w:bx}{R:oK->Shared->Prop}{elt tg iter tg2 iter2:Expr}{ifs ifs2:List Expr}{scope:Scope}{pos:Pos}{it acc:aj}{env:Env}
theorem VU (I:Nat->Shared->Prop)
  (turn:∀n s,I n s->ax (aE prog w) A (eP it) (λr s₁=>match r with
   | none=>R (.ok .next) s₁
   | some v=>ax (aE prog w) A (cT tg2 it v) (λ_ s₂=>ax (aE prog w) A (ip tg2 env v) (λ_ s₃=>ax (aE prog w) A (ko ifs2 env) (λok s₄ =>
      if ok=true then ax (aE prog w) A (eval elt env) (λx s₅=>ax (aE prog w) A (call (.builtin "list.append") [acc,x]) (λ_ s₆=>∃m,m<n/\I m s₆) (λ_ _=>False) s₅) (λ_ _=>False) s₄
      else ∃m,m<n/\I m s₄) (λ_ _=>False) s₃) (λ_ _=>False) s₂) (λ_ _=>False) s₁) (λ_ _=>False) s)
  (n:Nat) (h:I n s):cU (aE prog w) A (.compLoop (xB elt tg iter tg2 iter2 ifs ifs2 scope pos) 1 it acc env) R s:=by
 refine pK rfl I (λn s hI=>?_) n h
 show ax _ A ((pL (xB elt tg iter tg2 iter2 ifs ifs2 scope pos) 1 it acc env).onRaise (λx=>do iY x env;mI x)) _ _ s
 refine sf ?_;rw [UC]
 refine aa (cY (aa (aZ (turn n s hI) (λr s₁ h₁=>?_) λ_ _ h'=>h'.elim)))
 cases r with
 | none=>exact wpAny_pure h₁
 | some v =>
  refine aa (aZ h₁ (λ_ s₂ h₂=>?_) λ_ _ h'=>h'.elim)
  refine aa (aZ h₂ (λ_ s₃ h₃=>aa (aZ h₃ (λok s₄ h₄=>?_) λ_ _ h'=>h'.elim)) λ_ _ h'=>h'.elim)
  cases ok with
  | false=>exact wpAny_pure ⟨rfl,h₄⟩
  | true=>exact aa (aa (aZ h₄ (λx s₅ h₅=>aa (aZ h₅ (λ_ s₆ h₆=>wpAny_pure (wpAny_pure ⟨rfl,h₆⟩)) λ_ _ h'=>h'.elim)) λ_ _ h'=>h'.elim))
theorem YF {R:oK->Shared->Prop}(h0:cU (aE prog w) A (.compLoop (xB elt tg iter tg2 iter2 ifs ifs2 scope pos) 1 it acc env) R s)
  (h:ax (aE prog w) A (lR it) (λi2 s'=>cU (aE prog w) A (.compLoop (xB elt tg iter tg2 iter2 ifs ifs2 scope pos) 1 i2 acc env) R s') (λ_ _=>False) s) :
  cU (aE prog w) A (.compStart (xB elt tg iter tg2 iter2 ifs ifs2 scope pos) 1 it acc env) R s:=by
 refine codeAny_of_tree ?_
 show ax _ _ ((compStart (xB elt tg iter tg2 iter2 ifs ifs2 scope pos) 1 it acc env).onRaise (λx=>do iY x env;ff theWindowsPlace)) _ _ s
 refine wpAny_notedAt ?_;unfold compStart;show ax _ _ (ask >>= _) _ _ s
 refine aa (wpAny_askSetting (wpAny_ite ?_))
 split
 ·first | exact aa (wpAny_pure (wpAny_pure (fP rfl h0))) | exact wpAny_pure (fP rfl h0)
 ·first
   | exact aa (eB (aa (cY (aa (aZ h (λi2 s' h'=>wpAny_pure (fP rfl h')) λ_ _ x=>x.elim)))))
   | (refine aa (eB ?_);show ax _ _ (ff iter2.pos >>= _) _ _ s;exact aa (cY (aa (aZ h (λi2 s' h'=>wpAny_pure (fP rfl h')) λ_ _ x=>x.elim))))
theorem YB (I:Nat->Shared->Prop) (hs2:∀x,cz iter2 env x=pure x)
  (turn:∀n s,I n s->ax (aE prog w) A (eP it) (λr s₁=>match r with
   | none=>R (.ok .next) s₁
   | some v=>ax (aE prog w) A (cT tg it v) (λ_ s₂=>ax (aE prog w) A (ip tg env v) (λ_ s₃=>ax (aE prog w) A (ko ifs env) (λok s₄ =>
      if ok=true then ax (aE prog w) A (eval iter2 env) (λx s₅=>ax (aE prog w) A (lR x) (λi2 s₆=>cU (aE prog w) A (.compStart (xB elt tg iter tg2 iter2 ifs ifs2 scope pos) 1 i2 acc env) (λr s'=>match r with | .ok _=>∃m,m<n/\I m s' | .error _=>False) s₆) (λ_ _=>False) s₅) (λ_ _=>False) s₄
      else ∃m,m<n/\I m s₄) (λ_ _=>False) s₃) (λ_ _=>False) s₂) (λ_ _=>False) s₁) (λ_ _=>False) s)
  (n:Nat) (h:I n s):cU (aE prog w) A (.compLoop (xB elt tg iter tg2 iter2 ifs ifs2 scope pos) 0 it acc env) R s:=by
 refine pK rfl I (λn s hI=>?_) n h
 show ax _ A ((pL (xB elt tg iter tg2 iter2 ifs ifs2 scope pos) 0 it acc env).onRaise (λx=>do iY x env;mI x)) _ _ s
 refine sf ?_;rw [VA]
 refine aa (cY (aa (aZ (turn n s hI) (λr s₁ h₁=>?_) λ_ _ h'=>h'.elim)))
 cases r with
 | none=>exact wpAny_pure h₁
 | some v =>
  refine aa (aZ h₁ (λ_ s₂ h₂=>?_) λ_ _ h'=>h'.elim)
  refine aa (aZ h₂ (λ_ s₃ h₃=>aa (aZ h₃ (λok s₄ h₄=>?_) λ_ _ h'=>h'.elim)) λ_ _ h'=>h'.elim)
  cases ok with
  | false=>exact wpAny_pure ⟨rfl,h₄⟩
  | true =>
   refine aa (aZ h₄ (λx s₅ h₅=>aa (cY (aa (nN (hs2 x) (aa (bw (aZ h₅ (λi2 s₆ h₆=>aa (wpAny_runOwn ?_)) λ_ _ h'=>h'.elim))))))) λ_ _ h'=>h'.elim)
   rw [Around.mark_none]
   refine dg h₆ λr s' q=>?_
   cases r with
   | ok f=>exact wpAny_pure ⟨rfl,q⟩
   | error e=>exact q.elim
end
noncomputable def gK (acc:Addr) (g2:TG) (ti2:TT) (te:TE) (J2:It) (NX:St->Hp->Prop) (σ3:St) (H5:Hp):Prop :=
 ∃W2:Nat->Nat->St->Hp->Prop,(∃m,W2 0 m σ3 H5)/\∀j m σ6 H6,W2 j m σ6 H6->(J2.stop j H6/\NX σ6 H6)\/(J2.go j H6/\∃NX2:St->Hp->Prop,(∀σ7 H7,NX2 σ7 H7->∃m',m'<m/\W2 (j+1) m' σ7 H7) /\
  ∀y H7,J2.yld j H6 y H7->g2 y σ6 H7 λσ8 H8=>ti2 σ8 H8 λok2 H9=>if ok2=true then te σ8 H9 λv H10=>∃ys,H10 acc=some (.lst ys)/\ys.length<sizeLine/\NX2 σ8 (upd H10 acc (.lst (ys++[v]))) else NX2 σ8 H9)
section
variable {X:Cx}{pos:Pos}
noncomputable def Ei (own:Nat) (caps:List Nat) (wi:TI) (g:TG) (ti:TT) (wi2:TI) (g2:TG) (ti2:TT) (te:TE):TE:=λσ H Q=>wi σ H λJ H1=>∀acc,H1 acc=none ->
 ∃W:Nat->Nat->St->Hp->Prop,(∃m,W 0 m (yU own caps σ) (upd H1 acc (.lst [])))/\∀i m σ' H',W i m σ' H' ->
  (J.stop i H'/\Q (.ref acc) H') \/
  (J.go i H'/\∃NX:St->Hp->Prop,(∀σ2 H2,NX σ2 H2->∃m',m'<m/\W (i+1) m' σ2 H2) /\
   ∀x H2,J.yld i H' x H2->g x σ' H2 λσ3 H3=>ti σ3 H3 λok H4=>if ok=true then wi2 σ3 H4 λJ2 H5=>gK acc g2 ti2 te J2 NX σ3 H5 else NX σ3 H4)
theorem YK {scope:Scope}{own:Nat}{cl:List (Str×Addr)}{tg elt iter tg2 iter2:Expr}{ifs ifs2:List Expr}{g2:TG}{ti ti2:TT}{wi2:TI}{te:TE}{H:Hp}{s:Shared}{fp:List Addr}{it:Addr}
    {Q:VK} {RR:aj->Addr->oK->Shared->Prop} {E:aj->Shared->Prop}
  (hc:X.calm=true) (S:CompSc osc ON scope own N caps) (hsc:X.env.scope=osc) (hN:X.N=ON) (hcl:∀x,cl.lookup x=if (x,bc)∈scope.names then X.env.cells.lookup x else none)
  (hg:∀cl C s H ex,PG (X.block scope cl C N s H ex) tg g) (hif:∀cl C s H ex,kB (X.block scope cl C N s H ex) ifs ti) (hi2:∀cl C s H ex,PI (X.block scope cl C N s H ex) tg2 iter2 wi2) (hg2:∀cl C s H ex,PG (X.block scope cl C N s H ex) tg2 g2) (hif2:∀cl C s H ex,kB (X.block scope cl C N s H ex) ifs2 ti2) (he:∀cl C s H ex,PE (X.block scope cl C N s H ex) elt te) (hs2:∀env x,cz iter2 env x=pure x)
  (I:Inv X pins σ H s) (T:Turn X.prog X.w X.K tg J fp it tn) (st:tn 0 s.heap) (hf:∀b∈fp,yF X pins H b)
  (hw:∀acc,H acc=none->∃W:Nat->Nat->St->Hp->Prop,(∃m,W 0 m (yU own caps σ) (upd H acc (.lst [])))/\∀i m σ' H',W i m σ' H' ->
   (J.stop i H'/\Q (.ref acc) H')\/(J.go i H'/\∃NX:St->Hp->Prop,(∀σ2 H2,NX σ2 H2->∃m',m'<m/\W (i+1) m' σ2 H2) /\
    ∀x H2,J.yld i H' x H2->g x σ' H2 λσ3 H3=>ti σ3 H3 λok H4=>if ok=true then wi2 σ3 H4 λJ2 H5=>gK acc g2 ti2 te J2 NX σ3 H5 else NX σ3 H4))
  (fin:∀(D C:Addr) (H':Hp) (s':Shared),Inv X pins σ H' s'->BlockAt X pins H' C->(∃m,s'.heap.Ns C m)->Q (.ref D) H'->RR (.ref D) C (.ok .next) s') :
  ax (aE X.prog X.w) X.A (pM []) (λacc s₃=>ax (aE X.prog X.w) X.A (nB scope X.env.globals cl [] X.env.qual none .none (some X.env)) (λcenv s₄ =>
   cU (aE X.prog X.w) X.A (.compStart (xB elt tg iter tg2 iter2 ifs ifs2 scope pos) 0 (.ref it) acc { cenv with scope:=tY scope X.env }) (RR acc cenv.locals) s₄) E s₃) E s:=by
 have hfs:∀b∈fp,b<s.heap.objs.size:=λb hb=>by
  obtain ⟨o,e,_⟩:=T.obj _ _ st b hb
  exact aw e
 refine bC (iF S.nocell (by intro y hy;simp at hy) (λh₁ hns₁ hsb₁=>?_) S.kind)
 dsimp only at hns₁ hsb₁ ⊢
 generalize hH2:s.heap.push { cls:=.type "list",dict:=none,data:=.seq ([]:List aj).toArray }=H2 at hns₁ hsb₁ ⊢
 have hCsz:H2.objs.size=s.heap.objs.size+1:=by rw [<- hH2,cB]
 have old:∀b o,s.heap.get? b=some o->h₁.get? b=some o:=λb o e=>hsb₁.extBut b o (aC (by rw [hCsz];exact cg (aw e))) (ai _ (hH2 ▸ ai _ e))
 have eD:h₁.get? s.heap.objs.size=some { cls:=.type "list",data:=.seq #[] }:=hsb₁.extBut _ _ (aC ∅) (ai _ (hH2 ▸ ay _ rfl))
 have hDn:H s.heap.objs.size=none:=I.hok.fresh (ar _)
 obtain ⟨W,⟨m0,w0⟩,turn⟩:=hw s.heap.objs.size hDn
 have hns:h₁.Ns H2.objs.size λ_=>none:=hns₁
 have I1:Inv (X.block scope cl H2.objs.size N s H fp) [] (yU own caps σ) (upd H s.heap.objs.size (.lst [])) { s with heap:=h₁,toks:=s.toks+([]:List (Str×aj)).length } :=
  yX S hsc hN hcl I hf hfs rfl hCsz old eD hns _
 have st1:tn 0 h₁:=T.keep 0 _ _ st λb _ o e=>old b o e
 have fpB:∀{H':Hp},(∀b∈fp,H' b=none)->∀b∈fp,yF (X.block scope cl H2.objs.size N s H fp) [] H' b:=λ{H'} hn b hb=>by
  have ok:=I1.ok
  exact ⟨hn b hb,(ok.exf b hb).1,ok.exfs b hb,.inl hb,(ok.exf b hb).2,λp hp=>absurd (show p∈([]:List (Addr×Obj)) from hp) (by simp)⟩
 have back:∀{σ':St} {H':Hp} {s':Shared},Inv (X.block scope cl H2.objs.size N s H fp) [] σ' H' s'->Q (.ref s.heap.objs.size) H'->RR (.ref s.heap.objs.size) H2.objs.size (.ok .next) s':=λ{σ' H' s'} J1 q=>by
  have J2:Inv X pins σ H' s':=I.call' (ch:=fp) J1.os J1.base J1.hok J1.bare λb hb=>⟨(hf b hb).2.2.2.1,(hf b hb).2.1,(hf b hb).2.2.2.2.1,(hf b hb).2.2.2.2.2⟩
  obtain ⟨m,hm,_⟩:=J1.loc
  refine fin _ _ H' s' J2 ⟨J1.free,cN (aO I.lt ∅),aH I.sz ∅,λx c e z=>?_,λp hp z=>?_⟩ ⟨m,hm⟩ q
  ·obtain ⟨v,y⟩:=I.cell x c e
   have h1:H2.objs.size<s.heap.objs.size:=z ▸ y.lt
   exact absurd h1 ∅
  ·have h1:H2.objs.size<s.heap.objs.size:=z ▸ aw (I.pin p hp).1
   exact absurd h1 ∅
 have loop:∀s₃:Shared,s₃={ s with heap:=h₁,toks:=s.toks+([]:List (Str×aj)).length } ->
   cU (aE X.prog X.w) X.A (.compLoop (xB elt tg iter tg2 iter2 ifs ifs2 scope pos) 0 (.ref it) (.ref s.heap.objs.size) (pJ scope cl H2.objs.size X.env)) (RR (.ref s.heap.objs.size) H2.objs.size) s₃:=by
  rintro s₃ rfl
  refine YB (λn s'=>∃i σ' H',Inv (X.block scope cl H2.objs.size N s H fp) [] σ' H' s'/\tn i s'.heap/\(∀b∈fp,H' b=none)/\W i n σ' H') (hs2 _) ?_ m0
   ⟨0,_,_,I1,st1,λb hb=>by rw [j7 (aC (hfs b hb))];exact (hf b hb).1,w0⟩
  rintro n s3 ⟨i,σ3,H3,I3,st3,fr3,w3⟩
  rcases turn i n σ3 H3 w3 with ⟨stop,qn⟩ | ⟨go,NX,hNX,step⟩
  ·refine thn (T.done (X.block scope cl H2.objs.size N s H fp) rfl rfl rfl hc i [] s3 σ3 H3 _ I3 (fpB fr3) st3 stop) λr s4 ⟨hr,I4⟩=>?_
   subst hr
   exact back I4 qn
  ·refine thn (T.item (X.block scope cl H2.objs.size N s H fp) rfl rfl rfl hc i [] s3 σ3 H3 _ I3 (fpB fr3) st3 go) λr s4 ⟨u,hr,h4⟩=>?_
   subst hr
   refine thn h4 λ_ s5 ⟨x,H5,I5,r5,y5,st5,fr5⟩=>?_
   have I5':=I5.pinned (fpB fr5) (T.obj _ _ st5)
   refine thn (hg cl H2.objs.size s H fp _ s5 σ3 H5 x u _ I5' r5 (step x H5 y5)) λ_ s6 ⟨σ6,H6,I6,q6⟩=>?_
   refine thn (hif cl H2.objs.size s H fp _ s6 σ6 H6 _ I6 q6) λok s7 ⟨H7,I7,q7⟩=>?_
   have again:∀{s8:Shared} {σ8:St} {H8:Hp},Inv (X.block scope cl H2.objs.size N s H fp) ([]++zn fp s5.heap) σ8 H8 s8->NX σ8 H8->∃m,m<n/\∃i σ' H',Inv (X.block scope cl H2.objs.size N s H fp) [] σ' H' s8/\tn i s8.heap/\(∀b∈fp,H' b=none)/\W i m σ' H':=λ{s8 σ8 H8} I8 n8=>by
    obtain ⟨m',hm,w8⟩:=hNX σ8 H8 n8
    refine ⟨m',hm,i+1,σ8,H8,I8.unpinned,T.keep _ _ _ st5 λb hb o e=>(I8.pin (b,o) (aD _ (aD _ (qE hb e)))).1,λb hb=>?_,w8⟩
    obtain ⟨o,e,d⟩:=T.obj _ _ st5 b hb
    exact (I8.pin (b,o) (aD _ (aD _ (qE hb e)))).2.1
   cases ok with
   | false =>
    rw [if_neg au] at q7 ⊢
    exact again I7 q7
   | true =>
    rw [if_pos rfl] at q7 ⊢
    refine thn (hi2 cl H2.objs.size s H fp _ s7 σ6 H7 _ I7 q7) λv s8 h8=>thn h8 λitv s9 h9=>?_
    obtain ⟨it2,fp2,tn2,J2,H9,e,I9,T2,st9,f9,W2,⟨m2,w2⟩,turn2⟩:=h9
    subst e
    have stat2:∀{H':Hp},(∀b∈fp2,H' b=none)->∀b∈fp2,yF (X.block scope cl H2.objs.size N s H fp) ([]++zn fp s5.heap) H' b:=λhn b hb=>⟨hn b hb,(f9 b hb).2⟩
    have inner:cU (aE X.prog X.w) X.A (.compLoop (xB elt tg iter tg2 iter2 ifs ifs2 scope pos) 1 (.ref it2) (.ref s.heap.objs.size) (pJ scope cl H2.objs.size X.env)) (λr s'=>match r with | .ok _=>∃m,m<n/\∃i σ' H',Inv (X.block scope cl H2.objs.size N s H fp) [] σ' H' s'/\tn i s'.heap/\(∀b∈fp,H' b=none)/\W i m σ' H' | .error _=>False) s9:=by
     refine VU (λn2 s'=>∃j σ' H',Inv (X.block scope cl H2.objs.size N s H fp) ([]++zn fp s5.heap) σ' H' s'/\tn2 j s'.heap/\(∀b∈fp2,H' b=none)/\W2 j n2 σ' H') ?_ m2 ⟨0,_,_,I9,st9,λb hb=>(f9 b hb).1,w2⟩
     rintro n2 s10 ⟨j,σ10,H10,I10,st10,fr10,w10⟩
     rcases turn2 j n2 σ10 H10 w10 with ⟨stop2,nx2⟩ | ⟨go2,NX2,hNX2,step2⟩
     ·refine thn (T2.done (X.block scope cl H2.objs.size N s H fp) rfl rfl rfl hc j _ s10 σ10 H10 _ I10 (stat2 fr10) st10 stop2) λr s11 ⟨hr,I11⟩=>?_
      subst hr
      exact again I11 nx2
     ·refine thn (T2.item (X.block scope cl H2.objs.size N s H fp) rfl rfl rfl hc j _ s10 σ10 H10 _ I10 (stat2 fr10) st10 go2) λr s11 ⟨u2,hr,h11⟩=>?_
      subst hr
      refine thn h11 λ_ s12 ⟨x2,H12,I12,r12,y12,st12,fr12⟩=>?_
      have I12':=I12.pinned (stat2 fr12) (T2.obj _ _ st12)
      refine thn (hg2 cl H2.objs.size s H fp _ s12 σ10 H12 x2 u2 _ I12' r12 (step2 x2 H12 y12)) λ_ s13 ⟨σ13,H13,I13,q13⟩=>?_
      refine thn (hif2 cl H2.objs.size s H fp _ s13 σ13 H13 _ I13 q13) λok2 s14 ⟨H14,I14,q14⟩=>?_
      have again2:∀{s15:Shared} {σ15:St} {H15:Hp},Inv (X.block scope cl H2.objs.size N s H fp) (([]++zn fp s5.heap)++zn fp2 s12.heap) σ15 H15 s15->NX2 σ15 H15->∃m,m<n2/\∃j σ' H',Inv (X.block scope cl H2.objs.size N s H fp) ([]++zn fp s5.heap) σ' H' s15/\tn2 j s15.heap/\(∀b∈fp2,H' b=none)/\W2 j m σ' H':=λ{s15 σ15 H15} I15 n15=>by
       obtain ⟨m',hm,w15⟩:=hNX2 σ15 H15 n15
       refine ⟨m',hm,j+1,σ15,H15,I15.unpinned,T2.keep _ _ _ st12 λb hb o e=>(I15.pin (b,o) (aD _ (aD _ (qE hb e)))).1,λb hb=>?_,w15⟩
       obtain ⟨o,e,d⟩:=T2.obj _ _ st12 b hb
       exact (I15.pin (b,o) (aD _ (aD _ (qE hb e)))).2.1
      cases ok2 with
      | false =>
       rw [if_neg au] at q14 ⊢
       exact again2 I14 q14
      | true =>
       rw [if_pos rfl] at q14 ⊢
       refine thn (he cl H2.objs.size s H fp _ s14 σ13 H14 _ I14 q14) λv15 s15 ⟨y15,H15,I15,r15,ys,e15,z15,q15⟩=>?_
       refine thn (jX _ s15 σ13 H15 (.ref s.heap.objs.size) [y15] _ [v15] (λ_ H16=>NX2 σ13 H16) I15 rfl (.cons r15 .nil) ⟨_,ys,y15,rfl,rfl,e15,z15,q15⟩) λ_ s16 ⟨_,H16,I16,_,q16⟩=>?_
       exact again2 I16 q16
    exact YF inner (T2.self _ 0 _ _ _ st9 inner)
 exact fZ (loop _ rfl) (T.self _ 0 _ _ _ st1 (loop _ rfl))
theorem U5 {own:Nat}(S:CompSc osc ON scope own N caps)
  (hc:X.calm=true) (hsc:X.env.scope=osc) (hN:X.N=ON) (hi:PI X tg iter wi)
  (hg:∀cl C s H ex,PG (X.block scope cl C N s H ex) tg g) (hif:∀cl C s H ex,kB (X.block scope cl C N s H ex) ifs ti) (hi2:∀cl C s H ex,PI (X.block scope cl C N s H ex) tg2 iter2 wi2) (hg2:∀cl C s H ex,PG (X.block scope cl C N s H ex) tg2 g2) (hif2:∀cl C s H ex,kB (X.block scope cl C N s H ex) ifs2 ti2) (he:∀cl C s H ex,PE (X.block scope cl C N s H ex) elt te)
  (hs:∀x,cz iter X.env x=pure x:=by intro _;rfl) (hs2:∀env x,cz iter2 env x=pure x:=by intro _ _;rfl):PE X (.ListComp elt [⟨tg,iter,ifs,0⟩,⟨tg2,iter2,ifs2,0⟩] scope pos) (Ei own caps wi g ti wi2 g2 ti2 te):=by
 intro pins s σ H Q I h
 obtain ⟨cl,hclos,hcl⟩:=yP (Qu S hsc I)
 rw [oC]
 refine dH (use:=none) rfl hs hclos S.kind S.loc (thn (hi pins s σ H _ I h) λv s1 h1=>thn h1 λitv s2 h2=>?_)
 obtain ⟨it,fp,tn,J,H2,e,I2,T,st2,f2,hw⟩:=h2
 subst e
 refine YK (RR:=λacc C=>sX (aE X.prog X.w) X.A X.xe none (EP X pins σ Q) acc C) hc S hsc hN hcl hg hif hi2 hg2 hif2 he hs2 I2 T st2 f2 hw λD C H' s' J1 B ⟨m,hm⟩ q=>?_
 exact ⟨m,hm,λh' hs'=>⟨.ref D,H',B.gone J1 hs',rfl,q⟩⟩
end
end L2
end
section
namespace L2
open PySem.W
structure CalM (P:Program) (w:bx) (K:ag) (mg:Str->Option aj) (base:Heap) (k:Nat) (C:Addr) (m:Str) (ps:List Str) (sp:Sp):Prop where
 ex:∃f fd,FnOk P w K mg base CX0 k f fd ps sp/\yr K fd ps []/\Meth K C m f
structure CalMX (P:Program) (w:bx) (K:ag) (mg:Str->Option aj) (base:Heap) (k:Nat) (C:Addr) (m:Str) (ps:List Str) (sp:Sp):Prop where
 ex:∃f fd,FnOk P w K mg base (CX1 P w) k f fd ps sp/\yr K fd ps []/\Meth K C m f
section
variable {X:Cx}{k:Nat}{f C:Addr}{fd:FuncData}{ps:List Str}{sp:Sp}{x m:Str}{p pos apos:Pos}{e o:Expr}{es:List Expr}{ta:TE}{t:TA}{J:aj->St->Hp->Prop}
theorem AC {pins:List (Addr×Obj)}{σ:St}{s:Shared}{Q:VK}{us:List aj}(F:FnOk X.prog X.w X.K X.mg X.base (CX1 X.prog X.w) k f fd ps sp) (hr:Room k X.A) (hb:yr X.K fd ps []) (ac:Acc X J)
  (I:Inv X pins σ H s) (r:jE vs us) (h:sp vs H Q λcls _ H'=>J cls σ H'):ax (aE X.prog X.w) X.A (call (.ref f) us) (EP X pins σ Q) X.xe s:=by
 have hl:us.length=ps.length:=by rw [<- r.length];exact F.len _ _ _ _ h
 have hb':=hb s us I.kIn (by rw [aN];exact hl)
 rw [aN] at hb'
 refine fF (dg (F.run X.A X.stack s H ⟨us,[]⟩ us vs Q _ hr I.env0 hb' r h) λr s' hq=>?_)
 cases r with
 | error e =>
  obtain ⟨a,cls,H',rfl,os,b,u,ok,fy,j⟩:=hq
  exact ac pins σ H' s' a cls ⟨s,H,I,os,b,u,ok,fy⟩ j
 | ok fl =>
  cases fl with
  | ret u=>exact I.after hq
  | next=>exact bt hq
  | brk=>exact bt hq
  | cont=>exact bt hq
theorem pe_m (he:PE X o ta) (c:Cls X.K C) (cm:CalM X.prog X.w X.K X.mg X.base k C m ps sp) (hr:Room k X.A) (ha:PA X (e::es) t)
  (hst:aP (e::es) X.env=(false,eval e X.env)::aP es X.env:=by rfl) (hpl:(cM pos (aP es X.env)).any (·.1)=false:=by rfl)
  (ht:eval (.Call (.Attribute o m apos) (e::es) [] pos) X.env=(do let ov <- eval o X.env;ff apos.atName;let (f,first) <- ef [ov] (ma ov m pl);pq pos f first (cM pos (aP (e::es) X.env)) (lh pos (eU [] X.env))):=by rfl) :
  PE X (.Call (.Attribute o m apos) (e::es) [] pos) (GD C m sp [] E0 ta t):=by
 obtain ⟨f,fd,F,hb,hm⟩:=cm.ex
 exact Gu he c hm F hr hb .nil Gw ha hst hpl ht
noncomputable def Et (C:Addr) (m:Str) (sp:Sp) (J:aj->St->Hp->Prop) (ta:TE) (t:TA):TE:=λσ H Q=>ta σ H λx H1=>∃a dx fs,x = .ref a/\H1 a=some (.ins C dx fs)/\fs.lookup m=none/\t σ H1 λvs H2=>sp (x::vs) H2 Q λcls _ H'=>J cls σ H'
theorem yk (he:PE X o ta) (c:Cls X.K C) (cm:CalMX X.prog X.w X.K X.mg X.base k C m ps sp) (hr:Room k X.A) (ac:Acc X J) (ha:PA X (e::es) t)
  (hst:aP (e::es) X.env=(false,eval e X.env)::aP es X.env:=by rfl) (hpl:(cM pos (aP es X.env)).any (·.1)=false:=by rfl)
  (ht:eval (.Call (.Attribute o m apos) (e::es) [] pos) X.env=(do let ov <- eval o X.env;ff apos.atName;let (f,first) <- ef [ov] (ma ov m pl);pq pos f first (cM pos (aP (e::es) X.env)) (lh pos (eU [] X.env))):=by rfl) :
  PE X (.Call (.Attribute o m apos) (e::es) [] pos) (Et C m sp J ta t):=by
 obtain ⟨f,fd,F,hb,hm⟩:=cm.ex
 intro pins s σ H Q I h
 refine ij (pl:=pl) (thn (he pins s σ H _ I h) λu s1 ⟨x,H1,I1,rx,a,dx,fs,ex,ea,l,q⟩=>?_) ht
 subst ex
 obtain rfl:u=aV a:=rx
 refine ud I1 ea c hm l ?_
 refine dm (first:=[.ref a]) (h₀:=X.base) I.ok.mod.kin hm.kp (thn (ha pos pins s1 σ H1 _ I1 q) λus s2 ⟨vs,H2,I2,r,q2⟩=>⟨I2.kIn,?_⟩) hst hpl
 exact AC (us:=.ref a::us) (vs:=.ref a::vs) F hr hb ac I2 (.cons rfl r) q2
structure MakX (P:Program) (w:bx) (K:ag) (mg:Str->Option aj) (base:Heap) (k:Nat) (C:Addr) (x:Str) (ps:List Str) (sp:Sp):Prop where
 ex:∃f fd,FnOk P w K mg base (CX1 P w) k f fd ps sp/\yr K fd ps []/\Mk K C f/\mg x=some (.ref C)
noncomputable def EJ (C:Addr) (sp:Sp) (J:aj->St->Hp->Prop) (t:TA):TE:=λσ H Q=>t σ H λvs H1=>∀x dx,H1 x=none->H1 dx=none->dx≠x ->
 sp (.ref x::vs) (upd (upd H1 dx (.own x)) x (.ins C dx [])) (λv H2=>v = .non/\Q (.ref x) H2) λcls _ H'=>J cls σ H'
theorem WU (c:MakX X.prog X.w X.K X.mg X.base k C x ps sp) (hr:Room (k+1) X.A) (ac:Acc X J) (hg:Gl X x) (ha:PA X (e::es) t) (hdb:(x == ("__debug__" : Str))=false:=by decide) (he:aP (e::es) X.env=(false,eval e X.env)::aP es X.env:=by rfl) (hpl:(cM pos (aP es X.env)).any (·.1)=false:=by rfl) :
  PE X (.Call (.Name x p) (e::es) [] pos) (EJ C sp J t):=by
 obtain ⟨f,fd,F,hb,M,hm⟩:=c.ex
 intro pins s0 σ H0 Q I0 h0
 refine cX (yx I0 hg hm ?_ hdb)
 refine dm (h₀:=X.base) I0.ok.mod.kin M.kp (thn (ha pos pins s0 σ H0 _ I0 h0) λus s ⟨vs,H,I,r,h⟩=>⟨I.kIn,?_⟩) he hpl
 have hq:=h (s.heap.objs.size+1) s.heap.objs.size (I.hok.fresh (fL _)) (I.hok.fresh (ar _)) (aC (iq _))
 have I2:=Inv.made (C:=C) I
 have r2:jE (V.ref (s.heap.objs.size+1)::vs) (aV (s.heap.objs.size+1)::us):=.cons rfl r
 have hl:(aV (s.heap.objs.size+1)::us).length=ps.length:=by rw [<- r2.length];exact F.len _ _ _ _ hq
 have hb':=hb { s with heap:=_ } (aV (s.heap.objs.size+1)::us) I2.kIn (by rw [aN];exact hl)
 rw [aN] at hb'
 refine fF (VN (f:=f) I.kIn M.makes M.init (beq_iff_eq.mp M.fn) (dg (F.run _ X.stack _ _ ⟨aV (s.heap.objs.size+1)::us,[]⟩ (aV (s.heap.objs.size+1)::us) _ _ _ (hr.make C us []) (I2.env0.make C us []) hb' r2 hq) λr s' hq'=>?_))
 cases r with
 | error e =>
  obtain ⟨a,cls,H',rfl,os,b,u,ok,fy,j⟩:=hq'
  exact ac pins σ H' s' a cls ⟨_,_,I2,os,b,u,ok,fy⟩ j
 | ok fl =>
  cases fl with
  | ret u =>
   obtain ⟨v,H',I3,rv,ev,q3⟩:=I2.after hq'
   subst ev
   exact ⟨rv,⟨V.ref (s.heap.objs.size+1),H',I3,rfl,q3⟩⟩
  | next=>exact bt hq'
  | brk=>exact bt hq'
  | cont=>exact bt hq'
theorem xq {f:Str}(K:ag) (he:PE X e ta) (hb:dG e f X.env (eval e X.env)=eval e X.env:=by rfl) (hK:X.K=K:=by rfl):PE X (.Attribute e f pos) (Af K ta f):=by subst hK;exact Ep he hb
theorem uW {f:Str}(K:ag) (ha:PE X o ta) (hv:PE X value tv) (hs:iX value (some (.Attribute o f pos')) pos.line X.env=pure false:=by rfl) (hK:X.K=K:=by rfl):PS X (.Assign [.Attribute o f pos'] value pos) (Al K ta tv f):=by subst hK;exact GI ha hv hs
end
theorem GO {K:ag}{xs:List V}{g2:TG}{ti2:TT}{te:TE}{NX:St->Hp->Prop}{σ:St}{H:Hp}(Pv:Nat->St->Hp->Prop) (h0:Pv 0 σ H) (hl:∀i σ H,i<=xs.length->Pv i σ H->SqT K H a xs)
  (hs:∀i x σ H,xs[i]? = some x->Pv i σ H->g2 x σ H λσ3 H3=>ti2 σ3 H3 λok H4=>if ok=true then te σ3 H4 λv H5=>∃ys,H5 acc=some (.lst ys)/\ys.length<sizeLine/\Pv (i+1) σ3 (upd H5 acc (.lst (ys++[v]))) else Pv (i+1) σ3 H4)
  (hd:∀σ H,Pv xs.length σ H->NX σ H):gK acc g2 ti2 te (Itt K a) NX σ H:=by
 refine ⟨λi m σ H=>m=xs.length-i/\i<=xs.length/\Pv i σ H,⟨xs.length,by simp,aJ _,h0⟩,λi m σ H z=>?_⟩
 obtain ⟨rfl,hi,p⟩:=z
 have q:=hl i σ H hi p
 by_cases hlt:i<xs.length
 ·refine .inr ⟨⟨xs,xs[i],q,by simp [hlt]⟩,Pv (i+1),λσ' H' p'=>⟨xs.length-(i+1),∅,rfl,hlt,p'⟩,λx H' y=>?_⟩
  obtain ⟨e,y⟩:=y
  subst e
  exact hs i x σ _ (y xs q) p
 ·obtain rfl:i=xs.length:=∅
  exact .inl ⟨⟨xs,q,ar _⟩,hd σ H p⟩
theorem YI {K:ag}{acc:Addr}{xs:List V}{g g2:TG}{ti ti2:TT}{wi2:TI}{te:TE}{R:Hp->Prop}{σ:St}{H:Hp}(Pv:Nat->St->Hp->Prop) (h0:Pv 0 σ H) (hl:∀i σ H,i<=xs.length->Pv i σ H->SqT K H a xs)
  (hs:∀i x σ H,xs[i]? = some x->Pv i σ H->g x σ H λσ3 H3=>ti σ3 H3 λok H4=>if ok=true then wi2 σ3 H4 λJ2 H5=>gK acc g2 ti2 te J2 (Pv (i+1)) σ3 H5 else Pv (i+1) σ3 H4)
  (hd:∀σ H,Pv xs.length σ H->R H) :
  ∃W:Nat->Nat->St->Hp->Prop,(∃m,W 0 m σ H)/\∀i m σ' H',W i m σ' H' ->
   ((Itt K a).stop i H'/\R H')\/((Itt K a).go i H'/\∃NX:St->Hp->Prop,(∀σ2 H2,NX σ2 H2->∃m',m'<m/\W (i+1) m' σ2 H2) /\
    ∀x H2,(Itt K a).yld i H' x H2->g x σ' H2 λσ3 H3=>ti σ3 H3 λok H4=>if ok=true then wi2 σ3 H4 λJ2 H5=>gK acc g2 ti2 te J2 NX σ3 H5 else NX σ3 H4):=by
 refine ⟨λi m σ H=>m=xs.length-i/\i<=xs.length/\Pv i σ H,⟨xs.length,by simp,aJ _,h0⟩,λi m σ H z=>?_⟩
 obtain ⟨rfl,hi,p⟩:=z
 have q:=hl i σ H hi p
 by_cases hlt:i<xs.length
 ·refine .inr ⟨⟨xs,xs[i],q,by simp [hlt]⟩,Pv (i+1),λσ' H' p'=>⟨xs.length-(i+1),∅,rfl,hlt,p'⟩,λx H' y=>?_⟩
  obtain ⟨e,y⟩:=y
  subst e
  exact hs i x σ _ (y xs q) p
 ·obtain rfl:i=xs.length:=∅
  exact .inl ⟨⟨xs,q,ar _⟩,hd σ H p⟩
theorem Qw :Acc X λ_ _ _=>False:=λ_ _ _ _ _ _ _ z=>z.elim
end L2
end
section
namespace L2
open PySem.W
inductive gN (K:ag) (n:Str) (s:Stmt):Prop
 | mk {f:Addr} {oc kV dc pm cd ct:aj} {od an:Option Addr} {sl:Array (Option aj)} (a:nsIn K mainGlobals n=some (some (.ref f))) (l:K.lookup f=some ⟨oc,od,.func (fnOf n n (jV s) (jM s) (j8 s) .none kV dc pm an cd ct),sl⟩) (c:codeIn K cd n=true) (k:keepIn K (.ref f)=true)
inductive gM (K:ag) (C:Addr) (m q:Str) (s:Stmt):Prop
 | mk {f:Addr} {oc kV dc pm cd ct:aj} {od an:Option Addr} {sl:Array (Option aj)} (a:findIn K (.ref C) m=some (some (.ref f))) (i:isFn K (.ref f)=true) (l:K.lookup f=some ⟨oc,od,.func (fnOf m q (jV s) (jM s) (j8 s) .none kV dc pm an cd ct),sl⟩) (c:codeIn K cd q=true) (k:keepIn K (.ref f)=true)
structure gE (K:ag) (n:Str) (C:Addr):Prop where
 e:nsIn K mainGlobals n=some (some (.ref C))
 x:excIn K C [.type "ValueError",.type "Exception",.type "BaseException",.type "object"] "ValueError.__new__" = true
 m:exmOne K (.ref C) (.ref C)=some true
noncomputable abbrev gB (x q:Str) (st:Stmt) (ps:List Str):Prop:=∀(kV doc pm:aj) (an:Option Addr) (cdv ct:aj) (us:List aj),us.length=ps.length->cH (fnOf x q (jV st) (jM st) (j8 st) .none kV doc pm an cdv ct) ⟨us,[]⟩=pure (ps.zip us)
inductive Zt (P:Program) (w:bx) (K:ag) (mg:Str->Option aj) (base:Heap):Prop
 | mk {h:Heap} (X:K.In h) (G:h.Ns mainGlobals mg)
section
variable {P:Program}{w:bx}{K:ag}{mg:Str->Option aj}{base:Heap}{k:Nat}{x q:Str}{ps:List Str}{sp:Sp}{st:Stmt}{C:Addr}
theorem gN.cal (a:gN K x st) (z:Zt P w K mg base) (hb:gB x x st ps)
  (ok:∀{f:Addr} {fd:FuncData},Fun K x x st f fd->FnOk P w K mg base CX0 k f fd ps sp):Cal P w K mg base k x ps sp:=by
 obtain ⟨a,l,c,k'⟩:=a
 obtain ⟨X,G⟩:=z
 exact Cal.mk' X G a l c k' hb ok
theorem gN.calX (a:gN K x st) (z:Zt P w K mg base) (hb:gB x x st ps)
  (ok:∀{f:Addr} {fd:FuncData},Fun K x x st f fd->FnOk P w K mg base (CX1 P w) k f fd ps sp):CalX P w K mg base k x ps sp:=by
 obtain ⟨a,l,c,k'⟩:=a
 obtain ⟨X,G⟩:=z
 exact CalX.mk' X G a l c k' hb ok
theorem gM.cal (a:gM K C x q st) (z:Zt P w K mg base) (hb:gB x q st ps)
  (ok:∀{f:Addr} {fd:FuncData},Fun K x q st f fd->FnOk P w K mg base CX0 k f fd ps sp):CalM P w K mg base k C x ps sp:=by
 obtain ⟨a,i,l,c,k'⟩:=a
 have F:=vf (st:=st) l c k'
 exact ⟨_,_,ok F,F.binds hb,⟨a,i,k'⟩⟩
theorem gM.calX (a:gM K C x q st) (z:Zt P w K mg base) (hb:gB x q st ps)
  (ok:∀{f:Addr} {fd:FuncData},Fun K x q st f fd->FnOk P w K mg base (CX1 P w) k f fd ps sp):CalMX P w K mg base k C x ps sp:=by
 obtain ⟨a,i,l,c,k'⟩:=a
 have F:=vf (st:=st) l c k'
 exact ⟨_,_,ok F,F.binds hb,⟨a,i,k'⟩⟩
theorem gM.mak (a:gM K C "__init__" q st) (z:Zt P w K mg base) (m:makesIn K C=true) (kc:keepIn K (.ref C)=true) (n:nsIn K mainGlobals y=some (some (.ref C))) (hb:gB "__init__" q st ps)
  (ok:∀{f:Addr} {fd:FuncData},Fun K "__init__" q st f fd->FnOk P w K mg base (CX1 P w) k f fd ps sp):MakX P w K mg base k C y ps sp:=by
 obtain ⟨a,i,l,c,k'⟩:=a
 obtain ⟨X,G⟩:=z
 have F:=vf (st:=st) l c k'
 exact ⟨_,_,ok F,F.binds hb,⟨m,a,i,kc⟩,mg_of X G n⟩
end
theorem bnd1 {ps:List Str}{us:List aj}(hl:us.length=1) (h:∀a,cH fd ⟨[a],[]⟩=pure (ps.zip [a])):cH fd ⟨us,[]⟩=pure (ps.zip us):=match us,hl with | [a],_=>h a
theorem bnd2 {ps:List Str}{us:List aj}(hl:us.length=2) (h:∀a b,cH fd ⟨[a,b],[]⟩=pure (ps.zip [a,b])):cH fd ⟨us,[]⟩=pure (ps.zip us):=match us,hl with | [a,b],_=>h a b
theorem bnd3 {ps:List Str}{us:List aj}(hl:us.length=3) (h:∀a b c,cH fd ⟨[a,b,c],[]⟩=pure (ps.zip [a,b,c])):cH fd ⟨us,[]⟩=pure (ps.zip us):=match us,hl with | [a,b,c],_=>h a b c
theorem bnd4 {ps:List Str}{us:List aj}(hl:us.length=4) (h:∀a b c d,cH fd ⟨[a,b,c,d],[]⟩=pure (ps.zip [a,b,c,d])):cH fd ⟨us,[]⟩=pure (ps.zip us):=match us,hl with | [a,b,c,d],_=>h a b c d
theorem bnd5 {ps:List Str}{us:List aj}(hl:us.length=5) (h:∀a b c d e,cH fd ⟨[a,b,c,d,e],[]⟩=pure (ps.zip [a,b,c,d,e])):cH fd ⟨us,[]⟩=pure (ps.zip us):=match us,hl with | [a,b,c,d,e],_=>h a b c d e
theorem bnd6 {ps:List Str}{us:List aj}(hl:us.length=6) (h:∀a b c d e f,cH fd ⟨[a,b,c,d,e,f],[]⟩=pure (ps.zip [a,b,c,d,e,f])):cH fd ⟨us,[]⟩=pure (ps.zip us):=match us,hl with | [a,b,c,d,e,f],_=>h a b c d e f
end L2
end
section
namespace L2
open PySem.W
theorem Jk:entryFor table "proto.unchain" = some eR.«proto.unchain»:=entryFor_of_fast (by kernel_rfl)
noncomputable def Qa (A:bz) (h:Heap):Prop:=∃e oe ws,A.handled=some (.ref e)/\h.get? e=some oe/\oe.data = .fields ws/\ws[2]? = some .none
theorem Qa.keep {A:bz}{h':Heap}(x:Qa A h) (k:∀b o ws,h.get? b=some o->o.data = .fields ws->ws[2]? = some .none->∃o' ws',h'.get? b=some o'/\o'.data = .fields ws'/\ws'[2]? = some .none):Qa A h':=by
 obtain ⟨e,oe,ws,a,b,c,d⟩:=x
 obtain ⟨o',ws',b',c',d'⟩:=k e oe ws b c d
 exact ⟨e,o',ws',a,b',c',d'⟩
section
variable {prog:Program}{w:bx}{A:bz}{E:aj->Shared->Prop}{s:Shared}
theorem Zs {α:Type}{e:Addr}{oe:Obj}{vs:Array aj}{Q:α->Shared->Prop}(hh:Qa A s.heap) (ge:s.heap.get? e=some oe) (gd:oe.data = .fields vs) (z2:2<vs.size) (new:∀x,A.handled=some (.ref x)->x≠e)
  (k:∀x,E (.ref e) { s with heap:=s.heap.update e (eO (·.setIfInBounds 2 x)) }):ax (aE prog w) A (raiseNew (.ref e):Sem α) Q E s:=by
 obtain ⟨x,ox,ws,hA,gx,gw,g2⟩:=hh
 have ne:=new x hA
 unfold raiseNew
 refine aa (tO ?_)
 rw [hA]
 dsimp only
 rw [if_pos (by simpa using ne)]
 refine aa (bw (wpAny_runValue (fE Jk ?_)))
 show ax _ _ (mL (.ref x) 2 >>= _) _ _ s
 refine aa (bB gx gw g2 ?_)
 rw [if_pos (by rfl)]
 refine wpAny_pure ?_
 show ax _ _ (updateField e 2 (.ref x) >>= _) _ _ s
 unfold updateField
 refine aa (aa (wpAny_load ge ?_))
 rw [gd]
 dsimp only
 rw [if_pos z2]
 exact wpAny_update ge (wpAny_throw (k _))
theorem JU {α:Type}{it:Addr}{oi:Obj}{u0 u1 y:aj}{Q:Option aj->Shared->Prop}(hh:Qa A s.heap) (gi:s.heap.get? it=some oi) (gd:oi.data = .fields #[u0,u1]) (k:∀g,iG it s.heap g->Q none { s with heap:=g }) :
  ax (aE prog w) A (setField (.ref it) 0 y >>= λ_=>AY (.type "StopIteration") [] >>= λe=>(raiseNew e:Sem α)) (λ_ _=>False) (λe s1=>∃a,e = .ref a/\s1.TypeIs (.ref a) "StopIteration" /\ Q none s1) s:=by
 refine aa (fb gi gd (by simp) (aa ?_))
 simp only [AY,newTuple]
 refine aa (bC ?_ (by size_fits))
 refine aa (m:=lB _ _) (nN (a:=aU) (by first | rfl | (simp only [lB];rfl)) ?_)
 refine bC ?_ (by size_fits)
 generalize hg:(s.heap.update it (eO (·.setIfInBounds 0 y))).push _=g1
 have kp:∀{b o},b≠it->s.heap.get? b=some o->g1.get? b=some o:=λ{b o} n q=>by
  rw [<- hg]
  refine ai _ ?_
  rw [c0 _ _ n.symm]
  exact q
 have notIt:∀{b o ws},s.heap.get? b=some o->o.data = .fields ws->ws[2]? = some .none->b≠it:=λ{b o ws} q d d2 z=>by
  rw [z,gi] at q
  cases q
  rw [gd] at d
  cases d
  cases d2
 refine Zs (oe:=_) ?_ (ay _ rfl) rfl (by first | (simp;done) | (simp;omega)) (λx hx=>?_) λx=>?_
 ·exact hh.keep λb o ws q d d2=>⟨o,ws,ai _ (kp (notIt q d d2) q),d,d2⟩
 ·obtain ⟨e,oe,ws,hA,ge,gw,g2⟩:=hh
  rw [hA] at hx
  cases hx
  exact aC (aw (kp (notIt ge gw g2) ge))
 ·refine ⟨_,rfl,⟨_,dA _ (ay _ rfl) rfl,rfl⟩,k _ λb o n q=>?_⟩
  rw [c0 _ _ (cN (aw (kp n q)))]
  exact ai _ (kp n q)
theorem Ze {i:Nat}{Q:Option aj->Shared->Prop}(hh:Qa A s.heap) (hit:s.heap.IsListIter it l i) (hl:s.heap.IsList l items) (hx:items[i]? = none)
  (k:∀g,iG it s.heap g->Q none { s with heap:=g }):ax (aE prog w) A (eP (.ref it)) Q E s:=by
 obtain ⟨oi,gi,gc,gd⟩:=id hit
 obtain ⟨ol,gl,_,nl,dl⟩:=hl
 unfold eP
 refine aa (eM ?_)
 refine bN (name:=ak "__next__") hit.typeIs oY ?_
 refine c7 oY hit.typeIs entry_listiter_next ?_ (args_listiter_next _)
 show ax _ A.in1 (mL (.ref it) 0 >>= _) _ _ s
 refine aa (bB gi gd (x:=.ref l) rfl ?_)
 show ax _ A.in1 (if (aV l == aU)=true then _ else _) _ _ s
 rw [if_neg (by exact au)]
 show ax _ A.in1 (mL (.ref it) 1 >>= _) _ _ s
 refine aa (bB gi gd (x:=.int i 0) rfl ?_)
 show ax _ A.in1 (rC (.ref l) >>= _) _ _ s
 refine aa (cD gl dl ?_)
 simp only [bF,hx]
 refine aa (eB ?_)
 refine aZ (JU (A:=A.in1) (Q:=Q) hh gi gd k) (λ_ _ z=>z.elim) λe s1 ⟨a,ea,ht,q⟩=>?_
 subst ea
 exact aa (mi (T:="StopIteration") (b:=true) ht nQ (wpAny_pure q))
theorem YY {i:Nat}{Q:Option aj->Shared->Prop}(hh:Qa A s.heap) (hit:IsTupIter s.heap it l i) (hl:rS s.heap l items) (hx:items[i]? = none)
  (k:∀g,iG it s.heap g->Q none { s with heap:=g }):ax (aE prog w) A (eP (.ref it)) Q E s:=by
 obtain ⟨oi,gi,gc,gd⟩:=id hit
 obtain ⟨ol,gl,_,nl,dl⟩:=hl
 unfold eP
 refine aa (eM ?_)
 refine bN (name:=ak "__next__") hit.typeIs ou ?_
 refine c7 ou hit.typeIs entry_tupleiter_next ?_ (args_tupleiter_next _)
 show ax _ A.in1 (mL (.ref it) 0 >>= _) _ _ s
 refine aa (bB gi gd (x:=.ref l) rfl ?_)
 show ax _ A.in1 (if (aV l == aU)=true then _ else _) _ _ s
 rw [if_neg (by exact au)]
 show ax _ A.in1 (mL (.ref it) 1 >>= _) _ _ s
 refine aa (bB gi gd (x:=.int i 0) rfl ?_)
 show ax _ A.in1 (rC (.ref l) >>= _) _ _ s
 refine aa (cD gl dl ?_)
 simp only [bF,hx]
 refine aa (eB ?_)
 refine aZ (JU (A:=A.in1) (Q:=Q) hh gi gd k) (λ_ _ z=>z.elim) λe s1 ⟨a,ea,ht,q⟩=>?_
 subst ea
 exact aa (mi (T:="StopIteration") (b:=true) ht nQ (wpAny_pure q))
theorem Vr {x1}{pos:Pos}{t:Addr}(hh:Qa A s.heap) (ht:rS s.heap t items) (hn:(d8 elts env).length=items.size) (hstar:(d8 elts env).findIdx? (·.1)=none)
  (k:∀g,iG s.heap.objs.size s.heap g->ax (aE prog w) A (tI ((d8 elts env).map (·.2)) items.toList) Q E { s with heap:=g }):ax (aE prog w) A (ip (.Tuple elts x1 pos) env (.ref t)) Q E s:=by
 have lt:t≠s.heap.objs.size:=by
  obtain ⟨o,ho,_⟩:=ht
  exact aC (aw ho)
 rw [assign_Tuple]
 refine aa (cY ?_)
 unfold unpack
 rw [hn,hstar]
 refine aa (bw ?_)
 unfold unpackItems
 refine aa ?_
 unfold notIterableAtAll
 refine aa (sA ht.typeIs slot_tuple_iter.lookup (wpAny_pure ?_))
 simp only [cp,if_false]
 refine aa (bw (iter_tuple ht ?_))
 refine aa (bw (draw_tuple lt items.size 0 _ _ ⟨_,ay _ rfl,rfl,rfl⟩ (ht.push _) ∅ λg1 hi1 sb1=>?_))
 rw [show List.take items.size (List.drop 0 items.toList)=items.toList by rw [lA];exact cR (by simp)]
 rw [if_neg (by simp)]
 have kp:∀{b o},b≠s.heap.objs.size->s.heap.get? b=some o->g1.get? b=some o:=λ{b o} n q=>sb1.extBut b o n (ai _ q)
 refine aa (bw (YY (hh.keep λb o ws q d d2=>⟨o,ws,kp (aC (aw q)) q,d,d2⟩) hi1 ((ht.push _).extBut sb1.extBut lt) (by simp) λg2 e2=>?_))
 simp only [Option.isSome_none,cp,if_false]
 exact wpAny_pure (k g2 λb o n q=>e2 b o n (kp n q))
end
structure Hu (X:Cx):Prop where
 ex:∃e oe ws,X.A.handled=some (.ref e)/\X.s₀.heap.get? e=some oe/\X.H₀ e=none/\e∉X.fs/\e∉X.ex/\oe.data = .fields ws/\ws[2]? = some .none
theorem Hu.now {X:Cx}(h:Hu X) (I:Inv X pins σ H s):Qa X.A s.heap:=by
 obtain ⟨e,oe,ws,a,b,c,d,f,g,k⟩:=h.ex
 exact ⟨e,oe,ws,a,I.base.keep e oe b c d f,g,k⟩
theorem Hu.block {X:Cx}{cl:List (Str×Addr)}{N:List Str}{fp:List Addr}(h:Hu X) (I:Inv X pins σ H s) (hf:∀b∈fp,yF X pins H b):Hu (X.block scope cl C N s H fp):=by
 obtain ⟨e,oe,ws,a,b,c,d,f,g,k⟩:=h.ex
 have now:=I.base.keep e oe b c d f
 refine ⟨e,oe,ws,a,now,I.base.free e oe b c f,λz=>?_,λz=>?_,g,k⟩
 ·rcases List.mem_cons.mp (I.stkSub e z) with y | y
  ·obtain ⟨m,⟨o,es,ep,ho,hd,_⟩,_⟩:=I.loc
   rw [<- y,now] at ho
   cases ho
   rw [g] at hd
   cases hd
  ·exact d y
 ·rcases (hf e z).2.2.2.1 with y | y
  ·exact f y
  ·exact absurd (aw b) (Nat.not_lt.mpr y)
structure TurnH (P:Program) (w:bx) (K:ag) (tg:Expr) (J:It) (fp:List Addr) (it:Addr) (tn:Nat->Heap->Prop):Prop where
 mem:it∈fp
 obj:∀i h,tn i h->∀b∈fp,∃o,h.get? b=some o/\∀v,o.data≠.cell v
 keep:∀i h h',tn i h->(∀b∈fp,∀o,h.get? b=some o->h'.get? b=some o)->tn i h'
 item:∀(X:Cx),X.prog=P->X.w=w->X.K=K->Hu X->∀(i:Nat) (pins:List (Addr×Obj)) (s:Shared) (σ:St) (H:Hp) (E:aj->Shared->Prop),Inv X pins σ H s->(∀b∈fp,yF X pins H b)->tn i s.heap->J.go i H ->
  ax (aE P w) X.A (eP (.ref it)) (λr s1=>∃u,r=some u /\
   ax (aE P w) X.A (cT tg (.ref it) u) (λ_ s2=>∃x H',Inv X pins σ H' s2/\jF x u/\J.yld i H x H'/\tn (i+1) s2.heap/\∀b∈fp,H' b=none) E s1) E s
 done:∀(X:Cx),X.prog=P->X.w=w->X.K=K->Hu X->∀(i:Nat) (pins:List (Addr×Obj)) (s:Shared) (σ:St) (H:Hp) (E:aj->Shared->Prop),Inv X pins σ H s->(∀b∈fp,yF X pins H b)->tn i s.heap->J.stop i H ->
  ax (aE P w) X.A (eP (.ref it)) (λr s1=>r=none/\Inv X pins σ H s1) E s
 self:∀(A:bz) (i:Nat) (s:Shared) (Q:aj->Shared->Prop) (E:aj->Shared->Prop),tn i s.heap->Q (.ref it) s->ax (aE P w) A (lR (.ref it)) Q E s
noncomputable def PIEH (X:Cx) (pins:List (Addr×Obj)) (σ:St) (tg:Expr) (R:It->Hp->Prop) (itv:aj) (s2:Shared):Prop :=
 ∃(it:Addr) (fp:List Addr) (tn:Nat->Heap->Prop) (J:It) (H':Hp),itv = .ref it/\Inv X pins σ H' s2/\TurnH X.prog X.w X.K tg J fp it tn/\tn 0 s2.heap/\(∀b∈fp,yF X pins H' b)/\R J H'
noncomputable def PIH (X:Cx) (tg iter:Expr) (wi:TI):Prop :=
 ∀(pins:List (Addr×Obj)) (s:Shared) (σ:St) (H:Hp) (R:It->Hp->Prop),Inv X pins σ H s->wi σ H R ->
  ax (aE X.prog X.w) X.A (eval iter X.env) (λv s1=>ax (aE X.prog X.w) X.A (lR v) (PIEH X pins σ tg R) X.xe s1) X.xe s
theorem Z5 {K:ag}(a it:Addr):TurnH P w K tg (Itl K a) [it] it (λi h=>h.IsListIter it a i) where
 mem:=by simp
 obj:=λi h st b hb=>by
  have e:b=it:=by simpa using hb
  subst e
  obtain ⟨o,e,c,d⟩:=st
  exact ⟨o,e,λv z=>by rw [d] at z;cases z⟩
 keep:=λi h h' st k=>st.at λo e=>k it (by simp) o e
 item:=by
  intro X hP hw hK hc i pins s σ H E I hf st hg
  subst hP hw hK
  obtain ⟨xs,x,hq,hx⟩:=hg
  obtain ⟨its,rv,p,hz⟩:=I.list hq
  obtain ⟨u,hu,ru⟩:=rv.get hx
  obtain ⟨f0,f1,f2,f3,f4,f5⟩:=hf it (by simp)
  refine fR st p.isList (x:=u) (by simpa using hu) λh' st' sb=>?_
  have I1:Inv X pins σ H { s with heap:=h' }:=I.turned (t':=s.toks) (λb o hb e=>(sb.2 b hb).trans e) f0 f1 f3 f4 f5
  obtain ⟨o,e,c,d⟩:=id st'
  exact ⟨u,rfl,Jr (s:={ s with heap:=h' }) e c d ⋯ ⟨x,H,I1,ru,⟨rfl,λys hy=>by rw [I.list_inj hy hq];exact hx⟩,st',λb hb=>(hf b hb).1⟩⟩
 done:=by
  intro X hP hw hK hc i pins s σ H E I hf st hg
  subst hP hw hK
  obtain ⟨xs,hq,hx⟩:=hg
  obtain ⟨its,rv,p,hz⟩:=I.list hq
  obtain ⟨f0,f1,f2,f3,f4,f5⟩:=hf it (by simp)
  have hl:=rv.length
  exact Ze (hc.now I) st p.isList (by simp;omega) λh' eb=>⟨rfl,I.turned (t':=s.toks) (λb o hb e=>eb b o hb e) f0 f1 f3 f4 f5⟩
 self:=λ_ _ _ _ _ st h=>mS st h
section
variable {X:Cx}{tg:Expr}{pos:Pos}
theorem U2 (hl:PE X l tl):PIH X tg l (Yg X.K tl):=by
 intro pins s σ H R I h
 refine thn (hl pins s σ H _ I h) λv s1 ⟨x,H1,I1,r1,q1⟩=>?_
 obtain ⟨a,e,⟨xs,hq⟩,q⟩:=q1
 subst e
 cases r1
 obtain ⟨its,rv,p,hz⟩:=I1.list hq
 refine dE p.isList ?_
 refine ⟨s1.heap.objs.size,[s1.heap.objs.size],_,_,H1,rfl,I1.kept (t':=s1.toks) λb o e=>ai _ e,Z5 a _,⟨_,ay _ rfl,rfl,rfl⟩,λb hb=>?_,q⟩
 have e:b=s1.heap.objs.size:=by simpa using hb
 subst e
 exact I1.fpOk (ar _) (I1.hok.fresh (ar _))
theorem Wx {k:Nat}{t:TGs}{n:Nat}(K:ag) (hu:Hu X) (h:PGs X es t)
  (hn:(d8 es X.env).length=n:=by rfl) (hst:(d8 es X.env).findIdx? (·.1)=none:=by rfl) (hK:X.K=K:=by rfl):PG X (.Tuple es k pos) (EO K n t):=by
 subst hK
 intro pins s σ H v u Q I r hw
 obtain ⟨a,xs,e1,hq,hl,hw⟩:=hw
 subst e1
 cases r
 obtain ⟨its,rv,ht,hz⟩:=I.tuple hq
 refine Vr (hu.now I) ht (by simp [hn,<- hl,rv.length]) hst λh' hx=>?_
 have I1:Inv X pins σ H { s with heap:=h' }:=I.kept (t':=s.toks) λb o e=>hx b o (aC (aw e)) e
 exact h pins _ σ H xs _ Q I1 (by simpa using rv) hw
theorem Vf {scope:Scope}{own:Nat}{cl:List (Str×Addr)}{tg elt iter:Expr}{ti:TT}{te:TE}{H:Hp}{s:Shared}{fp:List Addr}
    {Q:VK} {RR:aj->Addr->oK->Shared->Prop} 
  (hu:Hu X) (S:CompSc osc ON scope own N caps) (hsc:X.env.scope=osc) (hN:X.N=ON) (hcl:∀x,cl.lookup x=if (x,bc)∈scope.names then X.env.cells.lookup x else none)
  (hg:∀cl C s H ex,Hu (X.block scope cl C N s H ex)->PG (X.block scope cl C N s H ex) tg g) (hif:∀cl C s H ex,Hu (X.block scope cl C N s H ex)->kB (X.block scope cl C N s H ex) ifs ti) (he:∀cl C s H ex,Hu (X.block scope cl C N s H ex)->PE (X.block scope cl C N s H ex) elt te)
  (I:Inv X pins σ H s) (T:TurnH X.prog X.w X.K tg J fp it tn) (st:tn 0 s.heap) (hf:∀b∈fp,yF X pins H b)
  (hw:∀acc,H acc=none->∃W:Nat->Nat->St->Hp->Prop,(∃m,W 0 m (yU own caps σ) (upd H acc (.lst [])))/\∀i m σ' H',W i m σ' H' ->
   (J.stop i H'/\Q (.ref acc) H')\/(J.go i H'/\∃NX:St->Hp->Prop,(∀σ2 H2,NX σ2 H2->∃m',m'<m/\W (i+1) m' σ2 H2) /\
    ∀x H2,J.yld i H' x H2->g x σ' H2 λσ3 H3=>ti σ3 H3 λok H4=>if ok=true then te σ3 H4 λv H5=>∃ys,H5 acc=some (.lst ys)/\ys.length<sizeLine/\NX σ3 (upd H5 acc (.lst (ys++[v]))) else NX σ3 H4))
  (fin:∀(D C:Addr) (H':Hp) (s':Shared),Inv X pins σ H' s'->BlockAt X pins H' C->(∃m,s'.heap.Ns C m)->Q (.ref D) H'->RR (.ref D) C (.ok .next) s') :
  ax (aE X.prog X.w) X.A (pM []) (λacc s₃=>ax (aE X.prog X.w) X.A (nB scope X.env.globals cl [] X.env.qual none .none (some X.env)) (λcenv s₄ =>
   cU (aE X.prog X.w) X.A (.compStart (.ListComp elt [⟨tg,iter,ifs,0⟩] scope pos) 0 (.ref it) acc { cenv with scope:=tY scope X.env }) (RR acc cenv.locals) s₄) E s₃) E s:=by
 have hfs:∀b∈fp,b<s.heap.objs.size:=λb hb=>by
  obtain ⟨o,e,_⟩:=T.obj _ _ st b hb
  exact aw e
 refine bC (iF S.nocell (by intro y hy;simp at hy) (λh₁ hns₁ hsb₁=>?_) S.kind)
 dsimp only at hns₁ hsb₁ ⊢
 generalize hH2:s.heap.push { cls:=.type "list",dict:=none,data:=.seq ([]:List aj).toArray }=H2 at hns₁ hsb₁ ⊢
 have hCsz:H2.objs.size=s.heap.objs.size+1:=by rw [<- hH2,cB]
 have old:∀b o,s.heap.get? b=some o->h₁.get? b=some o:=λb o e=>hsb₁.extBut b o (aC (by rw [hCsz];exact cg (aw e))) (ai _ (hH2 ▸ ai _ e))
 have eD:h₁.get? s.heap.objs.size=some { cls:=.type "list",data:=.seq #[] }:=hsb₁.extBut _ _ (aC ∅) (ai _ (hH2 ▸ ay _ rfl))
 have hDn:H s.heap.objs.size=none:=I.hok.fresh (ar _)
 obtain ⟨W,⟨m0,w0⟩,turn⟩:=hw s.heap.objs.size hDn
 have hns:h₁.Ns H2.objs.size λ_=>none:=hns₁
 have I1:Inv (X.block scope cl H2.objs.size N s H fp) [] (yU own caps σ) (upd H s.heap.objs.size (.lst [])) { s with heap:=h₁,toks:=s.toks+([]:List (Str×aj)).length } :=
  yX S hsc hN hcl I hf hfs rfl hCsz old eD hns _
 have hub:Hu (X.block scope cl H2.objs.size N s H fp):=hu.block I hf
 have st1:tn 0 h₁:=T.keep 0 _ _ st λb _ o e=>old b o e
 have fpB:∀{H':Hp},(∀b∈fp,H' b=none)->∀b∈fp,yF (X.block scope cl H2.objs.size N s H fp) [] H' b:=λ{H'} hn b hb=>by
  have ok:=I1.ok
  exact ⟨hn b hb,(ok.exf b hb).1,ok.exfs b hb,.inl hb,(ok.exf b hb).2,λp hp=>absurd (show p∈([]:List (Addr×Obj)) from hp) (by simp)⟩
 have back:∀{σ':St} {H':Hp} {s':Shared},Inv (X.block scope cl H2.objs.size N s H fp) [] σ' H' s'->Q (.ref s.heap.objs.size) H'->RR (.ref s.heap.objs.size) H2.objs.size (.ok .next) s':=λ{σ' H' s'} J1 q=>by
  have J2:Inv X pins σ H' s':=I.call' (ch:=fp) J1.os J1.base J1.hok J1.bare λb hb=>⟨(hf b hb).2.2.2.1,(hf b hb).2.1,(hf b hb).2.2.2.2.1,(hf b hb).2.2.2.2.2⟩
  obtain ⟨m,hm,_⟩:=J1.loc
  refine fin _ _ H' s' J2 ⟨J1.free,cN (aO I.lt ∅),aH I.sz ∅,λx c e z=>?_,λp hp z=>?_⟩ ⟨m,hm⟩ q
  ·obtain ⟨v,y⟩:=I.cell x c e
   have h1:H2.objs.size<s.heap.objs.size:=z ▸ y.lt
   exact absurd h1 ∅
  ·have h1:H2.objs.size<s.heap.objs.size:=z ▸ aw (I.pin p hp).1
   exact absurd h1 ∅
 have loop:∀s₃:Shared,s₃={ s with heap:=h₁,toks:=s.toks+([]:List (Str×aj)).length } ->
   cU (aE X.prog X.w) X.A (.compLoop (.ListComp elt [⟨tg,iter,ifs,0⟩] scope pos) 0 (.ref it) (.ref s.heap.objs.size) (pJ scope cl H2.objs.size X.env)) (RR (.ref s.heap.objs.size) H2.objs.size) s₃:=by
  rintro s₃ rfl
  refine wK (λn s'=>∃i σ' H',Inv (X.block scope cl H2.objs.size N s H fp) [] σ' H' s'/\tn i s'.heap/\(∀b∈fp,H' b=none)/\W i n σ' H') ?_ m0
   ⟨0,_,_,I1,st1,λb hb=>by rw [j7 (aC (hfs b hb))];exact (hf b hb).1,w0⟩
  rintro n s3 ⟨i,σ3,H3,I3,st3,fr3,w3⟩
  rcases turn i n σ3 H3 w3 with ⟨stop,qn⟩ | ⟨go,NX,hNX,step⟩
  ·refine thn (T.done (X.block scope cl H2.objs.size N s H fp) rfl rfl rfl hub i [] s3 σ3 H3 _ I3 (fpB fr3) st3 stop) λr s4 ⟨hr,I4⟩=>?_
   subst hr
   exact back I4 qn
  ·refine thn (T.item (X.block scope cl H2.objs.size N s H fp) rfl rfl rfl hub i [] s3 σ3 H3 _ I3 (fpB fr3) st3 go) λr s4 ⟨u,hr,h4⟩=>?_
   subst hr
   refine thn h4 λ_ s5 ⟨x,H5,I5,r5,y5,st5,fr5⟩=>?_
   have I5':=I5.pinned (fpB fr5) (T.obj _ _ st5)
   refine thn (hg cl H2.objs.size s H fp hub _ s5 σ3 H5 x u _ I5' r5 (step x H5 y5)) λ_ s6 ⟨σ6,H6,I6,q6⟩=>?_
   refine thn (hif cl H2.objs.size s H fp hub _ s6 σ6 H6 _ I6 q6) λok s7 ⟨H7,I7,q7⟩=>?_
   have again:∀{s8:Shared} {σ8:St} {H8:Hp},Inv (X.block scope cl H2.objs.size N s H fp) ([]++zn fp s5.heap) σ8 H8 s8->NX σ8 H8->∃m,m<n/\∃i σ' H',Inv (X.block scope cl H2.objs.size N s H fp) [] σ' H' s8/\tn i s8.heap/\(∀b∈fp,H' b=none)/\W i m σ' H':=λ{s8 σ8 H8} I8 n8=>by
    obtain ⟨m',hm,w8⟩:=hNX σ8 H8 n8
    refine ⟨m',hm,i+1,σ8,H8,I8.unpinned,T.keep _ _ _ st5 λb hb o e=>(I8.pin (b,o) (aD _ (aD _ (qE hb e)))).1,λb hb=>?_,w8⟩
    obtain ⟨o,e,d⟩:=T.obj _ _ st5 b hb
    exact (I8.pin (b,o) (aD _ (aD _ (qE hb e)))).2.1
   cases ok with
   | false =>
    rw [if_neg au] at q7 ⊢
    exact again I7 q7
   | true =>
    rw [if_pos rfl] at q7 ⊢
    refine thn (he cl H2.objs.size s H fp hub _ s7 σ6 H7 _ I7 q7) λv s8 ⟨y,H8,I8,r8,ys,e8,z8,q8⟩=>?_
    refine thn (jX _ s8 σ6 H8 (.ref s.heap.objs.size) [y] _ [v] (λ_ H9=>NX σ6 H9) I8 rfl (.cons r8 .nil) ⟨_,ys,y,rfl,rfl,e8,z8,q8⟩) λ_ s9 ⟨_,H9,I9,_,q9⟩=>?_
    exact again I9 q9
 exact fZ (loop _ rfl) (T.self _ 0 _ _ _ st1 (loop _ rfl))
theorem VI {own:Nat}{tg:Expr}(S:CompSc osc ON scope own N caps)
  (hu:Hu X) (hsc:X.env.scope=osc) (hN:X.N=ON) (hi:PIH X tg iter wi)
  (hg:∀cl C s H ex,Hu (X.block scope cl C N s H ex)->PG (X.block scope cl C N s H ex) tg g) (hif:∀cl C s H ex,Hu (X.block scope cl C N s H ex)->kB (X.block scope cl C N s H ex) ifs ti) (he:∀cl C s H ex,Hu (X.block scope cl C N s H ex)->PE (X.block scope cl C N s H ex) elt te)
  (hs:∀x,cz iter X.env x=pure x:=by intro _;rfl):PE X (.ListComp elt [⟨tg,iter,ifs,0⟩] scope pos) (Um own caps wi g ti te):=by
 intro pins s σ H Q I h
 obtain ⟨cl,hclos,hcl⟩:=yP (Qu S hsc I)
 rw [oC]
 refine dH (use:=none) rfl hs hclos S.kind S.loc (thn (hi pins s σ H _ I h) λv s1 h1=>thn h1 λitv s2 h2=>?_)
 obtain ⟨it,fp,tn,J,H2,e,I2,T,st2,f2,hw⟩:=h2
 subst e
 refine Vf (RR:=λacc C=>sX (aE X.prog X.w) X.A X.xe none (EP X pins σ Q) acc C) hu S hsc hN hcl hg hif he I2 T st2 f2 hw λD C H' s' J1 B ⟨m,hm⟩ q=>?_
 exact ⟨m,hm,λh' hs'=>⟨.ref D,H',B.gone J1 hs',rfl,q⟩⟩
end
end L2
end
section
namespace L2
open PySem PySem.Spec PySem.W PyProof.Rows PySem.Calls
section
variable {prog:Program}{w:bx}{A:bz}{E:aj->Shared->Prop}{s:Shared}{K:ag}{x D:Addr}{ox:Obj}{odo:Option Obj}
theorem WP {Q:Option aj->Shared->Prop}(X:K.In s.heap) (I:sR s.heap x ox D odo) (hga:findIn K (.ref D) "__getattribute__" = some (some (.builtin "BaseException.__getattribute__"))) (hgt:findIn K (.ref D) "__getattr__" = some none)
  (hf:findObj K D odo "__class__" = some (.bind (.builtin "getset_descriptor.__get__") (.builtin "object.__class__"))) (hm:mroIn K D (.type "object")=some true) (hb:subIn K (.ref D) (.type "BaseException")=some true)
  (k:Q (some (.ref D)) { s with toks:=s.toks+1 }):ax (aE prog w) A (tD (.ref x) "__class__") Q E s:=by
 obtain ⟨hh,g,d,t,os⟩:=s
 have L0:=I.type (M:=aE prog w)
 have L1:=looks_findIn (M:=aE prog w) X hga
 have L2:=looks_findIn (M:=aE prog w) X hgt
 have L3:=looks_find (M:=aE prog w) X I hf
 have L4:=looks_subIn (M:=aE prog w) X hb
 have LI:Looks (aE prog w) hh (isInstance (.ref x) (.type "BaseException")) true:=L0.andThen L4
 unfold tD getAttrBy? getAttrBy
 refine aa (wpAny_mkText (aa (eM (bw (aa (L0.at (aa (L1.at ?_))))))))
 have n1:(onTheHeap (aV D) && iC "BaseException.__getattribute__" == iC "object.__getattribute__")=false:=by
  rw [show (iC "BaseException.__getattribute__" == iC "object.__getattribute__")=false by decide +kernel,sV]
 dsimp only
 rw [if_neg (by rw [n1];exact au)]
 unfold getAttrByItsOwn
 refine aa ?_
 show ax _ _ (oO (.ref D) "__getattr__") _ _ _
 refine L2.at ?_
 refine aa (eM (bw ?_))
 show ax _ _ (tE _ _ _) _ _ _
 unfold tE
 refine aa ?_
 rw [F.excAttr_ValueError.ga.bind (.ref x)]
 refine wpAny_pure ?_
 refine fF (codeAny_call_builtin F.excAttr_ValueError.ga.plain F.entry_bexc_ga ?_)
 have hk:builtinKind "BaseException.__getattribute__" = some .slot:=by decide +kernel
 have hsp:splitId "BaseException.__getattribute__" = some ("BaseException","__getattribute__"):=by decide +kernel
 have ha:=F.args_bexc_ga (.ref x) (.str "__class__" t)
 show ax (aE prog w) A.in1 (rJ "BaseException.__getattribute__" ⟨[.ref x,.str "__class__" t],[]⟩) _ _ _
 simp only [rJ,hk,hsp]
 refine aa (LI.at ?_)
 rw [if_neg ⋯]
 refine nN ha ?_
 unfold eR.«object.__getattribute__»
 refine aa (wpAny_pure ?_)
 refine aa (wpAny_pure ?_)
 refine aa (L0.at ?_)
 refine aa (L3.at ?_)
 show ax _ _ (ef [.builtin "object.__class__"] (call (.builtin "getset_descriptor.__get__") [.builtin "object.__class__",.ref x,.ref D]) >>= ret) _ _ _
 refine aa (bw (fF (class_get (s:=⟨hh,g,d,t+1,os⟩) (ox:=ox) (od:=odo) X I hm ?_)))
 refine wpAny_pure ?_
 exact handed_on rfl (wpAny_pure k)
structure ExK (K:ag) (D:Addr):Prop where
 cl:(clsIn K D).isSome=true
 ga:findIn K (.ref D) "__getattribute__" = some (some (.builtin "BaseException.__getattribute__"))
 gt:findIn K (.ref D) "__getattr__" = some none
 ha:findIn K (.ref D) "__class__" = some (some (.builtin "object.__class__"))
 hn:specialIn K (.builtin "object.__class__") "__get__" = some (some (.builtin "getset_descriptor.__get__"))
 tk:takesIn K (.builtin "object.__class__")=some true
 mo:mroIn K D (.type "object")=some true
 be:subIn K (.ref D) (.type "BaseException")=some true
theorem ExK.kit (e:ExK K D):KitX K (.ref x) (.ref D) (λh=>∃o,h.get? x=some o/\o.cls = .ref D/\o.dict=none/\notCls o=true) where
 ty:=λM h _ ⟨o,g,c,_⟩=>c ▸ (AU g).andThen .now
 it:=λM h X _=>by
  have cl:=e.cl
  unfold clsIn at cl
  split at cl
  ·rename_i c' d' cd' sl' ho
   intro A' Q' E' s' k q
   unfold isType loadHead
   exact aa (sS (k _ _ (X _ _ ho)) (wpAny_pure q))
  ·cases cl
 ne:=λh tp dd its n sl X htp=>by
  have cl:=e.cl
  refine Bool.eq_false_iff.mpr λq=>?_
  obtain rfl:D=tp:=Value.ref.inj (beq_iff_eq.mp q)
  unfold clsIn at cl
  split at cl
  ·rename_i c' d' cd' sl' ho
   cases (X _ _ ho).symm.trans htp
  ·cases cl
 ca:=λX ⟨o,g,c,dn,no⟩ k=>by
  refine WP (ox:=o) (odo:=none) X ⟨g,c,no,by rw [dn];trivial⟩ e.ga e.gt ?_ e.mo e.be k
  obtain ⟨cd,hc⟩:=Option.isSome_iff_exists.mp e.cl
  unfold findObj
  rw [hc,mj,e.ha,mj]
  simp [e.hn,e.tk]
end
end L2
end
section
namespace L2
open PySem PySem.Spec PySem.W PyProof.Rows PySem.Calls
noncomputable def Qg (oe:Obj) (cls:aj):Prop:=oe.cls=cls/\oe.dict=none/\∃ws,oe.data = .fields ws/\ws[2]? = some .none
theorem Qg.noCell (h:Qg oe cls):∀v,oe.data≠.cell v:=λv z=>by
 obtain ⟨_,_,ws,d,_⟩:=h
 rw [d] at z
 cases z
theorem Qg.noCls (h:Qg oe cls):notCls oe=true:=by
 obtain ⟨_,_,ws,d,_⟩:=h
 unfold notCls
 rw [d]
noncomputable abbrev Cx.handE (X:Cx) (a:Addr) (oe:Obj) (pn:List (Addr×Obj)):Cx:={ X with A:=X.A.mark (some (.ref a)),calm:=false,pn:=pn++[(a,oe)],xe:=λ_ _=>False }
section
variable {X:Cx}{pins:List (Addr×Obj)}{σ:St}{H:Hp}{s:Shared}{a:Addr}{oe:Obj}{cls:aj}
theorem Inv.toHandE (I:Inv X pins σ H s) (ga:s.heap.get? a=some oe) (ha:H a=none) (hl:a≠X.env.locals) (hf:a∉X.fs) (hc:∀v,oe.data≠.cell v):Inv (X.handE a oe (X.pn++pins)) [] σ H s :=
 ⟨⟨I.ok.mod,I.ok.kind,I.ok.glob,I.ok.blt,I.ok.above,I.ok.inj,I.ok.has,I.ok.cab,(λz=>(by cases z)),I.ok.frames,I.ok.stk,I.ok.exf,I.ok.bs,I.ok.bsz,I.ok.noex,I.ok.exfs,I.ok.funs,I.ok.frf⟩,I.os,I.bare,I.base,I.loc,I.cell,I.free,I.freeC,λp hp=>by
  rw [aN] at hp
  rcases List.mem_append.mp hp with z | z
  ·exact I.pin p z
  ·obtain rfl:p=(a,oe):=by simpa using z
   exact ⟨ga,ha,hl,hf,hc⟩,I.hok,I.len⟩
theorem Inv.ofHandE (hd:X.calm=true->X.A.handled=none) (I:Inv (X.handE a oe (X.pn++pins)) [] σ H s):Inv X pins σ H s :=
 ⟨⟨I.ok.mod,I.ok.kind,I.ok.glob,I.ok.blt,I.ok.above,I.ok.inj,I.ok.has,I.ok.cab,hd,I.ok.frames,I.ok.stk,I.ok.exf,I.ok.bs,I.ok.bsz,I.ok.noex,I.ok.exfs,I.ok.funs,I.ok.frf⟩,I.os,I.bare,I.base,I.loc,I.cell,I.free,I.freeC,
  λp hp=>I.pin p (bL _ (bL _ hp)),I.hok,I.len⟩
theorem kg {i:Nat}{pos:Pos}{Q:Unit->Shared->Prop}(I:Inv X pins σ H s) (hN:X.N.Nodup) (hi:X.N[i]? = some n) (hk:X.env.scope.names.lookup n=some .local)
  (h:∀s',Inv X pins (σ.set i none) H s'->Q () s'):ax M A (do bindName X.env n .none;unbindBehindTheSuite X.env n pos) Q E s:=by
 obtain ⟨m,hn,hl⟩:=id I.loc
 have nc:(X.env.scope.kind == .class || (X.env.scope.kind == .module && X.env.locals != X.env.globals))=false:=by rw [I.ok.kind];rfl
 have hiσ:i<σ.length:=by rw [I.len];exact (List.getElem?_eq_some_iff.mp hi).1
 refine wpAny_nameGoes_keeps hk hn nc λg v hn' hs=>?_
 obtain ⟨oL,_,_,hoL,_⟩:=id hn
 have lo:∀{b o},X.s₀.heap.get? b=some o->g.get? b=s.heap.get? b:=λ{b o} e=>hs.2 b (aC (aO (aw e) I.ok.above))
 refine h _ ⟨I.ok,I.os,I.bare,⟨λb o e n hb hx=>(lo e).trans (I.base.keep b o e n hb hx),λb o e n hb hx=>?_,I.base.free,λb o e hx=>?_,I.base.tups,I.base.frzs,I.base.tbls⟩,⟨_,hn',λj y v' e1 e2 e3=>?_⟩,λy c e=>?_,I.free,I.freeC,λp hp=>?_,λb ob e=>?_,by simpa using I.len⟩
 ·obtain ⟨sl,e1⟩:=I.base.slot b o e n hb hx
  exact ⟨sl,(lo e).trans e1⟩
 ·obtain ⟨o',e1⟩:=I.base.there b o e hx
  exact ⟨o',(lo e).trans e1⟩
 ·by_cases hj:j=i
  ·subst hj
   rw [fQ hiσ] at e2
   cases e2
  ·rw [iD (cF hj)] at e2
   obtain ⟨u',r',q⟩:=hl j y v' e1 e2 e3
   refine ⟨u',r',?_⟩
   rcases q with ⟨k,e⟩ | ⟨k,c,e,z⟩
   ·have ny:y≠n:=λz=>hj (gj hN e1 (z ▸ hi))
    exact .inl ⟨k,by show (if y=n then v else m y)=_;rw [if_neg ny];exact e⟩
   ·exact .inr ⟨k,c,e,z.sameBut hs (I.cne y c e)⟩
 ·obtain ⟨w',z⟩:=I.cell y c e
  exact ⟨w',z.sameBut hs (I.cne y c e)⟩
 ·obtain ⟨e,n,ne,nf,d⟩:=I.pin p hp
  exact ⟨(hs.2 p.1 ne).trans e,n,ne,nf,d⟩
 ·refine (I.hok b ob e).stay (λc w' hc q=>(hs.2 c ?_).trans q) (λ_ q=>q) λ_ _ q=>q
  rintro rfl
  rcases hc with z | z
  ·rw [<- z,I.free] at e;cases e
  ·rw [I.free] at z;cases z
end
noncomputable def Ends.un (D:Ends) (i:Nat):Ends:={ nx:=λσ H=>D.nx (σ.set i none) H,rt:=D.rt,bk:=λσ H=>D.bk (σ.set i none) H,ct:=λσ H=>D.ct (σ.set i none) H }
noncomputable def GP (K:ag) (C:Addr) (i:Nat) (tb:(aj->St->Hp->Prop)->TS) (th:Addr->Obj->TS):TS:=λD σ H =>
 tb (λcls σ' H'=>exmOne K cls (.ref C)=some true/\∀a oe,Qg oe cls->H' a=none->th a oe (D.un i) (σ'.set i (some (.ref a))) H') D σ H
theorem VT {X:Cx}{suite:List Stmt}{b₀:Stmt}{pos:Pos}{i:Nat}{tb:(aj->St->Hp->Prop)->TS}{th:Addr->Obj->TS}(K:ag) (st:X.stack=X.env::X.outer) (hf:X.env.frame=some X.env.locals) (hm:X.mg x=some (.ref C)) (hg:Gl X x)
  (hN:X.N.Nodup) (hi:X.N[i]? = some n) (hk:X.env.scope.names.lookup n=some .local)
  (hb:∀(pn:List (Addr×Obj)) (J:aj->St->Hp->Prop),PSs (X.tryX pn J) body (tb J)) (hs:∀(a:Addr) (oe:Obj) (pn:List (Addr×Obj)),PSs (X.handE a oe pn) (b₀::suite) (th a oe)) (hdb:(x == ("__debug__" : Str))=false:=by decide) (hK:X.K=K:=by rfl) :
  PS X (.Try body [.ExceptHandler (some (.Name x np)) (some n) (b₀::suite) hpos] [] [] pos) (GP K C i tb th):=by
 subst hK
 intro pins s σ H D I h
 refine wpAny_Try_except (aZ (hb (X.pn++pins) _ [] s σ H D I.toTry h) (λf s1 q=>?_) λe s1 q=>?_)
 ·have q':SP X pins D f s1:=Ad (λI=>Inv.ofTryP I) q
  cases f with
  | next=>exact fC q'
  | brk=>exact q'
  | cont=>exact q'
  | ret u=>exact q'
 ·obtain ⟨a,cls,σ',H',rfl,fl,hx,ht⟩:=q
  have f:za X pins σ' H' s1 a cls .none:=by
   obtain ⟨s,H,I,os,b,u,ok,fy⟩:=fl
   exact ⟨s,H,Inv.ofP I,os,b,u,ok,fy⟩
  obtain ⟨B,a0,fw,up⟩:=f.under
  have fr:X.A.frames=some (X.env::X.outer):=by rw [<- st];exact I.ok.frames
  rw [st] at fw
  refine ZZ fr fw.2.2.1 hf fw.2.2.2 fw.1 fw.2.1 λh2 n1 n2 n3 up2=>?_
  refine yD (s:={ s1 with heap:=h2 }) n1 n2 n3 λh3 m1 m2 m3 m4=>?_
  have up3:s1.heap.UpToSlots h3:=up2.trans λb o e n=>⟨o.slots,m4 b o e n⟩
  have f3:za X pins σ' H' { s1 with heap:=h3 } a cls .none:=up h3 .none m1 up3 m3
  have I3:=f3.inv.toHand a
  refine wpAny_handleBy_cons (codeAny_handlers_test ?_) (by intro z;cases z)
  refine yx (X:=X.hand a) I3 hg hm ?_ hdb
  obtain ⟨oe,_,_,_,_,he,hc,_⟩:=id m3
  have lt:Looks (aE X.prog X.w) h3 (oQ (.ref a)) cls:=hc.1 ▸ (AU he).andThen .now
  refine exm_one (M:=aE X.prog X.w) I3.kIn lt hx _ _ _ _ (λ_ _ e=>e) ?_
  refine codeAny_handlers_suite_as ?_
  refine yD (s:={ s1 with heap:=h3 }) m1 m2 m3 λh4 k1 k2 k3 k4=>?_
  have f4:za X pins σ' H' { s1 with heap:=h4 } a cls .none:=up h4 .none k1 (up3.trans λb o e n=>⟨o.slots,k4 b o e n⟩) k3
  have I4:=f4.inv
  obtain ⟨oe4,vs,T,oT,ts,g1,g2,g3,_⟩:=id k3
  have eo:Qg oe4 cls:=⟨g2.1,g2.2.2,vs,g3,g2.2.1.2⟩
  have ha:H' a=none:=by
   obtain ⟨_,_,_,_,_,_,_,fy⟩:=f4
   exact fy.ha
  have hl:a≠X.env.locals:=λz=>by
   obtain ⟨m,⟨o,es,ep,ho,hd,_⟩,_⟩:=I4.loc
   rw [<- z,g1] at ho
   cases ho
   rw [g3] at hd
   cases hd
  have hfs:a∉X.fs:=λz=>by
   have z':a∈frs X.stack:=by
    rw [st]
    unfold frs
    rw [fj,hf]
    exact aF _ z
   obtain ⟨_,o,ho,hn⟩:=I4.stack.mem z'
   rw [g1] at ho
   cases ho
   exact hn _ g3
  have I5:Inv (X.handE a oe4 (X.pn++pins)) [] σ' H' { s1 with heap:=h4 }:=I4.toHandE g1 ha hl hfs eo.noCell
  refine uy (X:=X.handE a oe4 (X.pn++pins)) (v:=V.ref a) I5 hN hi (.inl hk) rfl (λs6 I6=>?_) (.inr hk)
  refine aZ (hs a oe4 (X.pn++pins) [] s6 _ H' (D.un i) I6 (ht a oe4 eo ha)) (λg s7 q=>?_) λ_ _ z=>bt z
  cases g with
  | next=>obtain ⟨σ7,H7,I7,q7⟩:=q;exact kg (Inv.ofHandE I.ok.hd I7) hN hi hk λs8 I8=>⟨_,H7,I8,q7⟩
  | brk=>obtain ⟨σ7,H7,I7,q7⟩:=q;exact kg (Inv.ofHandE I.ok.hd I7) hN hi hk λs8 I8=>⟨_,H7,I8,q7⟩
  | cont=>obtain ⟨σ7,H7,I7,q7⟩:=q;exact kg (Inv.ofHandE I.ok.hd I7) hN hi hk λs8 I8=>⟨_,H7,I8,q7⟩
  | ret u=>obtain ⟨v,σ7,H7,I7,r7,q7⟩:=q;exact kg (Inv.ofHandE I.ok.hd I7) hN hi hk λs8 I8=>⟨v,_,H7,I8,r7,q7⟩
noncomputable def cxH (P:Program) (w:bx) (K:ag) (mg:Str->Option aj) (base:Heap) (N:List Str) (qual:Str) (scope:Scope) (f:Addr) (cd:aj) (A:bz) (outer:List Env) (s:Shared) (H:Hp):Cx :=
 { vJ (λ_ _ _ _ _ _=>False) P w K mg base N qual scope f cd A outer s H (λ_ _ _=>False) with calm:=false }
structure AtE (A:bz) (outer:List Env) (s:Shared) (H:Hp) (a:Addr) (oe:Obj) (cls:aj):Prop where
 hd:A.handled=some (.ref a)
 at_:s.heap.get? a=some oe
 ex:Qg oe cls
 free:H a=none
 out:a∉frs outer
noncomputable def FnH (P:Program) (w:bx) (K:ag) (mg:Str->Option aj) (base:Heap) (k:Nat) (f:Addr) (fd:FuncData) (ps:List Str) (sp:Addr->aj->List V->Hp->VK->Prop):Prop :=
 ∀(A:bz) (outer:List Env) (s:Shared) (H:Hp) (args:Args) (us:List aj) (vs:List V) (Q:VK) (a:Addr) (oe:Obj) (cls:aj),A.depth+3*k+5<recursionLimit->A.units+16*k+200<cLine->AtE A outer s H a oe cls ->
  Env0 P w K mg base A outer s H->pG s fd args (ps.zip us)->jE vs us->vs.length=ps.length->sp a cls vs H Q->cU (aE P w) A (.call (.ref f) args) (CR (λ_ _ _ _ _ _=>False) outer P w H s Q (λ_ _ _=>False)) s
theorem Zl {P:Program}{w:bx}{K:ag}{mg:Str->Option aj}{base:Heap}{N ps:List Str}{qual:Str}{scope:Scope}{f:Addr}{cd:aj}{A:bz}{outer:List Env}{s s1:Shared}{H:Hp}{us:List aj}{vs:List V}(S:FnScope N ps scope) (e0:Env0 P w K mg base A outer s H) (hl:vs.length=ps.length) (r:jE vs us)
  (x:InCallC s s.heap.objs.size (rW (iK qual scope s.heap.objs.size f cd).kindOf (ps.zip us) λ_=>none) (md (s.heap.objs.size+1) scope.names []) (rX (iK qual scope s.heap.objs.size f cd).kindOf (ps.zip us) λ_=>none) s1) :
  Inv (cxH P w K mg base N qual scope f cd A outer s H) [] (start N vs) H s1:=by
 have I:=wt (CX:=λ_ _ _ _ _ _=>False) (A:={ A with handled:=none }) (E:=λ_ _ _=>False) (P:=P) (w:=w) S rfl ⟨e0.frames,e0.mod,e0.bs,e0.bsz,e0.funs,e0.frf,e0.hok,e0.bare⟩ hl r x
 exact ⟨⟨I.ok.mod,I.ok.kind,I.ok.glob,I.ok.blt,I.ok.above,I.ok.inj,I.ok.has,I.ok.cab,(λz=>(by cases z)),nu e0.frames,I.ok.stk,I.ok.exf,I.ok.bs,I.ok.bsz,I.ok.noex,I.ok.exfs,I.ok.funs,I.ok.frf⟩,I.os,I.bare,I.base,I.loc,I.cell,I.free,I.freeC,I.pin,I.hok,I.len⟩
theorem Ew {K:ag}(e:AtE A outer s H a oe cls):Hu (cxH P w K mg base N qual scope f cd A outer s H):=by
 obtain ⟨_,_,ws,d,d2⟩:=e.ex
 exact ⟨a,oe,ws,e.hd,e.at_,e.free,e.out,(λz=>by cases z),d,d2⟩
theorem Fun.okH {w:bx}{K:ag}{mg:Str->Option aj}{base:Heap}{x:Str}{st:Stmt}{N:List Str}{k:Nat}{sp:Addr->aj->List V->Hp->VK->Prop}(F:Fun K x qual st f fd) (S:FnScope N ps (j8 st))
  (hbody:∀(cdv:aj) (A:bz) (outer:List Env) (s:Shared) (H:Hp) (vs:List V) (Q:VK) (a:Addr) (oe:Obj) (cls:aj),AtE A outer s H a oe cls->sp a cls vs H Q ->
   ∃t,PSs (cxH P w K mg base N qual (j8 st) f cdv A outer s H) (jM st) t/\t { nx:=λ_ H'=>Q .non H',rt:=Q } (start N vs) H):FnH P w K mg base (k+1) f fd ps sp:=by
 obtain ⟨oc,od,kV,doc,pm,an,cdv,ct,osl,rfl,lk,hcd⟩:=F.ex
 intro A outer s H args us vs Q a oe cls dp un ae e0 hb r hl hsp
 have KX:K.In s.heap:=e0.mod.kin.keeps λb o e=>(e0.bs b o e).1
 have lim:s.heap.NoLimit:=e0.mod.nolimit.keeps λb o e=>(e0.bs b o e).1
 have kinds:∀y∈ps.zip us,(j8 st).names.lookup y.1=some .local\/((j8 st).names.lookup y.1=some .cell/\((md (s.heap.objs.size+1) (j8 st).names []).lookup y.1).isSome=true):=λ⟨n,v⟩ hy=>by
  rcases S.par n (fD hy).1 with q | q
  ·exact .inl q
  ·exact .inr ⟨q,eA _ _ _ (.inl q)⟩
 refine mT ∅ (KX _ _ lk) rfl S.co S.gen rfl (oM KX hcd) (hb _ _ _ _ ?_)
 refine eV S.kind kinds λenv he s1 x=>?_
 subst he
 refine ⟨lim.keeps x.toInCall.keep,codeAny_func ?_⟩
 obtain ⟨t,ht,hq⟩:=hbody cdv A outer s H vs Q a oe cls ae hsp
 have I:Inv (cxH P w K mg base N qual (j8 st) f cdv A outer s H) [] (start N vs) H s1:=Zl S e0 hl r x
 refine aZ (ht [] s1 (start N vs) H _ I hq) (λfl s' hs=>?_) λe s' hs=>hs
 have fin:∀{σ':St} {H':Hp} {v:V} {u:aj},Inv (cxH P w K mg base N qual (j8 st) f cdv A outer s H) [] σ' H' s'->jF v u->Q v H'->CE outer P w H s Q u s':=λ{σ' H' v u} J rv q =>
  ⟨v,H',J.os,J.bare,J.base,J.hok,rv,q⟩
 cases fl with
 | ret u=>obtain ⟨v,σ',H',J,rv,q⟩:=hs;exact fin J rv q
 | next=>obtain ⟨σ',H',J,q⟩:=hs;exact fin (v:=V.non) (u:=aU) J rfl q
 | brk=>obtain ⟨_,_,_,q⟩:=hs;exact bt q
 | cont=>obtain ⟨_,_,_,q⟩:=hs;exact bt q
structure CalH (P:Program) (w:bx) (K:ag) (mg:Str->Option aj) (base:Heap) (k:Nat) (x:Str) (ps:List Str) (sp:Addr->aj->List V->Hp->VK->Prop):Prop where
 ex:∃f fd,FnH P w K mg base k f fd ps sp/\yr K fd ps []/\mg x=some (.ref f)/\bR K (.ref f)=true
theorem CalH.mk' {w:bx}{K:ag}{mg:Str->Option aj}{base:Heap}{k:Nat}{x:Str}{ps:List Str}{st:Stmt}{f:Addr}{oc:aj}{od an:Option Addr}{osl:Array (Option aj)}{kV doc pm cdv ct:aj}
  (X:K.In h) (G:h.Ns mainGlobals mg) (a:aS K mainGlobals x=some (some (.ref f)))
  (l:K.lookup f=some ⟨oc,od,.func (bG x x (jV st) (jM st) (j8 st) .none kV doc pm an cdv ct),osl⟩) (c:cC K cdv x=true) (k':bR K (.ref f)=true)
  (hb:∀(kV doc pm:aj) (an:Option Addr) (cdv ct:aj) (us:List aj),us.length=ps.length->cH (bG x x (jV st) (jM st) (j8 st) .none kV doc pm an cdv ct) ⟨us,[]⟩=pure (ps.zip us))
  (ok:∀{f:Addr} {fd:FuncData},Fun K x x st f fd->FnH P w K mg base k f fd ps sp):CalH P w K mg base k x ps sp:=by
 have F:=vf (st:=st) l c k'
 exact ⟨f,_,ok F,F.binds hb,bj X G a,k'⟩
noncomputable def EM (a:Addr) (oe:Obj) (n:Nat) (sp:Addr->aj->List V->Hp->VK->Prop) (t:TA):TE:=λσ H Q=>t σ H λvs H1=>vs.length=n/\∃cls,Qg oe cls/\sp a cls vs H1 Q
theorem WO {X:Cx}{k:Nat}{e:Expr}{es:List Expr}{t:TA}{pos:Pos}{oe:Obj}(c:CalH X.prog X.w X.K X.mg X.base k x ps sp) (dp:X.A.depth+3*k+5<recursionLimit) (un:X.A.units+16*k+200<cLine)
  (hd:X.A.handled=some (.ref a)) (hp:(a,oe)∈X.pn) (hg:Gl X x) (ha:PA X (e::es) t)
  (hdb:(x == ("__debug__" : Str))=false:=by decide) (he:aP (e::es) X.env=(false,eval e X.env)::aP es X.env:=by rfl) (hpl:(cM pos (aP es X.env)).any (·.1)=false:=by rfl) :
  PE X (.Call (.Name x p) (e::es) [] pos) (EM a oe ps.length sp t):=by
 obtain ⟨f,fd,F,hb,hm,hk⟩:=c.ex
 intro pins s σ H Q I h
 refine cX (yx I hg hm ?_ hdb)
 refine dm (h₀:=X.base) I.ok.mod.kin hk (thn (ha pos pins s σ H _ I h) λus s1 ⟨vs,H1,I1,r,n,cls,eo,q⟩=>⟨I1.kIn,?_⟩) he hpl
 have hl:us.length=ps.length:=by rw [<- r.length];exact n
 have hb':=hb s1 us I1.kIn (by rw [aN];exact hl)
 rw [aN] at hb'
 obtain ⟨g1,g2,g3,g4,g5⟩:=I1.pin (a,oe) (bL _ hp)
 have ae:AtE X.A X.stack s1 H1 a oe cls:=⟨hd,g1,eo,g2,λz=>(List.mem_cons.mp (I1.stkSub a z)).elim g3 g4⟩
 refine fF (dg (F X.A X.stack s1 H1 ⟨us,[]⟩ us vs Q a oe cls dp un ae I1.env0 hb' r n q) λr s' hq=>?_)
 cases r with
 | error e=>exact bt hq
 | ok fl =>
  cases fl with
  | ret u=>exact I1.after hq
  | next=>exact bt hq
  | brk=>exact bt hq
  | cont=>exact bt hq
theorem VY {X:Cx}{a D:Addr}(K:ag) (ek:ExK K D) (ga:X.s₀.heap.get? a=some oe) (ha:X.H₀ a=none) (hf:a∉X.fs) (hx:a∉X.ex) (eo:Qg oe (.ref D)) (hK:X.K=K:=by rfl) :
  xh X (.builtin "isinstance") (λxs H Q=>∃c cv b,xs=[.ref a,c]/\(∀u,jF c u->u=cv)/\b8 K (.ref D) cv=some b/\Q (.bl b) H):=by
 subst hK
 intro pins s σ H vs us Q I r h
 obtain ⟨c,cv,b,rfl,hc,hb,q⟩:=h
 cases r with
 | cons r1 r2 =>
  cases r2 with
  | cons r3 r4 =>
   cases r4
   cases (show _=aV a from r1)
   cases hc _ r3
   exact c3 (ExK.kit (x:=a) ek) I.kIn ⟨oe,I.base.keep a oe ga ha hf hx,eo.1,eo.2.1,eo.noCls⟩ hb (λz=>nomatch z) λtk=>⟨.bl b,H,I.tok _,rfl,q⟩
end L2
end
section
namespace L2
open PySem.W
theorem gN.calH {w:bx}{K:ag}{mg:Str->Option aj}{base:Heap}{k:Nat}{x:Str}{st:Stmt}(a:gN K x st) (z:Zt P w K mg base) (hb:gB x x st ps)
  (ok:∀{f:Addr} {fd:FuncData},Fun K x x st f fd->FnH P w K mg base k f fd ps sp):CalH P w K mg base k x ps sp:=by
 obtain ⟨a,l,c,k'⟩:=a
 obtain ⟨X,G⟩:=z
 exact CalH.mk' X G a l c k' hb ok
end L2
end
section
namespace L2
open PySem.W
theorem V4 {ta:TE}(K:ag) (ha:PE X a ta) (he:∀whole,isTrue a X.env whole=(do let v <- whole;ff a.pos;ef [v] (AX v)):=by intro _;rfl) (hK:X.K=K:=by rfl) :
  PT X a (λσ H Q=>ta σ H λx H'=>∃k,GK K x H' k/\Q k H'):=by subst hK;exact Uz ha he
theorem iteP {c:Bool}{A B:Prop}(h:c=true) (k:A):if c=true then A else B:=by rw [if_pos h];exact k
theorem G6 {t u:TT}(ht:∀σ H Q Q',(∀b H1,Q b H1->Q' b H1)->t σ H Q->t σ H Q') (hu:∀σ H Q Q',(∀b H1,Q b H1->Q' b H1)->u σ H Q->u σ H Q'):∀σ H Q Q',(∀b H1,Q b H1->Q' b H1)->EN t u σ H Q->EN t u σ H Q':=by
 intro σ H Q Q' h q
 refine ht σ H _ _ (λc H1 z=>?_) q
 cases c with
 | true=>exact ve (hu σ H1 Q Q' h z)
 | false=>exact uF (h _ _ z)
noncomputable abbrev K2:=Int×Int
noncomputable def xQ (t:T3):K2:=(t.1,t.2.1)
noncomputable def jy (rs:List T3):List K2:=rs.flatMap λr=>bJ r.2.2.toNat (xQ r)
noncomputable def yh (rs:List T3):Prop:=(∀r∈rs,1<=r.2.2)/\rs.Pairwise λa b=>a.1<b.1
noncomputable def yp (acc:List T3) (h:T3):List T3:=match acc.getLast? with
 | some r=>if xQ r=xQ h then acc.dropLast++[(h.1,h.2.1,r.2.2+1)] else acc++[(h.1,h.2.1,1)]
 | none=>acc++[(h.1,h.2.1,1)]
noncomputable def grp (hs:List T3):List T3:=hs.foldl yp []
theorem J0 {acc:List T3}{y p m l:Int}:yp (acc++[(y,p,m)]) (y,p,l)=acc++[(y,p,m+1)]:=by
 unfold yp
 rw [iI]
 simp [xQ]
theorem JB {acc:List T3}(n:∀r,acc.getLast? = some r->xQ r≠xQ h):yp acc h=acc++[(h.1,h.2.1,1)]:=by
 unfold yp
 cases e:acc.getLast? with
 | none=>rfl
 | some r =>
  show (if xQ r=xQ h then acc.dropLast++[(h.1,h.2.1,r.2.2+1)] else acc++[(h.1,h.2.1,1)])=_
  rw [if_neg (n r e)]
theorem JC {y p:Int}:∀{hs:List T3}{acc:List T3}{m:Int},(∀h∈hs,xQ h=(y,p))->hs.foldl yp (acc++[(y,p,m)])=acc++[(y,p,m+hs.length)]
 | [],acc,m,_=>by simp
 | h::hs,acc,m,a=>by
  obtain ⟨a1,a2,a3⟩:=h
  have e:=a _ aB
  have e1:a1=y/\a2=p:=by simpa [xQ] using e
  obtain ⟨rfl,rfl⟩:=e1
  rw [mM,J0,JC λh hh=>a h (aF _ hh)]
  simp
  omega
theorem W1 {y p:Int}{hs:List T3}{acc:List T3}(a:∀h∈hs,xQ h=(y,p)) (h0:hs≠[]) (n:∀r,acc.getLast? = some r->xQ r≠(y,p)):hs.foldl yp acc=acc++[(y,p,(hs.length:Int))]:=by
 cases hs with
 | nil=>exact absurd rfl h0
 | cons h hs =>
  have e:=a _ aB
  rw [mM,JB (λr hr=>by rw [e];exact n r hr)]
  obtain ⟨a1,a2,a3⟩:=h
  have e1:a1=y/\a2=p:=by simpa [xQ] using e
  obtain ⟨rfl,rfl⟩:=e1
  rw [JC λh hh=>a h (aF _ hh)]
  simp
  omega
theorem wC (r:T3) (rs:List T3):jy (r::rs)=bJ r.2.2.toNat (xQ r)++jy rs:=rfl
theorem qp (a b:List T3):jy (a++b)=jy a++jy b:=List.flatMap_append
theorem JI {α β:Type}{f:α->β}:∀{hs:List α}{a b:List β},hs.map f=a++b->∃h1 h2,hs=h1++h2/\h1.map f=a/\h2.map f=b
 | hs,[],b,e=>⟨[],hs,rfl,rfl,e⟩
 | [],x::a,b,e=>by simp at e
 | h::hs,x::a,b,e=>by
  rw [aM,rK] at e
  injection e with e1 e2
  obtain ⟨h1,h2,rfl,q1,q2⟩:=JI e2
  exact ⟨h::h1,h2,rfl,by rw [aM,e1,q1],q2⟩
theorem JT:∀{rs:List T3}{hs:List T3}{acc:List T3},hs.map xQ=jy rs->yh rs->(∀r,acc.getLast? = some r->∀x∈rs,r.1<x.1)->hs.foldl yp acc=acc++rs
 | [],hs,acc,e,_,_=>by
  have:hs=[]:=List.map_eq_nil_iff.mp e
  rw [this];simp
 | (y,p,m)::rs,hs,acc,e,g,n=>by
  rw [wC] at e
  obtain ⟨h1,h2,rfl,q1,q2⟩:=JI e
  have g1:1<=m:=g.1 _ aB
  have l1:h1.length=m.toNat:=by
   have:=congrArg fI q1
   rw [ah,bX] at this
   exact this
  have a1:∀h∈h1,xQ h=(y,p):=λh hh=>by
   have:xQ h∈bJ m.toNat (y,p):=by
    have z:xQ h∈h1.map xQ:=bK hh
    rw [q1] at z
    exact z
   exact (List.mem_replicate.mp this).2
  have ne:h1≠[]:=λz=>by rw [z] at l1;simp at l1;omega
  rw [lO,W1 a1 ne (λr hr z=>by
   have:=n r hr _ aB
   have z1:r.1=y:=congrArg Prod.fst z
   simp at this
   omega)]
  have gp:=List.pairwise_cons.mp g.2
  rw [JT (rs:=rs) q2 ⟨λr hr=>g.1 r (aF _ hr),gp.2⟩ (λr hr x hx=>by
   rw [iI] at hr
   have:(y,p,(h1.length:Int))=r:=by simpa using hr
   rw [<- this]
   exact gp.1 x hx),cj,l1]
  have:((m.toNat:Nat):Int)=m:=∅
  rw [this]
  rfl
theorem UF {hs:List T3}(e:hs.map xQ=jy rs) (g:yh rs):grp hs=rs:=by
 unfold grp
 rw [JT e g (λr z=>by cases z)]
 rfl
theorem uX (g:yh rs):rs.length<=(jy rs).length:=by
 have:∀{rs:List T3},(∀r∈rs,1<=r.2.2)->rs.length<=(jy rs).length:=by
  intro rs
  induction rs with
  | nil=>intro _;exact ar _
  | cons r rs ih =>
   intro a
   have:=ih λr hr=>a r (aF _ hr)
   have h1:=a r aB
   rw [wC,aq,bX,bh]
   omega
 exact this g.1
structure Tk (rs:List T3) (m0:Int) (left off:List T3) (m:Int):Prop where
 keys:jy left++jy off.reverse=jy rs
 gl:yh left
 go:yh off.reverse
 cnt:((jy off.reverse).length:Int)=m0-m
 m0':0<=m
 sep:0<m->∀a∈left,∀b∈off,a.1<b.1
theorem Tk.start {rs:List T3}{m:Int}(g:yh rs) (h:0<=m):Tk rs m rs [] m:=⟨by simp [jy],g,⟨λr h=>by simp at h,by simp⟩,by simp [jy],h,λ_ _ _ _ h=>by cases h⟩
theorem Tk.whole {rs:List T3}{m0 m:Int}{left:List T3}{y p h:Int}(t:Tk rs m0 (left++[(y,p,h)]) off m) (hm:0<m) (hh:h<=m):Tk rs m0 left (off++[(y,p,h)]) (m-h):=by
 have h1:1<=h:=t.gl.1 _ (aD _ aB)
 have pw:=List.pairwise_append.mp t.gl.2
 refine ⟨?_,⟨λr hr=>t.gl.1 r (bL _ hr),pw.1⟩,?_,?_,∅,?_⟩
 ·rw [cx,qp,<- t.keys,qp,cj]
  rfl
 ·rw [cx]
  refine ⟨λr hr=>?_,?_⟩
  ·rcases List.mem_append.mp hr with z | z
   ·have:r=(y,p,h):=by simpa using z
    rw [this];exact h1
   ·exact t.go.1 r z
  ·show tQ _ ((y,p,h)::off.reverse)
   exact List.pairwise_cons.mpr ⟨λb hb=>t.sep hm _ (aD _ aB) b (List.mem_reverse.mp hb),t.go.2⟩
 ·rw [cx,qp,aq]
  have:=t.cnt
  have e:((jy [(y,p,h)].reverse).length:Int)=h:=by
   show ((bJ h.toNat (xQ (y,p,h))++[]).length:Int)=h
   rw [aN,bX]
   omega
  push_cast
  omega
 ·intro hm' a ha b hb
  rcases List.mem_append.mp hb with z | z
  ·exact t.sep hm a (bL _ ha) b z
  ·have:b=(y,p,h):=by simpa using z
   rw [this]
   exact pw.2.2 a ha _ aB
theorem Tk.part {rs:List T3}{m0 m:Int}{left:List T3}{y p h:Int}(t:Tk rs m0 (left++[(y,p,h)]) off m) (hm:0<m) (hh:m<h):Tk rs m0 (left++[(y,p,h-m)]) (off++[(y,p,m)]) 0:=by
 have pw:=List.pairwise_append.mp t.gl.2
 have e:∀k:Int,jy [(y,p,k)]=bJ k.toNat (y,p):=λk=>by
  show bJ k.toNat (xQ (y,p,k))++[]=_
  rw [aN]
  rfl
 refine ⟨?_,⟨λr hr=>?_,?_⟩,⟨λr hr=>?_,?_⟩,?_,iJ _,λz=>absurd z ∅⟩
 ·rw [cx,qp,qp,<- t.keys,qp,cj,cj,show [(y,p,m)].reverse=[(y,p,m)] from rfl,e,e,e]
  congr 1
  rw [<- cj]
  congr 1
  rw [List.replicate_append_replicate]
  congr 1
  omega
 ·rcases List.mem_append.mp hr with z | z
  ·exact t.gl.1 r (bL _ z)
  ·have:r=(y,p,h-m):=by simpa using z
   rw [this]
   show 1<=h-m
   omega
 ·refine List.pairwise_append.mpr ⟨pw.1,by simp,λa ha b hb=>?_⟩
  have:b=(y,p,h-m):=by simpa using hb
  rw [this]
  exact pw.2.2 a ha (y,p,h) aB
 ·rw [cx] at hr
  rcases List.mem_append.mp hr with z | z
  ·have:r=(y,p,m):=by simpa using z
   rw [this]
   show 1<=m
   omega
  ·exact t.go.1 r z
 ·rw [cx]
  show tQ _ ((y,p,m)::off.reverse)
  exact List.pairwise_cons.mpr ⟨λb hb=>t.sep hm _ (aD _ aB) b (List.mem_reverse.mp hb),t.go.2⟩
 ·rw [cx,qp,aq]
  have:=t.cnt
  have e2:((jy [(y,p,m)].reverse).length:Int)=m:=by
   rw [show [(y,p,m)].reverse=[(y,p,m)] from rfl,e,bX]
   omega
  push_cast
  omega
end L2
end
section
namespace L2
end L2
namespace L2
section
variable (P:Program) (w:bx)
end
section
variable {P:Program}{w:bx}{H H':Hp}{h h':Heap}{a:Addr}{o:HO}
end
section
variable {P:Program}{w:bx}{H:Hp}{h h':Heap}{x e:Addr}{o':HO}
end
section
variable {fs fs' ex ex':List Addr}{H H1 H2:Hp}{h h1 h2 h':Heap}{a x e:Addr}{o:HO}
end
end L2
namespace L2
section
variable {X:Cx}{pins:List (Addr×Obj)}{σ:List (Option V)}{H H':Hp}{s:Shared}{h':Heap}
end
end L2
namespace L2
section
variable {X:Cx}
variable {a b:Expr}{ta tb:TE}{pos:Pos}
variable {tA tB':TT}{vj:List Expr}
end
end L2
namespace L2
section
variable {X:Cx}{pins:List (Addr×Obj)}{σ:St}{H:Hp}{s:Shared}{a:Addr}{xs ys:List V}
end
section
variable {X:Cx}{pins:List (Addr×Obj)}{σ:St}{H:Hp}{s:Shared}{E:aj->Shared->Prop}
end
section
variable {X:Cx}{st:Stmt}{vj:List Stmt}{t u:TS}{e:Expr}{te:TE}{pos:Pos}
end
section
variable {X:Cx}{pos:Pos}
end
section
variable {X:Cx}{pos:Pos}
end
end L2
namespace L2
section
variable {X:Cx}{tg:Expr}
end
end L2
namespace L2
section
variable {X:Cx}{a b c:Expr}{ta tb tc:TE}{pos:Pos}
end
section
variable {X:Cx}{a b c:Expr}{ta tb tc:TE}{pos:Pos}
end
end L2
namespace L2
section
variable {prog:Program}{w:bx}{A:bz}{E:aj->Shared->Prop}{s:Shared}{K:ag}{x dx C f:Addr}{mA:Str->Option aj}{name:Str}{v:aj}
end
section
variable {P:Program}{w:bx}{H H':Hp}{h h':Heap}{a C dx:Addr}{fs fs':List (Str×V)}
end
section
variable {X:Cx}{pins:List (Addr×Obj)}{σ:St}{H:Hp}{s:Shared}{a C dx:Addr}{fs:List (Str×V)}{f:Str}{v:V}{A:bz}{E:aj->Shared->Prop}
end
section
variable {X:Cx}{o e value:Expr}{f:Str}{pos pos' tpos:Pos}{ta tv:TE}
end
section
variable {X:Cx}{pins:List (Addr×Obj)}{σ:St}{H:Hp}{s:Shared}{A:bz}{E:aj->Shared->Prop}{Q:aj->Shared->Prop}{c:aj}{b:Bool}
end
end L2
namespace L2
section
variable {X:Cx}{e:Expr}{es:List Expr}{te:TE}{t:TA}{pos:Pos}
end
section
variable {X:Cx}{pins:List (Addr×Obj)}{σ:St}{H:Hp}{s s':Shared}
end
section
variable {X:Cx}{CX:CXT}{k:Nat}{f C:Addr}{fd:FuncData}{ps:List Str}{sp:Sp}{dvs:List V}{ds:List aj}{E:XK}{x m:Str}{p pos apos:Pos}{e o:Expr}{es:List Expr}{ta:TE}{t:TA}
end
section
variable {X:Cx}{CX:CXT}{k:Nat}{f C:Addr}{fd:FuncData}{ps ks:List Str}{sp:Sp}{E:XK}{x m:Str}{p pos apos kpos:Pos}{e o:Expr}{es:List Expr}{kws:List mr}{te ta:TE}{t tk:TA}{nm:Option Str}
variable {g:List aj->List aj->List aj}{gV:List V->List V->List V}
end
end L2
namespace L2
section
variable {X:Cx}{x:Str}{p pos:Pos}{e:Expr}{es:List Expr}{t:TA}{id T:String}{r:List V->Hp->VK->Prop}
end
end L2
namespace L2
section
variable {κ:Type} [DecidableEq κ]
noncomputable def jZ (kvs:List (κ×V)) (k:κ):Option V:=(kvs.find? λkv=>decide (kv.1=k)).map (·.2)
noncomputable def qC (kvs:List (κ×V)) (k:κ) (v:V):List (κ×V) :=
 if (kvs.any λkv=>decide (kv.1=k))=true then kvs.map (λkv=>if kv.1=k then (kv.1,v) else kv) else kvs++[(k,v)]
theorem vg {k:κ}:jZ ([]:List (κ×V)) k=none:=rfl
theorem qT {p:κ×V}{r:List (κ×V)}{k:κ}(e:p.1=k):jZ (p::r) k=some p.2:=by simp [jZ,eI,e]
theorem qV {p:κ×V}{r:List (κ×V)}{k:κ}(e:¬p.1=k):jZ (p::r) k=jZ r k:=by simp [jZ,eI,e]
theorem vm (k:κ):∀kvs:List (κ×V),(kvs.any λkv=>decide (kv.1=k))=(jZ kvs k).isSome
 | []=>rfl
 | p::r=>by
  rw [ft]
  by_cases e:p.1=k
  ·simp only [qT e,decide_eq_true e,Bool.true_or,Option.isSome_some]
  ·rw [qV e,decide_eq_false e,Bool.false_or];exact vm k r
theorem QZ (k j:κ) (y:V):∀kvs:List (κ×V),jZ (kvs.map λkv=>if kv.1=k then (kv.1,y) else kv) j=(jZ kvs j).map λx=>if j=k then y else x
 | []=>rfl
 | p::r=>by
  have ih:=QZ k j y r
  rw [aM]
  by_cases h:p.1=k
  ·rw [if_pos h]
   by_cases e:p.1=j
   ·rw [qT (p:=(p.1,y)) e,qT e,iR,if_pos (e.symm.trans h)]
   ·rw [qV (p:=(p.1,y)) e,qV e,ih]
  ·rw [if_neg h]
   by_cases e:p.1=j
   ·rw [qT (p:=p) e,qT e,iR,if_neg (λz=>h (e.trans z))]
   ·rw [qV (p:=p) e,qV e,ih]
theorem Jq (k j:κ) (y:V):∀kvs:List (κ×V),jZ kvs k=none->jZ (kvs++[(k,y)]) j=if j=k then some y else jZ kvs j
 | [],_=>by
  by_cases e:k=j
  ·rw [if_pos e.symm];exact qT (p:=(k,y)) e
  ·rw [if_neg (λz=>e z.symm)];exact qV (p:=(k,y)) e
 | p::r,hn=>by
  rw [rK]
  have hk:¬p.1=k:=λz=>by rw [qT z] at hn;cases hn
  rw [qV hk] at hn
  have ih:=Jq k j y r hn
  by_cases e:p.1=j
  ·rw [qT e,qT e,if_neg (λz=>hk (e.trans z))]
  ·rw [qV e,qV e,ih]
theorem UT (kvs:List (κ×V)) (k j:κ) (y:V):jZ (qC kvs k y) j=if j=k then some y else jZ kvs j:=by
 unfold qC
 by_cases a:(kvs.any λkv=>decide (kv.1=k))=true
 ·rw [if_pos a,QZ]
  rw [vm] at a
  by_cases e:j=k
  ·obtain ⟨x,hx⟩:=Option.isSome_iff_exists.mp a
   rw [if_pos e,e,hx,iR,if_pos rfl]
  ·rw [if_neg e]
   cases jZ kvs j with
   | none=>rfl
   | some x=>rw [iR,if_neg e]
 ·rw [if_neg a]
  refine Jq k j y kvs ?_
  rw [vm] at a
  cases q:jZ kvs k with
  | none=>rfl
  | some x=>rw [q] at a;exact (a rfl).elim
theorem zO (kvs:List (κ×V)) (k:κ) (v:V):(qC kvs k v).length<=kvs.length+1:=by
 unfold qC
 split
 ·rw [ah];omega
 ·rw [aq,bh,mO];omega
theorem yj {k:κ}(v:V) (h:jZ kvs k=none):qC kvs k v=kvs++[(k,v)]:=by
 unfold qC
 rw [vm,h]
 exact if_neg ⋯
theorem yV.isSome_eq (r:yV o u):o.isSome=u.isSome:=by
 cases o with
 | none=>cases u with
  | none=>rfl
  | some _=>exact (show False from r).elim
 | some _=>cases u with
  | none=>exact (show False from r).elim
  | some _=>rfl
theorem yV.getD (r:yV o u) (rd:jF d d'):jF (o.getD d) (u.getD d'):=by
 cases o with
 | none=>cases u with
  | none=>exact rd
  | some _=>exact (show False from r).elim
 | some _=>cases u with
  | none=>exact (show False from r).elim
  | some _=>exact r
theorem KV.val {kvs:List (κ×V)}(r:KV kvs vs) (k:κ):yV (jZ kvs k) (oh vs k):=by
 unfold KV at r
 induction r with
 | nil=>exact d9
 | @cons p q ps qs h t ih =>
  obtain ⟨h1,h2⟩:=h
  by_cases e:p.1=k
  ·have e':q.1=k:=h1.symm.trans e
   have b:oh (q::qs) k=some q.2:=by simp [oh,eI,e']
   rw [qT e,b];exact h2
  ·have e':¬q.1=k:=λz=>e (h1.trans z)
   have b:oh (q::qs) k=oh qs k:=by simp [oh,eI,e']
   rw [qV e,b];exact ih
theorem KV.any {kvs:List (κ×V)}{vs:List (κ×aj)}(r:KV kvs vs) (k:κ):(kvs.any λkv=>decide (kv.1=k))=vs.any λkv=>decide (kv.1=k):=by
 unfold KV at r
 induction r with
 | nil=>rfl
 | cons h t ih=>rw [ft,ft,ih,h.1]
theorem KV.repl {kvs:List (κ×V)}(r:KV kvs vs) (k:κ) (ry:jF y u) :
  KV (kvs.map λkv=>if kv.1=k then (kv.1,y) else kv) (vs.map λkv=>if kv.1=k then (kv.1,u) else kv):=by
 unfold KV at r ⊢
 induction r with
 | nil=>exact .nil
 | @cons p q ps qs h t ih =>
  rw [aM,aM]
  refine .cons ?_ ih
  obtain ⟨h1,h2⟩:=h
  by_cases e:p.1=k
  ·rw [if_pos e,if_pos (h1.symm.trans e)];exact ⟨h1,ry⟩
  ·rw [if_neg e,if_neg (λz=>e (h1.trans z))];exact ⟨h1,h2⟩
theorem KV.put {kvs:List (κ×V)}(r:KV kvs vs) (k:κ) (ry:jF y u):KV (qC kvs k y) (tZ vs k u):=by
 unfold qC tZ
 rw [r.any k]
 by_cases e:(vs.any λkv=>decide (kv.1=k))=true
 ·rw [if_pos e,if_pos e];exact r.repl k ry
 ·rw [if_neg e,if_neg e];exact d5 r ⟨rfl,ry⟩
theorem KV.length {kvs:List (κ×V)}(r:KV kvs vs):kvs.length=vs.length:=aT r
end
theorem kU {k:Key}(r:jF (kV k) u):(jJ P w).is k u=true:=by
 cases k with
 | inl i=>obtain ⟨t,e⟩:=(show ∃t,u=lX i t from r);subst e;exact Xj P w i t
 | inr x=>obtain ⟨t,e⟩:=(show ∃t,u=nZ x t from r);subst e;exact XS P w x t
theorem Js :∀{ks:List Key}{us:List aj},jE (ks.map kV) us->ItemsAre (jJ P w) ks us
 | [],_,r=>by rw [fh] at r;cases r;exact .nil
 | k::ks,_,r=>by
  rw [aM] at r
  cases r with
  | cons h t=>exact .cons (kU h) (Js t)
noncomputable abbrev KT (H:Hp):List (List Key×V)->List (List Key×Addr×aj)->Prop:=d0 λp q=>p.1=q.1/\H q.2.1=some (.tup (p.1.map kV))/\jF p.2 q.2.2
theorem KT.val {kvs:List (List Key×V)}{xs:List (List Key×Addr×aj)}(r:KT H kvs xs) (k:List Key):yV (jZ kvs k) ((sr xs k).map (·.2)):=by
 induction r with
 | nil=>exact d9
 | @cons p q ps qs h t ih =>
  obtain ⟨h1,_,h2⟩:=h
  by_cases e:p.1=k
  ·have e':q.1=k:=h1.symm.trans e
   have b:sr (q::qs) k=some q.2:=by simp [sr,eI,e']
   rw [qT e,b];exact h2
  ·have e':¬q.1=k:=λz=>e (h1.trans z)
   have b:sr (q::qs) k=sr qs k:=by simp [sr,eI,e']
   rw [qV e,b];exact ih
theorem KT.repl {kvs:List (List Key×V)}{xs:List (List Key×Addr×aj)}(r:KT H kvs xs) (k:List Key) (ry:jF y u) :
  KT H (kvs.map λkv=>if kv.1=k then (kv.1,y) else kv) (xs.map (putAt k u)):=by
 induction r with
 | nil=>exact .nil
 | @cons p q ps qs h t ih =>
  rw [aM,aM]
  refine .cons ?_ ih
  obtain ⟨h1,h2,h3⟩:=h
  unfold putAt
  by_cases e:p.1=k
  ·rw [if_pos e,if_pos (h1.symm.trans e)];exact ⟨h1,h2,ry⟩
  ·rw [if_neg e,if_neg (λz=>e (h1.trans z))];exact ⟨h1,h2,h3⟩
theorem KT.put {kvs:List (List Key×V)}{xs:List (List Key×Addr×aj)}(r:KT H kvs xs) (k:List Key) {b:Addr}(hb:H b=some (.tup (k.map kV))) (ry:jF y u) :
  KT H (qC kvs k y) (storedH xs k b u):=by
 have e:(kvs.any λkv=>decide (kv.1=k))=(sr xs k).isSome:=by
  rw [vm,(r.val k).isSome_eq,pU]
 unfold qC storedH
 rw [e]
 by_cases q:(sr xs k).isSome=true
 ·rw [if_pos q,if_pos q];exact r.repl k ry
 ·rw [if_neg q,if_neg q];exact d5 r ⟨rfl,hb,ry⟩
theorem KT.keeps {H':Hp}{kvs:List (List Key×V)}{xs:List (List Key×Addr×aj)}(r:KT H kvs xs) (ht:∀b ys,H b=some (.tup ys)->H' b=some (.tup ys)):KT H' kvs xs :=
 Paired.mapP r λ_ _ z=>⟨z.1,ht _ _ z.2.1,z.2.2⟩
section
variable {P:Program}{w:bx}{H:Hp}{h:Heap}{a:Addr}
theorem GC (ok:HOk P w H h) (e:Rd H a u):qo P w H h a u:=e.ok ok
theorem wF (ok:HOk P w H h) (e:Rd H a (.dK kvs)):kvs.length<=sizeLine/\(a == dj)=false/\∃vs,KV kvs vs/\h.DictOf (jJ P w) a vs :=
 show qo P w H h a (.dK kvs) from GC ok e
theorem UN (ok:HOk P w H h) (e:H a=some (.dK kvs)):kvs.length<=sizeLine/\(a == dj)=false/\∃vs,KV kvs vs/\h.DictOf (jJ P w) a vs:=wF ok (.inl e)
theorem kG {ks:List Key}(ok:HOk P w H h) (e:H a=some (.tup (ks.map kV))):(lZ (jJ P w)).is h ks a:=by
 obtain ⟨_,its,r,o,h1,h2,n,h3⟩:=(show qo P w H h a (.tup (ks.map kV)) from ok a _ e)
 exact ⟨o,its.toArray,n,h1,h2,h3,by simpa using Js r⟩
theorem JV (ok:HOk P w H h) (e:Rd H a (.dT kvs)):kvs.length<=sizeLine/\(a == dj)=false /\
  ∃xs,KT H kvs xs/\h.DictOfH (lZ (jJ P w)) a xs:=by
 obtain ⟨z,y,xs,r,o,es,ep,h1,h2,h3,h4,h5⟩:=(show qo P w H h a (.dT kvs) from GC ok e)
 refine ⟨z,y,xs,r,o,es,ep,h1,h2,h3,h4,λx hx=>?_,h5⟩
 have all:∀{l:List (List Key×V)} {m:List (List Key×Addr×aj)},KT H l m->∀x∈m,(lZ (jJ P w)).is h x.1 x.2.1:=by
  intro l m q
  induction q with
  | nil=>intro x hx;exact nomatch hx
  | @cons p q ps qs hq t ih =>
   intro x hx
   rcases List.mem_cons.mp hx with e | hx
   ·subst e
    exact kG ok (by rw [<- hq.1];exact hq.2.1)
   ·exact ih x hx
 exact all r x hx
theorem As (ok:HOk P w H h) (e:H a=some (.dT kvs)):kvs.length<=sizeLine/\(a == dj)=false /\
  ∃xs,KT H kvs xs/\h.DictOfH (lZ (jJ P w)) a xs:=JV ok (.inl e)
end
noncomputable def qR (H:Hp) (a:Addr) (y:V) (r:Option V):Prop :=
 (∃kvs k,Rd H a (.dK kvs)/\y=kV k/\r=jZ kvs k)\/∃kvs k b,Rd H a (.dT kvs)/\y = .ref b/\H b=some (.tup (k.map kV))/\r=jZ kvs k
noncomputable def vY (H:Hp) (a:Addr) (y v:V) (H':Hp):Prop :=
 (∃kvs k,H a=some (.dK kvs)/\y=kV k/\kvs.length<sizeLine/\H'=upd H a (.dK (qC kvs k v))) \/
 ∃kvs k b,H a=some (.dT kvs)/\y = .ref b/\H b=some (.tup (k.map kV))/\kvs.length<sizeLine/\H'=upd H a (.dT (qC kvs k v))
theorem qR.k {H:Hp}{kvs:List (Key×V)}{k:Key}(e:H a=some (.dK kvs)):qR H a (kV k) (jZ kvs k):=.inl ⟨kvs,k,.inl e,rfl,rfl⟩
theorem vY.k {H:Hp}{kvs:List (Key×V)}{k:Key}(e:H a=some (.dK kvs)) (hl:kvs.length<sizeLine):vY H a (kV k) v (upd H a (.dK (qC kvs k v))):=.inl ⟨kvs,k,e,rfl,hl,rfl⟩
theorem vY.t {H:Hp}{b:Addr}{kvs:List (List Key×V)}{k:List Key}(e:H a=some (.dT kvs)) (eb:H b=some (.tup (k.map kV))) (hl:kvs.length<sizeLine) :
  vY H a (.ref b) v (upd H a (.dT (qC kvs k v))):=.inr ⟨kvs,k,b,e,rfl,eb,hl,rfl⟩
section
variable {X:Cx}{pins:List (Addr×Obj)}{σ:St}{H:Hp}{s:Shared}{a:Addr}{y v:V}{u r:aj}{o:Option V}{A:bz}{E:aj->Shared->Prop}
theorem Inv.big (I:Inv X pins σ H s):dj<s.heap.objs.size:=by
 have h:mainGlobals<s.heap.objs.size:=(I.mod.glob.keeps I.bk).lt
 exact Nat.lt_trans ⋯ h
theorem V3 {Q:aj->Shared->Prop}(hu:A.units+1<cLine) (I:Inv X pins σ H s) (g:qR H a y (some v)) (ry:jF y u) (h:∀w' s',Inv X pins σ H s'->jF v w'->Q w' s') :
  ax (aE X.prog X.w) A (fV (.ref a) u) Q E s:=by
 rcases g with ⟨kvs,k,e,ey,l⟩ | ⟨kvs,k,b,e,ey,eb,l⟩
 ·subst ey
  obtain ⟨z,hd,vs,rel,dd⟩:=wF I.hok e
  obtain ⟨w',hw,rw'⟩:=yV.some_of (v:=v) (o:=oh vs k) (by rw [l];exact rel.val k)
  exact wpAny_getItem_of (kU ry) dd.mapOf hw (h w' _ (I.tok _) rw')
 ·subst ey
  cases (show u=aV b from ry)
  obtain ⟨z,hd,xs,rel,dd⟩:=JV I.hok e
  obtain ⟨w',hw,rw'⟩:=yV.some_of (v:=v) (o:=(sr xs k).map (·.2)) (by rw [l];exact rel.val k)
  obtain ⟨p,hp,hp2⟩:=Option.map_eq_some_iff.mp hw
  refine wpAny_getItem_heap (fG hu) (kG I.hok eb) dd hp ?_
  rw [hp2]
  exact h w' _ (I.tok _) rw'
theorem d_in {Q:aj->Shared->Prop}(hu:A.units+1<cLine) (I:Inv X pins σ H s) (g:qR H a y o) (ry:jF y u) (h:∀s',Inv X pins σ H s'->Q (.bool o.isSome) s') :
  ax (aE X.prog X.w) A (ck .In u (.ref a)) Q E s:=by
 rcases g with ⟨kvs,k,e,ey,l⟩ | ⟨kvs,k,b,e,ey,eb,l⟩
 ·subst ey
  obtain ⟨z,hd,vs,rel,dd⟩:=wF I.hok e
  refine wpAny_in_of (kU ry) hd dd.mapOf ?_
  rw [<- (rel.val k).isSome_eq,<- l]
  exact h _ (I.tok _)
 ·subst ey
  cases (show u=aV b from ry)
  obtain ⟨z,hd,xs,rel,dd⟩:=JV I.hok e
  refine wpAny_in_heap (fG hu) (kG I.hok eb) hd dd ?_
  have q:=(rel.val k).isSome_eq
  rw [pU] at q
  rw [<- q,<- l]
  exact h _ (I.tok _)
theorem Q8 {t':Nat}(I:Inv X pins σ H s) (mu:Mut (H a)) (hs:ee a s.heap h') (he:∃q,h'.get? a=some q) (new:qo X.prog X.w (upd H a ob) h' a ob) :
  Inv X pins σ (upd H a ob) { s with heap:=h',toks:=t' } :=
 I.write (x:=a) (e:=a) mu (.inl rfl) (λb q hb z=>(hs.2 b hb).trans z) he new
theorem XX {h':Heap}{kvs:List (Key×V)}(z:kvs.length<=sizeLine) (hd:(a == dj)=false) (rel:KV kvs vs) (dd:h'.DictOf (jJ P w) a vs) :
  qo P w H' h' a (.dK kvs):=⟨z,hd,vs,rel,dd⟩
theorem Vl {Q:Unit->Shared->Prop}(hu:A.units+1<cLine) (I:Inv X pins σ H s) (g:vY H a y v H') (ry:jF y u) (rv:jF v r) (h:∀s',Inv X pins σ H' s'->Q () s') :
  ax (aE X.prog X.w) A (setItem (.ref a) u r) Q E s:=by
 rcases g with ⟨kvs,k,e,ey,l,eH⟩ | ⟨kvs,k,b,e,ey,eb,l,eH⟩
 ·subst ey eH
  obtain ⟨z,hd,vs,rel,dd⟩:=UN I.hok e
  have hz:vs.length<=sizeLine:=by rw [<- rel.length];exact z
  have hl:(qC kvs k v).length<=sizeLine:=by have:=zO kvs k v;omega
  refine wpAny_setItem_pairs (hsz:=hz) (kU ry) dd λh' dd' hs=>h _ ?_
  have he:∃q,h'.get? a=some q:=let ⟨q,_,_,hq,_⟩:=dd';⟨q,hq⟩
  exact Q8 I (by rw [e];exact d9) hs he (XX hl hd (rel.put k rv) dd')
 ·subst ey eH
  cases (show u=aV b from ry)
  obtain ⟨z,hd,xs,rel,dd⟩:=As I.hok e
  have hz:xs.length<=sizeLine:=by rw [<- aT rel];exact z
  have hl:(qC kvs k v).length<=sizeLine:=by have:=zO kvs k v;omega
  refine wpAny_setItem_heap (hsz:=hz) (fG hu) (kG I.hok eb) dd λh' dd' hs=>h _ ?_
  obtain ⟨q,es,ep,hq,h2,h3,h4,_,h5⟩:=dd'
  refine Q8 I (by rw [e];exact d9) hs ⟨q,hq⟩ ⟨hl,hd,_,(rel.put k eb rv).keeps λc ys ec=>?_,q,es,ep,hq,h2,h3,h4,h5⟩
  rw [j7 (jn ec e (λz=>nomatch z))]
  exact ec
end
section
variable {X:Cx}{pins:List (Addr×Obj)}{σ:St}{H:Hp}{s:Shared}{a:Addr}{kvs:List (Key×V)}{k:Key}{u:aj}{A:bz}{E:aj->Shared->Prop}
end
noncomputable def Ay (i:Expr):Prop:=∀ov iv,nv i false ov iv=operate [ov,iv] (fV ov iv)
theorem Gr {prog:Program}{w:bx}{A:bz}{E:aj->Shared->Prop}{s:Shared}{env:Env}{value slice:Expr}{pos:Pos}{T id:String}{Q:aj->Shared->Prop}
  (hl:oO (.type T) "__getitem__" = pure (some (.builtin id))) (hs:Ay slice)
  (h:ax (aE prog w) A (eval value env) (λo s₁=>ax (aE prog w) A (eval slice env) (λi s₂=>s₂.TypeIs o T/\ax (aE prog w) A (fV o i) Q E s₂) E s₁) E s) :
  ax (aE prog w) A (eval (.Subscript value slice pos) env) Q E s:=by
 refine mw (aZ h (λo s₁ h₁=>aZ h₁ (λi s₂ h₂=>?_) λ_ _ x=>x) λ_ _ x=>x)
 obtain ⟨hT,h₂⟩:=h₂
 unfold iA
 refine aa ?_
 rw [getitemInPython_of_ne hT.not_modules]
 refine aa (sA hT hl ?_)
 have fin:ax (aE prog w) A (nv slice false o i) (λr s₃=>ax (aE prog w) A (letTemporaryGo value o r >>= λ_=>pure r) Q E s₃) E s₂:=by
  rw [hs o i]
  exact wpAny_operating (aZ h₂ (λr s₃ h₃=>aa (wpAny_letTemporaryGo (wpAny_pure h₃))) λ_ _ x=>x)
 first
  | exact wpAny_pure (aa fin)
  | exact aa (wpAny_pure (aa fin))
  | exact aa fin
theorem Xc (I:Inv X pins σ H s) (g:qR H a y o):s.TypeIs (.ref a) "dict":=by
 rcases g with ⟨kvs,k,e,_,_⟩ | ⟨kvs,k,b,e,_,_,_⟩
 ·obtain ⟨_,_,vs,_,dd⟩:=wF I.hok e
  exact dd.typeIs
 ·obtain ⟨_,_,xs,_,dd⟩:=JV I.hok e
  exact dd.typeIs
noncomputable def GE (td ty:TE):TE:=λσ H Q=>td σ H λx H1=>ty σ H1 λy H2=>∃a v,x = .ref a/\qR H2 a y (some v)/\Q v H2
noncomputable def tDIn (ty td:TE):TE:=λσ H Q=>ty σ H λy H1=>td σ H1 λx H2=>∃a o,x = .ref a/\qR H2 a y o/\Q (.bl o.isSome) H2
noncomputable def A7 (td ty tv:TE):TS:=λD σ H=>tv σ H λv H1=>td σ H1 λx H2=>ty σ H2 λy H3=>∃a H4,x = .ref a/\vY H3 a y v H4/\D.nx σ H4
section
variable {X:Cx}{o i e value:Expr}{pos pos' tpos:Pos}{td ty tv:TE}
theorem jH (hu:X.A.units+1<cLine) (ho:PE X o td) (hi:PE X i ty) (hs:Ay i):PE X (.Subscript o i pos) (GE td ty):=by
 intro pins s σ H Q I h
 refine Gr PySem.F.slot_dict_getitem.lookup hs (thn (ho pins s σ H _ I h) λu s1 ⟨x,H1,I1,rx,q1⟩=>thn (hi pins s1 σ H1 _ I1 q1) λiv s2 ⟨y,H2,I2,ry,a,v,ex,g,q2⟩=>?_)
 subst ex
 obtain rfl:u=aV a:=rx
 exact ⟨Xc I2 g,V3 hu I2 g ry λw' s3 I3 rw'=>⟨v,H2,I3,rw',q2⟩⟩
theorem EV (hu:X.A.units+1<cLine) (hi:PE X i ty) (ho:PE X o td):PC X .In i o (tDIn ty td):=by
 intro pins s σ H Q I h
 refine thn (hi pins s σ H _ I h) λiv s1 ⟨y,H1,I1,ry,q1⟩=>thn (ho pins s1 σ H1 _ I1 q1) λu s2 ⟨x,H2,I2,rx,a,ov,ex,g,q2⟩=>?_
 subst ex
 obtain rfl:u=aV a:=rx
 exact d_in hu I2 g ry λs3 I3=>⟨.bl ov.isSome,H2,I3,rfl,q2⟩
theorem zp (hu:X.A.units+1<cLine) (ho:PE X o td) (hi:PE X i ty) (hv:PE X value tv) (hs:iX value (some (.Subscript o i pos')) pos.line X.env=pure false) :
  PS X (.Assign [.Subscript o i pos'] value pos) (A7 td ty tv):=by
 intro pins s σ H D I h
 refine wpAny_Assign_Subscript (thn (hv pins s σ H _ I h) λr s1 ⟨v,H1,I1,rv,q1⟩=>thn (ho pins s1 σ H1 _ I1 q1) λu s2 ⟨x,H2,I2,rx,q2⟩=>thn (hi pins s2 σ H2 _ I2 q2) λiv s3 ⟨y,H3,I3,ry,a,H4,ex,g,q3⟩=>?_) hs
 subst ex
 obtain rfl:u=aV a:=rx
 exact Vl hu I3 g ry rv λs4 I4=>⟨σ,H4,I4,q3⟩
end
theorem Xr (h:Heap) (hb:dj<h.objs.size):qo P w H (h.push { cls:=.type "dict",data:=.dict #[] }) h.objs.size (.dK []) :=
 ⟨aJ _,beq_eq_false_iff_ne.mpr (cF (aC hb)),[],.nil,sD h⟩
theorem Uh (h:Heap) (hb:dj<h.objs.size):qo P w H (h.push { cls:=.type "dict",data:=.dict #[] }) h.objs.size (.dT []) :=
 ⟨aJ _,beq_eq_false_iff_ne.mpr (cF (aC hb)),[],.nil,_,#[],0,ay _ rfl,⟨rfl,rfl,rfl⟩,rfl,rfl,i8⟩
noncomputable def EH:TE:=λ_ H Q=>∀p,H p=none->Q (.ref p) (upd H p (.dK []))
noncomputable def EB:TE:=λ_ H Q=>∀p,H p=none->Q (.ref p) (upd H p (.dT []))
section
variable {X:Cx}{pos:Pos}
theorem yq:PE X (.Dict [] [] pos) EH:=λpins s σ H Q I h =>
 rM ⟨.ref s.heap.objs.size,_,I.laid (a:=s.heap.objs.size) (o:=.dK []) (t':=s.toks) (λ_ _ q=>ai _ q) (ar _) (Xr s.heap I.big),rfl,h _ (I.hok.fresh (ar _))⟩
theorem Uf:PE X (.Dict [] [] pos) EB:=λpins s σ H Q I h =>
 rM ⟨.ref s.heap.objs.size,_,I.laid (a:=s.heap.objs.size) (o:=.dT []) (t':=s.toks) (λ_ _ q=>ai _ q) (ar _) (Uh s.heap I.big),rfl,h _ (I.hok.fresh (ar _))⟩
end
noncomputable def Zo:List (TE×TE)->St->Hp->(List (V×V)->Hp->Prop)->Prop
 | [],_,H,Q=>Q [] H
 | (tk,tv)::r,σ,H,Q=>tk σ H λx H1=>tv σ H1 λy H2=>Zo r σ H2 λps H3=>Q ((x,y)::ps) H3
noncomputable abbrev VV:List (V×V)->List (aj×aj)->Prop:=d0 λp q=>jF p.1 q.1/\jF p.2 q.2
noncomputable def PPs (X:Cx) (pos:Pos) (keys:List (Option Expr)) (values:List Expr) (trs:List (TE×TE)):Prop :=
 ∀(pins:List (Addr×Obj)) (s:Shared) (σ:St) (H:Hp) (Q:List (V×V)->Hp->Prop),Inv X pins σ H s->Zo trs σ H Q ->
  ax (aE X.prog X.w) X.A (evalPairs (pairTrees keys values X.env pos)) (λvs s'=>∃ps H',Inv X pins σ H' s'/\VV ps vs/\Q ps H') X.xe s
theorem Gq {pos:Pos}:PPs X pos [] [] []:=λpins s σ H Q I h=>pairTrees_nil_walk ⟨[],H,I,.nil,h⟩
theorem hW {pos:Pos}{k:Expr}(hk:PE X k tk) (hv:PE X v tv) (hr:PPs X pos ks vs trs) :
  PPs X pos (some k::ks) (v::vs) ((tk,tv)::trs):=λpins s σ H Q I h =>
 pairTrees_cons_walk (thn (hk pins s σ H _ I h) λu s1 ⟨x,H1,I1,rx,q1⟩=>thn (hv pins s1 σ H1 _ I1 q1) λw2 s2 ⟨y,H2,I2,ry,q2⟩ =>
  thn (hr pins s2 σ H2 _ I2 q2) λws s3 ⟨ps,H3,I3,rel,q3⟩=>⟨(x,y)::ps,H3,I3,.cons ⟨rx,ry⟩ rel,q3⟩)
noncomputable def xk (kvs more:List (Key×V)):List (Key×V):=more.foldl (λacc kv=>qC acc kv.1 kv.2) kvs
theorem KV.merge:∀{more:List (Key×V)}{rs:List (Key×aj)}{kvs:List (Key×V)}{vs:List (Key×aj)},KV more rs->KV kvs vs->KV (xk kvs more) (merged vs rs):=by
 intro more rs kvs vs r
 unfold KV at r
 induction r generalizing kvs vs with
 | nil=>intro q;exact q
 | @cons p q ps qs h t ih =>
  intro r0
  have e:KV (qC kvs p.1 p.2) (tZ vs q.1 q.2):=by
   have:=r0.put p.1 h.2
   rw [<- h.1];exact this
  exact ih e
theorem yb:∀(more kvs:List (Key×V)),(xk kvs more).length<=kvs.length+more.length
 | [],kvs=>by show kvs.length<=kvs.length+0;omega
 | p::r,kvs=>by
  have h1:=yb r (qC kvs p.1 p.2)
  have h2:=zO kvs p.1 p.2
  show (xk (qC kvs p.1 p.2) r).length<=_
  rw [bh];omega
theorem gH :∀{kvs:List (Key×V)}{ws:List (aj×aj)},VV (kvs.map λkv=>(kV kv.1,kv.2)) ws->∃rs,Carries (jJ P w) ws rs/\KV kvs rs
 | [],_,r=>by rw [fh] at r;cases r;exact ⟨[],d9,.nil⟩
 | p::kvs,_,r=>by
  rw [aM] at r
  cases r with
  | @cons a b as bs h t =>
   obtain ⟨rs,c,q⟩:=gH (P:=P) (w:=w) t
   obtain ⟨b1,b2⟩:=b
   exact ⟨(p.1,b2)::rs,⟨kU h.1,rfl,c⟩,.cons ⟨rfl,h.2⟩ q⟩
noncomputable def Ao (trs:List (TE×TE)):TE:=λσ H Q=>∀p,H p=none->Zo trs σ (upd H p (.dK [])) λps H2=>H2 p=some (.dK [])/\∃kvs:List (Key×V),ps=kvs.map (λkv=>(kV kv.1,kv.2))/\kvs.length<=15/\Q (.ref p) (upd H2 p (.dK (xk [] kvs)))
theorem Wy {pos:Pos}{keys:List (Option Expr)}(h:PPs X pos keys values trs) (hall:keys.all (·.isSome)=true) (hl:keys.length=values.length) (h0:keys≠[])
  (h15:keys.length<=15):PE X (.Dict keys values pos) (Ao trs):=by
 intro pins s σ H Q I q
 have hn:=I.hok.fresh (ar s.heap.objs.size)
 have I1:=I.laid (a:=s.heap.objs.size) (o:=.dK []) (h':=s.heap.push { cls:=.type "dict",data:=.dict #[] }) (t':=s.toks) (λ_ _ q=>ai _ q) (ar _) (Xr s.heap I.big)
 refine wpAny_Dict_walk (knd:=jJ X.prog X.w) hall hl h0 h15 (thn (h pins _ σ _ _ I1 (q _ hn)) λws s2 ⟨ps,H2,I2,rel,e,kvs,ep,lk,q2⟩=>?_)
 subst ep
 obtain ⟨rs,c,rk⟩:=gH (P:=X.prog) (w:=X.w) rel
 obtain ⟨z,hd,vs0,r0,dd⟩:=UN I2.hok e
 cases r0
 refine ⟨rs,c,dd,λh' dd' hs=>⟨.ref s.heap.objs.size,_,?_,rfl,q2⟩⟩
 have hz:(xk [] kvs).length<=sizeLine:=by
  have h1:=yb kvs []
  rw [mO] at h1
  rw [bE];omega
 have he:∃q,h'.get? s.heap.objs.size=some q:=let ⟨q,_,_,hq,_⟩:=dd';⟨q,hq⟩
 exact Q8 I2 (by rw [e];exact d9) hs he (XX hz hd (rk.merge .nil) dd')
structure M2 (X:Cx) (o:Expr) (m:Str) (apos:Pos) (e f:Expr) (cpos:Pos):Prop where
 base:dG o m X.env (eval o X.env)=eval o X.env
 few:((cM cpos (aP [e,f] X.env)).all (λx=>!x.1) && (lh cpos (eU [] X.env)).all (λx=>x.1.isSome)
  && decide (([e,f]:List Expr).length+([]:List mr).length+(if ([]:List mr).isEmpty then 0 else 1)<30))=true
 line:(apos.endLine == cpos.line)=true
 trees:cM cpos (aP [e,f] X.env)=[(false,eval e X.env),(false,eval f X.env)]
noncomputable def IsD (H:Hp) (a:Addr):Prop:=(∃kvs,Rd H a (.dK kvs))\/∃kvs,Rd H a (.dT kvs)
theorem GX (I:Inv X pins σ H s) (d:IsD H a) :
  s.TypeIs (.ref a) "dict" /\ (∀b,aV a = .ref b->∃ob,s.heap.get? b=some ob/\ob.dict=none)/\(a == dj)=false:=by
 rcases d with ⟨kvs,e⟩ | ⟨kvs,e⟩
 ·obtain ⟨_,hd,vs,_,dd⟩:=wF I.hok e
  refine ⟨dd.typeIs,λb q=>?_,hd⟩
  cases q
  obtain ⟨ob,_,_,h1,h2,_⟩:=dd
  exact ⟨ob,h1,h2.2.1⟩
 ·obtain ⟨_,hd,xs,_,dd⟩:=JV I.hok e
  refine ⟨dd.typeIs,λb q=>?_,hd⟩
  cases q
  obtain ⟨ob,_,_,h1,h2,_⟩:=dd
  exact ⟨ob,h1,h2.2.1⟩
section
variable {X:Cx}{pins:List (Addr×Obj)}{σ:St}{H:Hp}{s:Shared}{a:Addr}{y d:V}{u r:aj}{o:Option V}{A:bz}{E:aj->Shared->Prop}
theorem GT {Q:aj->Shared->Prop}(hu:A.units+1<cLine) (I:Inv X pins σ H s) (g:qR H a y o) (ry:jF y u) (rd:jF d r) (h:∀w' s',Inv X pins σ H s'->jF (o.getD d) w'->Q w' s') :
  ax (aE X.prog X.w) A (call (.builtin "dict.get") [.ref a,u,r]) Q E s:=by
 rcases g with ⟨kvs,k,e,ey,l⟩ | ⟨kvs,k,b,e,ey,eb,l⟩
 ·subst ey
  obtain ⟨z,hd,vs,rel,dd⟩:=wF I.hok e
  refine call_meetsIn ik dd.typeIs mE (ml _ _ _) (meets_dict_get_default (jJ X.prog X.w) a (kU ry) hd r) ⟨_,dd.mapOf,h _ _ (I.tok _) ?_⟩
  rw [l]
  exact (rel.val k).getD rd
 ·subst ey
  cases (show u=aV b from ry)
  obtain ⟨z,hd,xs,rel,dd⟩:=JV I.hok e
  refine call_meetsIn ik dd.typeIs mE (ml _ _ _) (meetsH_dict_get_default (lZ (jJ X.prog X.w)) a b hd r) ⟨fG hu,k,xs,kG I.hok eb,dd,h _ _ (I.tok _) ?_⟩
  rw [l]
  exact (rel.val k).getD rd
end
noncomputable def Ez (td ty tx:TE):TE:=λσ H Q=>td σ H λx H1=>∃a,x = .ref a/\IsD H1 a/\ty σ H1 λy H2=>tx σ H2 λz H3=>∃o,qR H3 a y o/\Q (o.getD z) H3
section
variable {X:Cx}{o e f:Expr}{apos cpos:Pos}{td ty tx:TE}
theorem gg (hu:X.A.units+1<cLine) (ho:PE X o td) (he:PE X e ty) (hf:PE X f tx) (m:M2 X o "get" apos e f cpos):PE X (.Call (.Attribute o "get" apos) [e,f] [] cpos) (Ez td ty tx):=by
 intro pins s σ H Q I h
 refine wpAny_Call_method m.base m.few m.line PySem.F.plainAttrs_dict ik PySem.F.type_dict_get (thn (ho pins s σ H _ I h) λu s1 ⟨x,H1,I1,rx,a,ex,d,q1⟩=>?_)
 subst ex
 obtain rfl:u=aV a:=rx
 obtain ⟨t1,t2,_⟩:=GX I1 d
 refine ⟨t1,t2,?_⟩
 rw [m.trees]
 refine fX rfl (iE (lj (thn (he pins s1 σ H1 _ I1 q1) λiv s2 ⟨y,H2,I2,ry,q2⟩ =>
  lj (thn (hf pins s2 σ H2 _ I2 q2) λfv s3 ⟨z,H3,I3,rz,ov,g,q3⟩=>pE ?_))))
 exact GT hu I3 g ry rz λw' s4 I4 rw'=>⟨_,H3,I4,rw',q3⟩
end
section
variable {X:Cx}{pins:List (Addr×Obj)}{σ:St}{H:Hp}{s:Shared}{a:Addr}{kvs:List (Key×V)}{A:bz}{E:aj->Shared->Prop}
end
section
variable {X:Cx}{pins:List (Addr×Obj)}{σ:St}{H:Hp}{s:Shared}{a:Addr}{y:V}{u:aj}{A:bz}{E:aj->Shared->Prop}
end
end L2
namespace Att
open PySem PySem.W PySem.Calls PyProof.Rows
section
variable {prog:Program}{w:bx}{A:bz}{E:aj->Shared->Prop}{s:Shared}{K:Frag}
end
end Att
namespace L2
end L2
namespace L2
end L2
namespace L2
section
variable {P:Program}{w:bx}{K:ag}{mg:Str->Option aj}{base:Heap}
end
section
variable {X:Cx}
end
section
variable {κ:Type} [DecidableEq κ]
theorem ki:∀{l:List κ}{k:κ},l.Nodup->¬k∈l->(l++[k]).Nodup
 | [],k,_,_=>by simp
 | a::r,k,h,hk=>by
  obtain ⟨h1,h2⟩:=List.nodup_cons.mp h
  show (a::(r++[k])).Nodup
  refine List.nodup_cons.mpr ⟨λm=>?_,ki h2 λm=>hk (List.mem_cons.mpr (iM m))⟩
  rcases List.mem_append.mp m with q | q
  ·exact h1 q
  ·exact hk (List.mem_cons.mpr (aQ (List.mem_singleton.mp q).symm))
end
end L2
end
section
namespace L2
open PySem.W
section
variable {prog:Program}{w:bx}{A:bz}{E:aj->Shared->Prop}{s:Shared}
theorem Xo {its:List aj}{κ:sY}{lt:Nat->Nat->Bool}{G:List Nat->Prop}{Q:aj->Shared->Prop}(h64:its.length<64)
  (hk:2<=its.length->∀h',(∀b o,s.heap.get? b=some o->h'.get? b=some o)->∀Q':sY->Shared->Prop,Q' κ { s with heap:=h' }->ax (aE prog w) A.in1.in1 (keyKind' its.toArray) Q' (λ_ _=>False) { s with heap:=h' })
  (hc:∀h',(∀b o,s.heap.get? b=some o->h'.get? b=some o)->∀i j,i<its.length->j<its.length->∀Q':Bool->Shared->Prop,Q' (lt i j) { s with heap:=h' } ->
   ax (aE prog w) A.in1.in1 (keyLt' κ (its.getD i aU) (its.getD j aU)) Q' (λ_ _=>False) { s with heap:=h' })
  (hs:2<=its.length->xa lt its.length (AQ its.length) λp=>qt its.length p/\G p.toList) (h1:its.length<2->G (aI its.length))
  (h:∀(ix:List Nat) (h':Heap) (n:Nat),ix.Perm (aI its.length)->G ix->(∀b o,s.heap.get? b=some o->h'.get? b=some o) ->
   h'.get? (s.heap.objs.size)=some (bA "list" (ix.map λi=>its.getD i aU).toArray n)->Q (.ref (s.heap.objs.size)) { s with heap:=h' }) :
  ax (aE prog w) A.in1 (pM its >>= λl=>ef [l] (call (.builtin "list.sort") [l] []) >>= λ_=>ret l) (λfin s'=>∃v,fin = .done (.ret v)/\Q v s') E s:=by
 refine aa (fB ?_ (by rw [bE];omega))
 have ho:(s.heap.push (bA "list" its.toArray 0)).get? (s.heap.objs.size)=some (bA "list" its.toArray 0):=ay _ rfl
 have keep:∀b o,s.heap.get? b=some o->(s.heap.push (bA "list" its.toArray 0)).get? b=some o:=λb o q=>by
  exact ai _ q
 show ax _ _ _ _ _ { s with heap:=s.heap.push (bA "list" its.toArray 0) }
 refine aa (bw (c7 nH ⟨_,ho,rfl⟩ mJ ?body (t6 _)))
 case body =>
  generalize hh0:s.heap.push (bA "list" its.toArray 0)=h0 at ho keep
  generalize ha:s.heap.objs.size=a at ho h
  have aNew:∀b o,s.heap.get? b=some o->b≠a:=λb o q=>by have:=aw q;rw [<- ha];exact aC this
  show ax (aE prog w) A.in1.in1 (eR.«list.sort» ⟨[.ref a],[]⟩) _ _ { s with heap:=h0 }
  rw [su]
  have hal:a<h0.objs.size:=aw ho
  refine aa (mB ho rfl ?_)
  refine aa (cZ ho rfl ?_ (by rw [av,bE];omega) (aJ _))
  obtain ⟨e1,ho1⟩:∃e1,(h0.update a (b9 λ_=>(#[]:Array aj))).get? a=some (bA "list" #[] e1):=⟨_,eG ho (λ_=>#[])⟩
  refine aa (eY ho1 rfl ?_)
  refine aa (ly ?_ (by show its.length<=_;rw [bE];omega))
  refine aa (fB ?_ (aJ _))
  refine bw ?_
  have ho6:(((h0.update a (b9 λ_=>(#[]:Array aj))).push (bA "tuple" its.toArray 0)).push (bA "list" #[] 0)).get? a=some (bA "list" #[] e1):=by
   rw [cQ _ _ _ (by rw [oV,dP];exact aC (cg hal)),cQ _ _ _ (by rw [dP];exact aC hal)]
   exact ho1
  have keep6:∀b o,s.heap.get? b=some o->(((h0.update a (b9 λ_=>(#[]:Array aj))).push (bA "tuple" its.toArray 0)).push (bA "list" #[] 0)).get? b=some o:=λb o q =>
   ai _ (ai _ ((c9 _ _ _ _ (aNew b o q)).trans (keep b o q)))
  show ax (aE prog w) A.in1.in1 _ _ _ { s with heap:=((h0.update a (b9 λ_=>(#[]:Array aj))).push (bA "tuple" its.toArray 0)).push (bA "list" #[] 0) }
  generalize ((h0.update a (b9 λ_=>(#[]:Array aj))).push (bA "tuple" its.toArray 0)).push (bA "list" #[] 0)=h6 at ho6 keep6
  dsimp only
  have fin:∀(ix:List Nat),ix.Perm (aI its.length)->G ix->∀out:Array aj,out=(ix.map λi=>its.getD i aU).toArray ->
    ∃v,t7 (Flow.ret aU) = .done (.ret v)/\ax (aE prog w) A.in1 (do let _ <- pure v;ret (aV a)) (λfin s'=>∃v,fin = .done (.ret v)/\Q v s') E { s with heap:=h6.update a (b9 λ_=>out) }:=λix hp hg out ho'=>by
   refine ⟨_,rfl,aa (wpAny_pure (wpAny_pure ⟨_,rfl,?_⟩))⟩
   subst ho'
   exact h ix _ _ hp hg (λb o q=>(c9 _ _ _ _ (aNew b o q)).trans (keep6 b o q)) (eG ho6 λ_=>_)
  by_cases h2:its.toArray.size<2
  ·rw [if_pos h2,if_pos h2]
   refine aa (wpAny_pure ?_)
   rw [mK]
   refine aa (wpAny_pure ?_)
   dsimp only
   refine aa (eY ho6 rfl ?_)
   rw [uQ]
   refine aa (cZ ho6 rfl ?_ (aJ _) (by rw [av,bE];omega))
   simp only [bne_self_eq_false,cp,if_false]
   rw [av] at h2
   exact wpAny_pure (fin _ (nI _) (h1 h2) _ (by rw [ui]))
  ·rw [if_neg h2,if_neg h2]
   rw [av] at h2
   refine aa (aZ (hk ∅ h6 keep6 (λκ' s'=>κ'=κ/\s'={ s with heap:=h6 }) ⟨rfl,rfl⟩) (λκ' s' q=>?_) λ_ _ x=>x.elim)
   obtain ⟨rfl,rfl⟩:=q
   refine aa (aZ (kat_run (ks:=its) (vs:=its) (κ:=κ') (G:=λp s'=>(qt its.length p/\G p.toList)/\s'={ s with heap:=h6 }) (Q:=λst' s'=>∃p:Array Nat,arrOf st'=p.map (AR (its.toArray.zip its.toArray))/\t8 st'=none/\(qt its.length p/\G p.toList)/\s'={ s with heap:=h6 })
    rfl ∅ h64 (λp st' s' a1 a2 a3 a4=>⟨p,a2,a3,a4⟩) (xa.wp (I:=λs'=>s'={ s with heap:=h6 }) (λi j C s' hi hj hI hC=>?_) (λp s' hp hI=>⟨hp,hI⟩) (hs ∅) rfl)) ?_ λ_ _ e=>e)
   ·subst hI
    exact hc h6 keep6 i j hi hj C (hC _ rfl)
   ·rintro ⟨⟨⟩,st'⟩ s' ⟨p,har,hf,⟨hP,hG⟩,rfl⟩
    dsimp only
    have hout:=AS (ks:=its) (vs:=its) rfl har
    have hz:(pQ (p.toList.map λi=>its.getD i aU)).size=its.length:=by rw [av,ah,cw,hP.size]
    rw [hout]
    refine aa (eY ho6 rfl ?_)
    refine aa (cZ ho6 rfl ?_ (aJ _) (by rw [hz,bE];omega))
    rw [hf]
    simp only [bne_self_eq_false,cp,if_false]
    exact wpAny_pure (fin p.toList (by have:=Array.perm_iff_toList_perm.mp hP;simpa using this) hG _ rfl)
theorem ZI {v:aj}{Q:aj->Shared->Prop}(hcol:ax (aE prog w) A.in1 (collect v) (λits s1=>ax (aE prog w) A.in1 (pM its >>= λl=>ef [l] (call (.builtin "list.sort") [l] []) >>= λ_=>ret l) (λfin s'=>∃v,fin = .done (.ret v)/\Q v s') E s1) E s) :
  ax (aE prog w) A (call (.builtin "sorted") [v]) Q E s:=by
 refine lF si pN pO (args_sorted1 _) ?_
 unfold eR.«sorted»
 refine aa (m:=sZ "sorted" 1 1 _) (wpAny_pure ?_)
 exact aa hcol
end
section
variable {X:Cx}
theorem Inv.laidN {h':Heap}{a:Addr}{t':Nat}(I:Inv X pins σ H s) (k:∀b u,s.heap.get? b=some u->h'.get? b=some u) (hn:s.heap.get? a=none) (new:H a=none->qo X.prog X.w (upd H a o) h' a o):H a=none/\Inv X pins σ (upd H a o) { s with heap:=h',toks:=t' }:=by
 have hH:H a=none:=by
  cases q:H a with
  | none=>rfl
  | some u =>
   obtain ⟨ob,e⟩:=gW (I.hok a u q)
   rw [hn] at e
   cases e
 have ne:∀{b u},s.heap.get? b=some u->b≠a:=λe z=>by rw [z,hn] at e;cases e
 refine ⟨hH,I.un ⟨λb u q _ _ _=>k b u q,λb u q _ _ _=>⟨u.slots,k b u q⟩,λb u q n _=>by rw [j7 (ne q)];exact n,λb u q _=>⟨u,k b u q⟩,λb xs q=>by rw [j7 (j1 q hH)];exact q,λb u xs q=>by rw [j7 (j1 q hH)];exact q,λb ps q=>⟨#[],by rw [j7 (j1 q hH),q];simp⟩⟩ λb u e=>?_⟩
 by_cases hb:b=a
 ·subst hb;rw [j6] at e;cases e;exact new hH
 ·rw [j7 hb] at e
  exact (I.hok b u e).stay (λc v _ q=>k c v q) (λc q=>by rw [j7 (j1 q hH)];exact q) λc xs q=>by rw [j7 (j1 q hH)];exact q
theorem Qd (K:ag) (hca:X.calm=true) (hK:X.K=K:=by rfl):xh X (.builtin "sorted") (λxs H Q=>∃(p:Addr) (kvs:List (Key×V)) (ns:List Int),xs=[.ref p]/\H p=some (.dK kvs)/\kvs.map (·.1)=ns.map dY/\ns.length<64 /\
  ∀(l:Addr) H' (ns':List Int),H l=none->H' l=some (.lst (ns'.map V.int))->jj H H'->ns'.Perm ns->ns'.Pairwise (· <= ·)->Q (.ref l) H'):=by
 subst hK
 intro pins s σ H xs us Q I r h
 obtain ⟨p,kvs,ns,rfl,hp0,hks,h64,k⟩:=h
 obtain ⟨u,rfl,ru⟩:=vQ r
 cases ru
 obtain ⟨hz,lo,vs,kv,dd⟩:=UN I.hok hp0
 obtain ⟨ep,hat⟩:=dd.dictAt
 have hvl:vs.length=ns.length:=by
  have e1:kvs.length=vs.length:=aT kv
  have e2:=congrArg fI hks
  rw [ah,ah] at e2
  omega
 refine ZI (kdu_collect (kdl_dict (knd:=jJ X.prog X.w) (kvs:=vs) (ep:=ep) lo) (I.ok.hd hca) hat (dZ (jh ∅)) λh1 tk acc hk1 hacc=>?_)
 have hal:acc.toList.length=ns.length:=by rw [cw,hacc.1,hvl]
 have item:∀i,i<acc.toList.length->∃t,acc.toList.getD i aU = .int (ns.getD i 0) t:=λi hi=>by
  have hi2:i<acc.size:=by rw [cw] at hi;exact hi
  obtain ⟨key,x,hx,his⟩:=hacc.2 i acc[i] (lH hi2)
  have hi3:i<kvs.length:=by
   have e1:kvs.length=vs.length:=aT kv
   omega
  obtain ⟨q,hq,e1,_⟩:=Paired.get kv (af hi3)
  rw [hx] at hq
  cases hq
  have e2:(kvs.map (·.1))[i]? = some key:=by rw [aA,af hi3];exact congrArg some e1
  have hin:i<ns.length:=∅
  rw [hks,aA,af hin] at e2
  cases e2
  obtain ⟨t,et⟩:=lJ his
  refine ⟨t,?_⟩
  rw [ao,mU,lH hi2,et,ao,af hin]
  rfl
 generalize acc.toList=its at hal item
 refine Xo (s:={ s with heap:=h1,toks:=tk }) (κ:=oneType') (lt:=ltK Ww λi=>ns.getD i 0) (G:=λix=>(ix.map λi=>ns.getD i 0).Pairwise Ww.kle) ∅ (λh2 h' hk' Q' q=>?_) (λh' hk' i j hi hj Q' q=>?_) (λh2=>?_) (λh1=>?_) λix h' n hp hg hk' hn=>?_
 ·refine kas_kind (T:=.type "int") h2 (λv hv=>?_) rfl rfl q
  obtain ⟨i,hi,rfl⟩:=List.mem_iff_getElem.mp hv
  obtain ⟨t,e1⟩:=item i hi
  have e3:its[i] = .int (ns.getD i 0) t:=by rw [<- e1];simp [hi]
  rw [e3]
  exact tN rfl
 ·obtain ⟨t,e1⟩:=item i hi
  obtain ⟨u,e2⟩:=item j hj
  rw [e1,e2]
  exact kat_lt_int q
 ·exact Jb ∅ λp' hP hS=>⟨hP,hS.pairwise hP.size⟩
 ·have hcase:its.length=0\/its.length=1:=∅
  rcases hcase with z | z
  ·rw [z];exact fY
  ·rw [z];exact dQ _ _
 ·have hn0:s.heap.get? h1.objs.size=none:=by
   cases q:s.heap.get? h1.objs.size with
   | none=>rfl
   | some u=>exact absurd (aw (hk1 _ _ q)) (cK _)
  have hv:jE ((ix.map λi=>ns.getD i 0).map V.int) (ix.map λi=>its.getD i aU):=by
   have hb:∀i∈ix,i<its.length:=λi hi=>by have:=hp.mem_iff.mp hi;simpa using this
   clear hp hg hn
   induction ix with
   | nil=>exact .nil
   | cons i ix ih =>
    obtain ⟨t,e⟩:=item i (hb i aB)
    exact .cons ⟨t,e⟩ (ih λj hj=>hb j (aF _ hj))
  have hns:((aI its.length).map λi=>ns.getD i 0)=ns:=by
   apply mh
   ·simp [hal]
   ·intro i h1 h2
    simp [h2]
  have hsz:((ix.map λi=>ns.getD i 0).map V.int).length<=sizeLine:=by
   rw [ah,ah,hp.length_eq,bp]
   exact aH (by omega:its.length<=1000) ⋯
  obtain ⟨hf,J⟩:=Inv.laidN (o:=.lst ((ix.map λi=>ns.getD i 0).map V.int)) (t':=tk) I (λb o e=>hk' b o (hk1 b o e)) hn0 λ_=>⟨hsz,_,n,hv,hn⟩
  refine ⟨.ref _,upd H h1.objs.size (.lst ((ix.map λi=>ns.getD i 0).map V.int)),J,rfl,k _ _ _ hf j6 (jj.new hf) ?_ ?_⟩
  ·have:=hp.map λi=>ns.getD i 0
   rw [hns] at this
   exact this
  ·exact List.Pairwise.imp (R:=Ww.kle) (λ{a b} z=>Uq z) hg
end
end L2
end
section
namespace L2
open PySem.W
theorem Inv.freeze {X:Cx}{kvs:List (Key×V)}(I:Inv X pins σ H s) (e:H a=some (.dK kvs)) (ho:s.heap.get? a=some o):Inv X pins σ (upd H a (.frz o (.dK kvs))) s:=by
 refine I.un (t':=s.toks) ⟨λb u q _ _ _=>q,λb u q _ _ _=>⟨u.slots,q⟩,λb u q n _=>?_,λb u q _=>⟨u,q⟩,λb xs q=>?_,λb u xs q=>?_,λb ps q=>⟨#[],?_⟩⟩ λb u q=>?_
 ·rw [j7 (λz=>by rw [z,e] at n;cases n)];exact n
 ·rw [j7 (jn q e (by intro z;cases z))];exact q
 ·rw [j7 (jn q e (by intro z;cases z))];exact q
 ·rw [j7 (jn q e (by intro z;cases z)),q];simp
 ·by_cases hb:b=a
  ·subst hb
   rw [j6] at q
   cases q
   exact ⟨ho,I.hok _ _ e⟩
  ·rw [j7 hb] at q
   exact (I.hok b u q).stay (λc v _ q=>q) (λc q=>by rw [j7 (jn q e (by intro z;cases z))];exact q) λc xs q=>by rw [j7 (jn q e (by intro z;cases z))];exact q
noncomputable def Itd (a:Addr) (o:Obj) (kvs:List (Key×V)):It :=
 ⟨λi H=>H a=some (.frz o (.dK kvs))/\i<kvs.length,λi H x H'=>H'=H/\∃q,kvs[i]? = some q/\x=kV q.1,λi H=>H a=some (.frz o (.dK kvs))/\kvs.length<=i⟩
theorem relK {k:Key}(h:(jJ P w).is k v=true):jF (kV k) v:=by
 cases k with
 | inl i=>exact lJ h
 | inr x=>exact oj h
theorem YC {K:ag}{a it:Addr}{vs:List (Key×aj)}{ep:Nat}(kv:KV kvs vs) (HD:∀h:Heap,h.get? a=some o->h.DictAt (jJ P w) a vs ep):Turn P w K tg (Itd a o kvs) [it] it (λi h=>h.IsKeyIter it a i vs.length ep) where
 mem:=by simp
 obj:=λi h st b hb=>by
  have e:b=it:=by simpa using hb
  subst e
  obtain ⟨o,e,c,d⟩:=st
  exact ⟨o,e,λv z=>by rw [d] at z;cases z⟩
 keep:=λi h h' st k=>st.at λo e=>k it (by simp) o e
 item:=by
  intro X hP hw hK hc i pins s σ H E I hf st hg
  subst hP hw hK
  obtain ⟨hq,hi⟩:=hg
  have hat:=HD s.heap (I.hok _ _ hq).1
  have hl:kvs.length=vs.length:=aT kv
  obtain ⟨f0,f1,f2,f3,f4,f5⟩:=hf it (by simp)
  obtain ⟨⟨k,x⟩,hx,ek,_⟩:=Paired.get kv (af hi)
  refine wpAny_pyNext_dict_item st hat hx λkey h' hkey st' sb=>?_
  have I1:Inv X pins σ H { s with heap:=h' }:=I.turned (t':=s.toks) (λb o hb e=>(sb.2 b hb).trans e) f0 f1 f3 f4 f5
  obtain ⟨ob,e,c,d⟩:=id st'
  exact ⟨key,rfl,Jr (s:={ s with heap:=h' }) e c d ⋯ ⟨kV k,H,I1,relK hkey,⟨rfl,_,af hi,by rw [show (kvs[i]'hi).1=k from ek]⟩,st',λb hb=>(hf b hb).1⟩⟩
 done:=by
  intro X hP hw hK hc i pins s σ H E I hf st hg
  subst hP hw hK
  obtain ⟨hq,hi⟩:=hg
  have hat:=HD s.heap (I.hok _ _ hq).1
  have hl:kvs.length=vs.length:=aT kv
  obtain ⟨f0,f1,f2,f3,f4,f5⟩:=hf it (by simp)
  exact wpAny_pyNext_dict_end (I.ok.hd hc) st hat (by simp;omega) λh' eb=>⟨rfl,I.turned (t':=s.toks) (λb o hb e=>eb b o hb e) f0 f1 f3 f4 f5⟩
 self:=λ_ _ _ _ _ st h=>wpAny_pyIter_keyiter st h
noncomputable def iDic (td:TE):TI:=λσ H R=>td σ H λx H1=>∃a kvs,x = .ref a/\((H1 a=some (.dK kvs)/\∀o,R (Itd a o kvs) (upd H1 a (.frz o (.dK kvs))))\/∃o,H1 a=some (.frz o (.dK kvs))/\R (Itd a o kvs) H1)
theorem k9 (hl:PE X l td):PI X tg l (iDic td):=by
 intro pins s σ H R I h
 refine thn (hl pins s σ H _ I h) λv s1 ⟨x,H1,I1,r1,a,kvs,e,q⟩=>?_
 subst e
 cases r1
 have main:∀{H2:Hp} {o:Obj},Inv X pins σ H2 s1->H2 a=some (.frz o (.dK kvs))->R (Itd a o kvs) H2->ax (aE X.prog X.w) X.A (lR (.ref a)) (PIE X pins σ tg R) X.xe s1:=λ{H2 o} I2 e2 q2=>by
  have ho:=(I2.hok _ _ e2).1
  obtain ⟨hz,lo,vs,kv,dd⟩:=wF I2.hok (.inr ⟨o,e2⟩)
  obtain ⟨ep,ob,es,h1,hrest⟩:=dd.dictAt
  rw [ho] at h1
  cases h1
  have HD:∀h:Heap,h.get? a=some o->h.DictAt (jJ X.prog X.w) a vs ep:=λh e=>⟨o,es,e,hrest⟩
  refine wpAny_pyIter_dict lo (HD _ ho) ?_
  refine ⟨s1.heap.objs.size,[s1.heap.objs.size],_,_,H2,rfl,I2.kept (t':=s1.toks) λb o e=>ai _ e,YC kv HD,⟨_,ay _ rfl,rfl,rfl⟩,λb hb=>?_,q2⟩
  have e:b=s1.heap.objs.size:=by simpa using hb
  subst e
  exact I2.fpOk (ar _) (I2.hok.fresh (ar _))
 rcases q with ⟨e1,q1⟩ | ⟨o,e1,q1⟩
 ·obtain ⟨hz,lo,vs,kv,dd⟩:=wF I1.hok (.inl e1)
  obtain ⟨ep,ob,es,h1,hrest⟩:=dd.dictAt
  exact main (I1.freeze e1 h1) j6 (q1 ob)
 ·exact main I1 e1 q1
theorem Xi {kvs:List (Key×V)}{g:TG}{tb:TS}{D:Ends}{σ:St}{H:Hp}(Pv:Nat->St->Hp->Prop) (h0:Pv 0 σ H) (hl:∀i σ H,i<=kvs.length->Pv i σ H->H a=some (.frz o (.dK kvs)))
  (hs:∀i q σ H,kvs[i]? = some q->Pv i σ H->g (kV q.1) σ H λσ2 H2=>tb { D with nx:=Pv (i+1),ct:=Pv (i+1),bk:=D.nx } σ2 H2) (hd:∀σ H,Pv kvs.length σ H->D.nx σ H) :
  ∃W:Nat->Nat->St->Hp->Prop,(∃m,W 0 m σ H)/\∀i m σ H,W i m σ H ->
   ((Itd a o kvs).stop i H/\D.nx σ H)\/((Itd a o kvs).go i H/\∃N:St->Hp->Prop,(∀σ' H',N σ' H'->∃m',m'<m/\W (i+1) m' σ' H')/\∀x H',(Itd a o kvs).yld i H x H'->g x σ H' λσ2 H2=>tb { D with nx:=N,ct:=N,bk:=D.nx } σ2 H2):=by
 refine ⟨λi m σ H=>m=kvs.length-i/\i<=kvs.length/\Pv i σ H,⟨kvs.length,by simp,aJ _,h0⟩,?_⟩
 rintro i m σ H ⟨rfl,hi,p⟩
 have q:=hl i σ H hi p
 by_cases hlt:i<kvs.length
 ·refine .inr ⟨⟨q,hlt⟩,Pv (i+1),λσ' H' p'=>⟨kvs.length-(i+1),∅,rfl,hlt,p'⟩,λx H' y=>?_⟩
  obtain ⟨e,z,hz,ex⟩:=y
  subst e ex
  exact hs i z σ _ hz p
 ·obtain rfl:i=kvs.length:=∅
  exact .inl ⟨⟨q,ar _⟩,hd σ H p⟩
theorem VB {kvs:List (Key×V)}{g:TG}{ti:TT}{te:TE}{R:Hp->Prop}{σ:St}{H:Hp}(Pv:Nat->St->Hp->Prop) (h0:Pv 0 σ H) (hl:∀i σ H,i<=kvs.length->Pv i σ H->H a=some (.frz o (.dK kvs)))
  (hs:∀i q σ H,kvs[i]? = some q->Pv i σ H->g (kV q.1) σ H λσ3 H3=>ti σ3 H3 λok H4=>if ok=true then te σ3 H4 λv H5=>∃ys,H5 acc=some (.lst ys)/\ys.length<sizeLine/\Pv (i+1) σ3 (upd H5 acc (.lst (ys++[v]))) else Pv (i+1) σ3 H4)
  (hd:∀σ H,Pv kvs.length σ H->R H) :
  ∃W:Nat->Nat->St->Hp->Prop,(∃m,W 0 m σ H)/\∀i m σ' H',W i m σ' H' ->
   ((Itd a o kvs).stop i H'/\R H')\/((Itd a o kvs).go i H'/\∃NX:St->Hp->Prop,(∀σ2 H2,NX σ2 H2->∃m',m'<m/\W (i+1) m' σ2 H2) /\
    ∀x H2,(Itd a o kvs).yld i H' x H2->g x σ' H2 λσ3 H3=>ti σ3 H3 λok H4=>if ok=true then te σ3 H4 λv H5=>∃ys,H5 acc=some (.lst ys)/\ys.length<sizeLine/\NX σ3 (upd H5 acc (.lst (ys++[v]))) else NX σ3 H4):=by
 refine ⟨λi m σ H=>m=kvs.length-i/\i<=kvs.length/\Pv i σ H,⟨kvs.length,by simp,aJ _,h0⟩,?_⟩
 rintro i m σ H ⟨rfl,hi,p⟩
 have q:=hl i σ H hi p
 by_cases hlt:i<kvs.length
 ·refine .inr ⟨⟨q,hlt⟩,Pv (i+1),λσ' H' p'=>⟨kvs.length-(i+1),∅,rfl,hlt,p'⟩,λx H' y=>?_⟩
  obtain ⟨e,z,hz,ex⟩:=y
  subst e ex
  exact hs i z σ _ hz p
 ·obtain rfl:i=kvs.length:=∅
  exact .inl ⟨⟨q,ar _⟩,hd σ H p⟩
end L2
end
section
namespace L2
open PySem.W
theorem Vo {K:ag}(it:Addr) (lo:Int) (n:Nat):Turn P w K tg (Itr lo n) [it] it (λi h=>IsLongIter h it (lo+(i:Nat)*1) ((n:Int)-(i:Nat)) 1) where
 mem:=by simp
 obj:=λi h st b hb=>by
  have e:b=it:=by simpa using hb
  subst e
  exact ⟨_,st,λv z=>by
   have z':nk _=m7 v:=z
   cases z'⟩
 keep:=λi h h' st k=>k it (by simp) _ st
 item:=by
  intro X hP hw hK hc i pins s σ H E I hf st hg
  subst hP hw hK
  obtain ⟨f0,f1,f2,f3,f4,f5⟩:=hf it (by simp)
  have W:=Walks.longrange (prog:=X.prog) (w:=X.w) (I.ok.hd hc) it lo 1 n
  refine W.item i s _ _ hg st λv h' tk hv st' kk=>?_
  obtain ⟨t,rfl⟩:=hv
  have I1:Inv X pins σ H { s with heap:=h',toks:=tk }:=I.turned (λb o hb e=>kk b o (by simpa using hb) e) f0 f1 f3 f4 f5
  refine ⟨_,rfl,Jr (s:={ s with heap:=h',toks:=tk }) (n:="longrange_iterator") st' rfl rfl ⋯ ⟨.int (lo+i),H,I1,⟨t,?_⟩,⟨rfl,rfl⟩,st',λb hb=>(hf b hb).1⟩⟩
  rw [Int.mul_one]
 done:=by
  intro X hP hw hK hc i pins s σ H E I hf st hg
  subst hP hw hK
  obtain ⟨f0,f1,f2,f3,f4,f5⟩:=hf it (by simp)
  exact wpAny_pyNext_long_end (I.ok.hd hc) st (by have:n<=i:=hg;omega) λh' eb=>⟨rfl,I.turned (t':=s.toks) (λb o hb e=>eb b o hb e) f0 f1 f3 f4 f5⟩
 self:=λ_ _ _ _ _ st h=>wpAny_pyIter_longiter st h
section
variable {X:Cx}{tg:Expr}
theorem YO {R:It->Hp->Prop}{lo hi:Int}{t:Tok}{tk:Nat}(I:Inv X pins σ H s)
  (q:R (Itr lo (hi-lo).toNat) H):ax (aE X.prog X.w) X.A (lR (.ref s.heap.objs.size)) (PIE X pins σ tg R) E { s with heap:=s.heap.push { cls:=.type "range",data:=.fields #[.int lo t,.int hi u,.int 1 v] },toks:=tk }:=by
 have I1:Inv X pins σ H { s with heap:=s.heap.push { cls:=.type "range",data:=.fields #[.int lo t,.int hi u,.int 1 v] },toks:=tk }:=I.kept λb o e=>ai _ e
 have e1:lo+((0:Nat):Int)*1=lo:=by simp
 have e2:(((hi-lo).toNat:Nat):Int)-((0:Nat):Int)=m8 lo hi 1:=by rw [tJ];split <;> omega
 have fp:∀b∈[(s.heap.push { cls:=.type "range",data:=.fields #[.int lo t,.int hi u,.int 1 v] }).objs.size],_:=λb hb=>by
  have e:b=(s.heap.push { cls:=.type "range",data:=.fields #[.int lo t,.int hi u,.int 1 v] }).objs.size:=by simpa using hb
  subst e
  exact I1.fpOk (ar _) (I1.hok.fresh (ar _))
 by_cases sm:Builtin.Range.small lo hi 1=true
 ·refine oJ (rV ..) sm ?_
  refine ⟨(s.heap.push { cls:=.type "range",data:=.fields #[.int lo t,.int hi u,.int 1 v] }).objs.size,[(s.heap.push { cls:=.type "range",data:=.fields #[.int lo t,.int hi u,.int 1 v] }).objs.size],_,_,H,rfl,
   I1.kept (t':=tk) λb o e=>ai _ e,gC _ lo (hi-lo).toNat,?_,fp,q⟩
  show rT _ _ (lo+((0:Nat):Int)*1) ((((hi-lo).toNat:Nat):Int)-((0:Nat):Int)) 1
  rw [e1,e2]
  exact ay _ rfl
 ·refine wpAny_pyIter_longrange (rV ..) (by simpa using sm) ?_
  refine ⟨(s.heap.push { cls:=.type "range",data:=.fields #[.int lo t,.int hi u,.int 1 v] }).objs.size,[(s.heap.push { cls:=.type "range",data:=.fields #[.int lo t,.int hi u,.int 1 v] }).objs.size],_,_,H,rfl,
   I1.kept (t':=tk) λb o e=>ai _ e,Vo _ lo (hi-lo).toNat,?_,fp,q⟩
  show IsLongIter _ _ (lo+((0:Nat):Int)*1) ((((hi-lo).toNat:Nat):Int)-((0:Nat):Int)) 1
  rw [e1,e2]
  exact ay _ rfl
noncomputable def Aw (ta:TA):TI:=λσ H R=>ta σ H λvs H1=>∃i j:Int,vs=[.int i,.int j]/\R (Itr i (j-i).toNat) H1
theorem Vx {a b:Expr}{p pos:Pos}(hg:Gl X "range") (hm:X.mg "range" = none) (ha:PA X [a,b] ta) (hs:aP [a,b] X.env=[(false,eval a X.env),(false,eval b X.env)]:=by rfl) (hs2:aP [b] X.env=[(false,eval b X.env)]:=by rfl) :
  PI X tg (.Call (.Name "range" p) [a,b] [] pos) (Aw ta):=by
 intro pins s σ H R I h
 refine AZ (yN I hg hm sQ (cf (thn (ha pos pins s σ H _ I h) λus s1 ⟨vs,H1,I1,r1,q1⟩=>?_) (by rw [hs,hs2]) (by rw [hs2];rfl)))
 obtain ⟨i,j,e,q⟩:=q1
 subst e
 cases r1 with
 | cons r rr =>
  cases rr with
  | cons r' rr =>
   cases rr
   obtain ⟨t,rfl⟩:=r
   obtain ⟨t',rfl⟩:=r'
   exact call_range_2 (YO I1 q)
end
end L2
end
section
namespace L2
open PySem.W
noncomputable def Fz (a:Addr) (kvs:List (Key×V)) (o:Obj) (H H4:Hp):Prop:=H4 a=some (.frz o (.dK kvs))/\(H4=H\/(H a=some (.dK kvs)/\H4=upd H a (.frz o (.dK kvs))))
theorem Fz.at {kvs:List (Key×V)}(f:Fz a kvs o H H4) (h:H c=some u) (n:c≠a):H4 c=some u:=by
 rcases f.2 with rfl | ⟨_,rfl⟩
 ·exact h
 ·rw [j7 n];exact h
theorem wv {g:TG}{tb:TS}{D:Ends}{σ:St}{H:Hp}(h:Rd H a (.dK kvs)) (Pv:Obj->Nat->St->Hp->Prop) (h0:∀o H4,Fz a kvs o H H4->Pv o 0 σ H4) (hl:∀o i σ H,i<=kvs.length->Pv o i σ H->H a=some (.frz o (.dK kvs)))
  (hs:∀o i q σ H,kvs[i]? = some q->Pv o i σ H->g (kV q.1) σ H λσ2 H2=>tb { D with nx:=Pv o (i+1),ct:=Pv o (i+1),bk:=D.nx } σ2 H2) (hd:∀o σ H,Pv o kvs.length σ H->D.nx σ H) :
  ∃a' kvs',V.ref a = .ref a'/\((H a'=some (.dK kvs')/\∀o,∃W:Nat->Nat->St->Hp->Prop,(∃m,W 0 m σ (upd H a' (.frz o (.dK kvs'))))/\∀i m σ H,W i m σ H ->
   ((Itd a' o kvs').stop i H/\D.nx σ H)\/((Itd a' o kvs').go i H/\∃N:St->Hp->Prop,(∀σ' H',N σ' H'->∃m',m'<m/\W (i+1) m' σ' H')/\∀x H',(Itd a' o kvs').yld i H x H'->g x σ H' λσ2 H2=>tb { D with nx:=N,ct:=N,bk:=D.nx } σ2 H2)) \/
   ∃o,H a'=some (.frz o (.dK kvs'))/\∃W:Nat->Nat->St->Hp->Prop,(∃m,W 0 m σ H)/\∀i m σ H,W i m σ H ->
   ((Itd a' o kvs').stop i H/\D.nx σ H)\/((Itd a' o kvs').go i H/\∃N:St->Hp->Prop,(∀σ' H',N σ' H'->∃m',m'<m/\W (i+1) m' σ' H')/\∀x H',(Itd a' o kvs').yld i H x H'->g x σ H' λσ2 H2=>tb { D with nx:=N,ct:=N,bk:=D.nx } σ2 H2)):=by
 rcases h with h | ⟨o,h⟩
 ·exact ⟨a,kvs,rfl,.inl ⟨h,λo=>Xi (a:=a) (o:=o) (kvs:=kvs) (Pv o) (h0 o _ ⟨j6,.inr ⟨h,rfl⟩⟩) (hl o) (hs o) (hd o)⟩⟩
 ·exact ⟨a,kvs,rfl,.inr ⟨o,h,Xi (a:=a) (o:=o) (kvs:=kvs) (Pv o) (h0 o _ ⟨h,.inl rfl⟩) (hl o) (hs o) (hd o)⟩⟩
end L2
end
section
namespace L2
open PySem.W
section
variable {prog:Program}{w:bx}{A:bz}{E:aj->Shared->Prop}{s:Shared}
theorem WT:oO (.type "list") "keys" = pure none:=by rw [typeLookup_type,builtinLookup_eq_fast];kernel_rfl
theorem Vp {a:Addr}{o:Obj}{k:Nat}{Q:Option aj->Shared->Prop}(hx:s.heap.get? a=some o) (hc:o.cls = .type "list") (hdat:o.data = .seq xs k) (hd:o.dict=none) (hA:A.handled=none)
  (h:∀h' tk,(∀b o,s.heap.get? b=some o->h'.get? b=some o)->Q none { s with heap:=h',toks:=tk }):ax (aE prog w) A (tD (.ref a) "keys") Q E s:=by
 obtain ⟨c,dct,dat,sl⟩:=o
 simp only at hc hdat hd
 subst hc hdat hd
 obtain ⟨hp,g,d,tk,os⟩:=s
 have hT:∀tk',(⟨hp,g,d,tk',os⟩:Shared).TypeIs (.ref a) "list":=λ_=>⟨_,hx,rfl⟩
 have f1:=sub_AttributeError
 have f3:=F.slot_list_getattribute.lookup
 have f4:=F.slot_list_getattribute.bind (.ref a)
 have f5:=am_list_getattr_none
 unfold tD getAttrBy? getAttrBy
 repeat (any_goals (first | assumption | exact hT _ | ((with_reducible show ax _ _ (call (iC "list.__getattribute__") _ _) _ _ _);refine my F.slot_list_getattribute (hT _) am_entry_list_getattribute (F.args_list_getattribute_2 _ _) (meets_getattribute_miss_list a xs k sl "keys" _ WT (by decide +kernel) ⋯) ⟨hx,hA,λh' tk' e hx'=>?_⟩) | wp_step))
 obtain ⟨t',u',he⟩:=hx'.there
 show ax _ _ (oZ _ _ _ _ _ _ _) _ _ _
 unfold oZ
 repeat (any_goals (first | assumption | wp_step))
 exact h h' tk' hx'.of.keeps
end
theorem wP:entryFor table "dict.update.loop" = some eR.«dict.update.loop»:=entryFor_of_tree (by kernel_rfl)
theorem zM:plainId "dict.update.loop" = true:=by decide +kernel
section
variable {prog:Program}{w:bx}{A:bz}{R:oK->Shared->Prop}{d it l:Addr}{items:Array aj}{qs:List (Key×aj×aj)}
noncomputable def QF (d it:Addr) (items:Array aj) (qs:List (Key×aj×aj)) (h:Heap):Prop:=∀(i:Nat) (q:Key×aj×aj),qs[i]? = some q->∃b:Addr,items[i]? = some (.ref b)/\b≠d/\b≠it/\h.IsTuple b #[q.2.1,q.2.2]
theorem QF.keep {h':Heap}(x:QF d it items qs h) (k:∀b o,b≠d->b≠it->h.get? b=some o->h'.get? b=some o):QF d it items qs h':=λi q hq=>by
 obtain ⟨b,h1,h2,h3,o,ho,r⟩:=x i q hq
 exact ⟨b,h1,h2,h3,o,k b o h2 h3 ho,r⟩
theorem Vs (hh:A.handled=none) (hld:l≠d) (hli:l≠it) (hdi:d≠it) (hsz:qs.length<=sizeLine) (hk:∀q∈qs,(jJ prog w).is q.1 q.2.1=true) (nd:(qs.map (·.1)).Nodup) (hn:items.size=qs.length) :
  ∀(n i:Nat) (s:Shared),qs.length-i=n->i<=qs.length->s.heap.IsListIter it l i->s.heap.IsList l items->QF d it items qs s.heap->s.heap.DictOf (jJ prog w) d ((qs.take i).map λq=>(q.1,q.2.2)) ->
   (∀h' tk,(∀b o,b≠d->b≠it->s.heap.get? b=some o->h'.get? b=some o)->h'.DictOf (jJ prog w) d (qs.map λq=>(q.1,q.2.2))->R (.ok (.ret .none)) { s with heap:=h',toks:=tk }) ->
   cU (aE prog w) A (.builtin "dict.update.loop" ⟨[.ref d,.ref it,cc i,.none],[]⟩) R s:=by
 have hh1:A.in1.handled=none:=by simp [hh]
 intro n
 induction n with
 | zero =>
  intro i s e hi st hl ht hd hR
  obtain rfl:i=qs.length:=∅
  refine fE wP ?_
  rw [eX zM _]
  show ax _ A.in1 (eP (.ref it) >>= _) _ _ s
  refine aa (mR hh1 st hl (by simp;omega) λh' eb=>?_)
  show ax _ A.in1 (Builtin.Dict.addKeywords d [] >>= _) _ _ _
  rw [aY] at hd
  exact aa (wpAny_pure (wpAny_pure (hR h' s.toks (λb o _ h2 h=>eb b o h2 h) (hd.extBut eb hdi))))
 | succ n ih =>
  intro i s e hi st hl ht hd hR
  have hlt:i<qs.length:=∅
  obtain ⟨⟨k,kv,v⟩,hq⟩:∃q,qs[i]? = some q:=⟨_,af hlt⟩
  obtain ⟨b,hb,bd,bi,hbt⟩:=ht i _ hq
  refine fE wP ?_
  rw [eX zM _]
  show ax _ A.in1 (eP (.ref it) >>= _) _ _ s
  refine aa (fR st hl hb λh1 st1 sb=>?_)
  have hbt1:h1.IsTuple b #[kv,v]:=by
   obtain ⟨o,ho,r⟩:=hbt
   exact ⟨o,(sb.2 b bi).trans ho,r⟩
  show ax _ A.in1 (ef [aV b] _ >>= _) _ _ _
  obtain ⟨ob,hob,hcb,nb,hdb⟩:=hbt1
  refine aa (bw (aa (wpAny_tryCatch ?_)))
  unfold Builtin.Dict.pairItems
  refine aa (fW (T:="tuple") ⟨ob,hob,hcb⟩ ?_)
  rw [if_pos ⋯]
  refine aa (cD hob hdb (wpAny_pure ?_))
  show ax _ A.in1 (ef [kv,v] (dictSet d kv v)) _ _ _
  have hd1:h1.DictOf (jJ prog w) d ((qs.take i).map λq=>(q.1,q.2.2)):=hd.sameBut sb hdi
  refine bw (wpAny_dictSet_pairs (s:={ s with heap:=h1 }) (hk _ (az hq)) hd1 (λh2 hd2 sd=>?_) (by rw [ah,aK];omega))
  refine wpAny_pure ⟨lV zM _,?_⟩
  have keep:∀c o,c≠d->c≠it->s.heap.get? c=some o->h2.get? c=some o:=λc o n1 n2 h=>(sd.2 c n1).trans ((sb.2 c n2).trans h)
  refine ih (i+1) { s with heap:=h2,toks:=s.toks+1 } ∅ ∅ ?_ ?_ (ht.keep keep) ?_ λh3 tk k3 d3=>?_
  ·obtain ⟨o,ho,r⟩:=st1
   exact ⟨o,(sd.2 it hdi.symm).trans ho,r⟩
  ·obtain ⟨o,ho,r⟩:=hl
   exact ⟨o,keep l o hld hli ho,r⟩
  ·have e:tZ ((qs.take i).map λq=>(q.1,q.2.2)) k v=(qs.take (i+1)).map λq=>(q.1,q.2.2):=by
    rw [tZ,if_neg,bS,hq]
    ·simp
    ·intro z
     obtain ⟨x,hx,ex⟩:=List.any_eq_true.mp z
     obtain ⟨u,hu,rfl⟩:=List.mem_map.mp hx
     have ex:u.1=k:=of_decide_eq_true ex
     obtain ⟨j,hj,ej⟩:=List.mem_iff_getElem.mp hu
     rw [aK] at hj
     rw [pV] at ej
     obtain ⟨_,eq⟩:=List.getElem?_eq_some_iff.mp hq
     have h1:(qs.map (·.1))[j]'(by rw [ah];omega)=(qs.map (·.1))[i]'(by rw [ah];exact hlt):=by rw [dS,dS,ej,eq,ex]
     exact absurd h1 (List.pairwise_iff_getElem.mp nd j i _ _ ∅)
   rw [<- e]
   exact hd2
  ·exact hR h3 tk (λc o n1 n2 h=>k3 c o n1 n2 (keep c o n1 n2 h)) d3
end
section
variable {prog:Program}{w:bx}{A:bz}{E:aj->Shared->Prop}{s:Shared}{l:Addr}{ol:Obj}{nl:Nat}{items:Array aj}{qs:List (Key×aj×aj)}
theorem Zc {Q:aj->Shared->Prop}(hh:A.handled=none) (ho:s.heap.get? l=some ol) (hc:ol.cls = .type "list") (hdt:ol.data = .seq items nl) (hdc:ol.dict=none) (hsz:qs.length<=sizeLine) (hk:∀q∈qs,(jJ prog w).is q.1 q.2.1=true) (nd:(qs.map (·.1)).Nodup) (hn:items.size=qs.length)
  (ht:∀(i:Nat) (q:Key×aj×aj),qs[i]? = some q->∃b:Addr,items[i]? = some (.ref b)/\s.heap.IsTuple b #[q.2.1,q.2.2])
  (h:∀h' tk,(∀b o,s.heap.get? b=some o->h'.get? b=some o)->h'.DictOf (jJ prog w) s.heap.objs.size (qs.map λq=>(q.1,q.2.2))->Q (.ref s.heap.objs.size) { s with heap:=h',toks:=tk }) :
  ax (aE prog w) A (call (.type "dict") [.ref l]) Q E s:=by
 refine callType_codes (Q₁:=λobj s₁=>obj = .ref s.heap.objs.size/\s₁={ s with heap:=s.heap.push { cls:=.type "dict",data:=.dict #[] } }) F.kt_called_dict (F.kt_typeCall_dict_1 _) F.entry_dict_init (kt_code_dict_new _ ⟨rfl,rfl⟩) ?_
 rintro obj s₁ ⟨rfl,rfl⟩
 have hnew:(s.heap.push { cls:=.type "dict",data:=.dict #[] }).DictOf (jJ prog w) s.heap.objs.size []:=sD s.heap
 have kp:∀b o,s.heap.get? b=some o->(s.heap.push { cls:=.type "dict",data:=.dict #[] }).get? b=some o:=λb o q=>ai _ q
 refine ⟨hnew.typeIs,F.args_dict_init_2 _ _,?_⟩
 have lt:∀b o,s.heap.get? b=some o->b≠s.heap.objs.size:=λb o q=>aC (aw q)
 unfold eR.«dict.__init__»
 refine aa ?_
 unfold Builtin.Dict.selfAndRest
 refine aa (wpAny_notOrdered_dict hnew.typeIs ?_)
 show ax _ _ (pure (s.heap.objs.size,[aV l])) _ _ _
 refine wpAny_pure ?_
 show ax _ _ (mm "dict.__init__" s.heap.objs.size (.ref l) [] .none) _ _ _
 unfold mm
 refine aa (fW (T:="list") ⟨_,kp _ _ ho,hc⟩ ?_)
 rw [if_pos ⋯]
 generalize hz:s.heap.push { cls:=.type "dict",data:=.dict #[] }=h0 at *
 refine aa (Vp (s:={ s with heap:=h0 }) (kp _ _ ho) hc hdt hdc (by simp [hh]) λh1 tk k1=>?_)
 rw [if_pos (show (none:Option aj).isNone=true from rfl)]
 have hl1:h1.IsList l items:=⟨ol,k1 _ _ (kp _ _ ho),hc,nl,hdt⟩
 refine aa (eB ?_)
 refine aa (dE (s:={ s with heap:=h1,toks:=tk }) hl1 (wpAny_pure ⟨lV zM _,?_⟩))
 obtain ⟨od,_,_,hod,_⟩:=id hnew
 have hi1:∀b o,h1.get? b=some o->b≠h1.objs.size:=λb o q=>aC (aw q)
 have kp2:∀b o,s.heap.get? b=some o->(h1.push { cls:=.type "list_iterator",data:=.fields #[.ref l,.int 0 0] }).get? b=some o:=λb o q=>ai _ (k1 _ _ (kp _ _ q))
 refine Vs (d:=s.heap.objs.size) (it:=h1.objs.size) (l:=l) (items:=items) (qs:=qs) (by simp [hh]) (lt _ _ ho) (hi1 _ _ (k1 _ _ (kp _ _ ho))) (hi1 _ _ (k1 _ _ hod)) hsz hk nd hn qs.length 0 _ ∅ (aJ _) ⟨_,ay _ rfl,rfl,rfl⟩ (hl1.push _) (λi q hq=>?_) ?_ λh' tk' k' d'=>?_
 ·obtain ⟨b,hb,o,hbo,r⟩:=ht i q hq
  exact ⟨b,hb,lt _ _ hbo,hi1 _ _ (k1 _ _ (kp _ _ hbo)),o,kp2 _ _ hbo,r⟩
 ·obtain ⟨o,es,ep,ho',r⟩:=hnew
  exact ⟨o,es,ep,ai _ (k1 _ _ ho'),r⟩
 ·exact ⟨rfl,h h' tk' (λb o q=>k' b o (lt _ _ q) (hi1 _ _ (k1 _ _ (kp _ _ q))) (kp2 _ _ q)) d'⟩
end
theorem wR {α β:Type}(P:Nat->α->β->Prop):∀(l:List α) (n:Nat),(∀(i:Nat) a,l[i]? = some a->∃b,P (n+i) a b)->∃bs:List β,bs.length=l.length/\∀(i:Nat) a b,l[i]? = some a->bs[i]? = some b->P (n+i) a b
 | [],n,_=>⟨[],rfl,λi a b h=>by simp at h⟩
 | x::r,n,h=>by
  obtain ⟨b,hb⟩:=h 0 x rfl
  obtain ⟨bs,hl,hbs⟩:=wR P r (n+1) λi a hi=>by
   have:=h (i+1) a (by simpa using hi)
   rwa [show n+1+i=n+(i+1) by omega]
  refine ⟨b::bs,by simp [hl],λi a b' h1 h2=>?_⟩
  cases i with
  | zero =>
   simp at h1 h2
   subst h1 h2
   exact hb
  | succ i =>
   have:=hbs i a b' (by simpa using h1) (by simpa using h2)
   rwa [show n+(i+1)=n+1+i by omega]
theorem JG {α β:Type}{F:α->β->Prop}:∀{l₁:List α}{l₂:List β},l₁.length=l₂.length->(∀(i:Nat) a b,l₁[i]? = some a->l₂[i]? = some b->F a b)->d0 F l₁ l₂
 | [],[],_,_=>.nil
 | [],_::_,h,_=>by simp at h
 | _::_,[],h,_=>by simp at h
 | x::r,y::t,h,k=>.cons (k 0 x y rfl rfl) (JG (by simpa using h) λi a b h1 h2=>k (i+1) a b (by simpa using h1) (by simpa using h2))
theorem ZA {X:Cx}(K:ag) (hca:X.calm=true) (hK:X.K=K:=by rfl):xh X (.type "dict") (λxs H Q=>∃(p:Addr) (out:List V) (ms:List (Int×Int)),xs=[.ref p]/\SqL K H p out/\d0 (λv (m:Int×Int)=>∃b,v=V.ref b/\H b=some (.tup [.int m.1,.int m.2])) out ms/\(ms.map (·.1)).Nodup/\ms.length<=1000 /\
  ∀(d:Addr) H',H d=none->H' d=some (.dK (ms.map λm=>(.inl m.1,.int m.2)))->jj H H'->Q (.ref d) H'):=by
 subst hK
 intro pins s σ H xs us Q I r h
 obtain ⟨p,out,ms,rfl,hq,hm,nd,h1000,k⟩:=h
 obtain ⟨u,rfl,ru⟩:=vQ r
 cases ru
 obtain ⟨its,rv,⟨ol,nl,ho,hc,hdc,hdt⟩,hz⟩:=I.list hq
 have hlen:out.length=ms.length:=aT hm
 have hits:out.length=its.length:=rv.length
 obtain ⟨qs,hql,hqs⟩:=wR (λi (m:Int×Int) (q:Key×aj×aj)=>∃(b:Addr) (t1 t2:Tok),q=(.inl m.1,.int m.1 t1,.int m.2 t2)/\its[i]? = some (.ref b)/\s.heap.IsTuple b #[.int m.1 t1,.int m.2 t2]) ms 0 λi m hi=>by
  rw [mC]
  have hio:i<out.length:=by rw [hlen];exact (List.getElem?_eq_some_iff.mp hi).1
  obtain ⟨m',hm',b,eb,hb⟩:=Paired.get hm (af hio)
  rw [hi] at hm'
  cases hm'
  obtain ⟨u,hu,ru⟩:=rv.get (af hio)
  rw [eb] at ru
  cases (show u=aV b from ru)
  obtain ⟨_,its',r',o,h1,h2,n,h3⟩:=(show qo X.prog X.w H s.heap b (.tup [.int m.1,.int m.2]) from I.hok b _ hb)
  cases r' with
  | cons p1 q1 =>
   cases q1 with
   | cons p2 q2 =>
    cases q2
    obtain ⟨t1,rfl⟩:=p1
    obtain ⟨t2,rfl⟩:=p2
    exact ⟨_,b,t1,t2,rfl,hu,o,h1,h2,n,h3⟩
 have get:∀(i:Nat) (q:Key×aj×aj),qs[i]? = some q->∃(m:Int×Int) (b:Addr) (t1 t2:Tok),ms[i]? = some m/\q=(.inl m.1,.int m.1 t1,.int m.2 t2)/\its[i]? = some (.ref b)/\s.heap.IsTuple b #[.int m.1 t1,.int m.2 t2]:=λi q hi=>by
  have him:i<ms.length:=by rw [<- hql];exact (List.getElem?_eq_some_iff.mp hi).1
  obtain ⟨b,t1,t2,e,h1,h2⟩:=hqs i _ q (af him) hi
  rw [mC] at h1
  exact ⟨_,b,t1,t2,af him,e,h1,h2⟩
 have keys:qs.map (·.1)=ms.map λm=>(dY m.1:Key):=by
  refine lP λi=>?_
  rw [aA,aA]
  cases e:qs[i]? with
  | none =>
   rw [List.getElem?_eq_none_iff] at e
   rw [List.getElem?_eq_none_iff.mpr ∅]
   rfl
  | some q =>
   obtain ⟨m,b,t1,t2,h1,h2,_⟩:=get i q e
   rw [h1,h2]
   rfl
 have ndk:(qs.map (·.1)).Nodup:=by
  rw [keys,show (ms.map λm=>(dY m.1:Key))=(ms.map (·.1)).map dY by rw [bZ];rfl]
  exact pW _ (λa b h e=>h (dW e)) nd
 have KVr:KV (ms.map λm=>((.inl m.1,.int m.2):Key×V)) (qs.map λq=>(q.1,q.2.2)):=by
  refine JG (by rw [ah,ah,hql]) λi a b h1 h2=>?_
  rw [aA] at h1 h2
  obtain ⟨q,hq',rfl⟩:=Option.map_eq_some_iff.mp h2
  obtain ⟨m,_,t1,t2,hm',e,_⟩:=get i q hq'
  rw [hm'] at h1
  cases h1
  subst e
  exact ⟨rfl,t2,rfl⟩
 refine Zc (qs:=qs) (I.ok.hd hca) ho hc hdt hdc (by rw [hql];exact aH h1000 ⋯) (λq hq'=>?_) ndk (by simp;omega) (λi q hi=>?_) λh' tk keep dd=>?_
 ·obtain ⟨i,hi,e⟩:=List.mem_iff_getElem.mp hq'
  obtain ⟨m,b,t1,t2,h1,h2,_⟩:=get i q (by rw [af hi,e])
  subst h2
  exact kU (k:=.inl m.1) ⟨t1,rfl⟩
 ·obtain ⟨m,b,t1,t2,h1,h2,h3,h4⟩:=get i q hi
  subst h2
  exact ⟨b,by simpa using h3,h4⟩
 ·have hf:=I.hok.fresh (ar s.heap.objs.size)
  exact ⟨.ref _,upd H s.heap.objs.size (.dK (ms.map λm=>((.inl m.1,.int m.2):Key×V))),I.laid (t':=tk) keep (ar _) (XX (by rw [ah];exact aH h1000 ⋯) (beq_eq_false_iff_ne.mpr (cF (aC I.big))) KVr dd),rfl,k _ _ hf j6 (jj.new hf)⟩
end L2
end
section
namespace L2
open PySem.W
noncomputable abbrev Cx.noX (X:Cx):Cx:={ X with xe:=λ_ _=>False }
section
variable {X:Cx}{pins:List (Addr×Obj)}{σ:St}{H:Hp}{s:Shared}
theorem Inv.toNoX (I:Inv X pins σ H s):Inv X.noX pins σ H s:=⟨okP I.ok _ rfl,I.os,I.bare,I.base,I.loc,I.cell,I.free,I.freeC,I.pin,I.hok,I.len⟩
theorem Inv.ofNoX (I:Inv X.noX pins σ H s):Inv X pins σ H s:=⟨okP I.ok _ rfl,I.os,I.bare,I.base,I.loc,I.cell,I.free,I.freeC,I.pin,I.hok,I.len⟩
theorem VM {st:Stmt}{t:TS}(h:PS X.noX st t):PS X st t:=λpins s σ H D I q=>thn (wpAny_noRaise (h pins s σ H D I.toNoX q)) λ_ _ z=>Ad (λI=>I.ofNoX) z
end
end L2
end
section
namespace K17
open L2
local macro_rules | `(tactic| walk_at "hp")=>`(tactic| first | assumption | exact j6 | (rw [j7 (by first | assumption | (apply cF;assumption))];first | assumption | exact j6))
local macro_rules | `(tactic| walk_at "num")=>`(tactic| first | decide | omega)
local macro_rules | `(tactic| walk_at "rd1")=>`(tactic| first | refine ⟨_,rfl,?_⟩ | refine ⟨_,_,rfl,rfl,?_⟩ | refine fP (show UH _ _ from iM ⟨by walk_at "num",by walk_at "num"⟩) ?_ | refine fP (show UH _ _ from aQ ⟨by walk_at "num",by walk_at "num"⟩) ?_ | refine fP (show Gz _ _ from ⟨by walk_at "num",by walk_at "num"⟩) ?_ | refine fP (show AF _ _ from ⟨by walk_at "num",by walk_at "num",by walk_at "num"⟩) ?_ | refine fP (show (0:Int)<_ by walk_at "num") ?_ | refine ⟨_,_,_,_,rfl,rfl,SqL.of (by walk_at "hp"),(by rfl),?_⟩ | refine ⟨_,_,_,_,rfl,rfl,SqT.of (by walk_at "hp"),(by rfl),?_⟩ | refine ⟨_,_,_,_,rfl,rfl,(by assumption),(by rfl),?_⟩ | refine ⟨_,_,_,_,rfl,rfl,(by walk_at "hp"),(by rfl),?_⟩ | refine ⟨rfl,?_⟩)
local macro_rules | `(tactic| walk_at "r")=>`(tactic| repeat walk_at "rd1")
local macro_rules | `(tactic| walk_at "s")=>`(tactic| exact ⟨rfl,rfl,rfl,by decide +kernel,rfl,by decide +kernel,by decide +kernel⟩)
local macro_rules | `(tactic| walk_at "k")=>`(tactic| decide +kernel)
local macro_rules | `(())=>`(by first | lia | omega)
local macro_rules | `(tactic| right)=>`(tactic| first | lia | omega)
local macro_rules | `(∅)=>`(by decide +kernel)
local macro_rules | `(tactic| walk_at "w")=>`(tactic| (intro _ z;cases z))
local macro_rules | `(tactic| walk_at "z")=>`(tactic| (intro z;cases z))
local macro_rules | `(tactic| left)=>`(tactic| walk_at "r")
noncomputable def top (i:Nat):Stmt:=PySem.Challenge.pw_firnfall_k17_piles_by_a_plain_walk.main.body.getD i (.Pass ⟨0,0,0,0⟩)
noncomputable abbrev ZS:Stmt:=top 2
noncomputable abbrev Qr:Stmt:=top 3
noncomputable abbrev zX:Stmt:=top 20
noncomputable abbrev yJ:Stmt:=top 21
noncomputable abbrev vX:Stmt:=top 22
noncomputable abbrev Qy:Stmt:=top 23
noncomputable abbrev xc:Stmt:=top 24
noncomputable abbrev uq:Stmt:=top 25
noncomputable abbrev gJ:Stmt:=top 26
noncomputable abbrev xG:Stmt:=top 27
noncomputable abbrev vC:Stmt:=top 28
noncomputable abbrev yE:Stmt:=top 33
noncomputable abbrev yO:Stmt:=top 34
noncomputable abbrev kT:Stmt:=top 35
noncomputable abbrev yG:Stmt:=top 40
noncomputable abbrev yc:Stmt:=top 41
noncomputable abbrev zY:Stmt:=top 42
noncomputable abbrev qO:Stmt:=(zr (top 43) 0)
noncomputable abbrev xL:Stmt:=(zr (top 43) 4)
noncomputable abbrev xr:Stmt:=(zr (top 43) 5)
noncomputable abbrev y9:Stmt:=(zr (top 43) 6)
noncomputable abbrev y4:Stmt:=(zr (top 43) 7)
noncomputable abbrev yY:Stmt:=(zr (top 43) 8)
noncomputable abbrev yB:Stmt:=(zr (top 43) 10)
noncomputable abbrev xT:Stmt:=(zr (top 43) 14)
noncomputable abbrev vW:Stmt:=(zr (top 43) 16)
noncomputable abbrev vB:Stmt:=top 45
noncomputable abbrev ug:Stmt:=top 46
noncomputable abbrev gL:Stmt:=top 47
noncomputable abbrev ZJ:Stmt:=top 48
noncomputable abbrev Z0:Stmt:=top 50
noncomputable abbrev kL:Stmt:=top 51
noncomputable abbrev Zd:Stmt:=top 52
noncomputable abbrev wn:Stmt:=top 54
noncomputable abbrev vt:Stmt:=top 55
noncomputable abbrev uf:Stmt:=top 56
noncomputable abbrev yZ:Stmt:=top 57
noncomputable abbrev zf:Stmt:=top 58
noncomputable abbrev uZ:Stmt:=top 59
noncomputable abbrev ya:Stmt:=top 60
noncomputable abbrev zT:Stmt:=top 61
noncomputable abbrev qv:Stmt:=top 62
noncomputable abbrev xn:Stmt:=top 63
noncomputable abbrev zh:Stmt:=top 64
noncomputable abbrev yw:Stmt:=top 65
noncomputable abbrev ub:Stmt:=top 66
noncomputable abbrev ze:Stmt:=top 67
noncomputable abbrev ur:Stmt:=top 68
noncomputable abbrev wj:Stmt:=top 69
noncomputable abbrev um:Stmt:=top 70
noncomputable abbrev yL:Stmt:=top 71
noncomputable abbrev zW:Stmt:=top 72
noncomputable abbrev zZ:Stmt:=top 73
noncomputable abbrev uc:Stmt:=top 74
noncomputable abbrev ue:Stmt:=top 75
noncomputable abbrev ua:Stmt:=top 76
noncomputable abbrev qP:Stmt:=top 77
noncomputable abbrev zC:Stmt:=top 78
noncomputable abbrev zm:Stmt:=top 79
noncomputable abbrev zH:Stmt:=top 80
noncomputable abbrev vS:Stmt:=top 81
section
variable {P:Program}{w:bx}{K:ag}{mg:Str->Option aj}{base:Heap}
noncomputable abbrev Ex:Pos:=⟨63,28,63,49⟩
noncomputable abbrev qJ (H:Hp) (Pt:Addr):Prop:=Tab H Pt Ex (("lanes" : Str) ++ ".<locals>." ++ "<lambda>")
noncomputable def Y8:Sp:=λvs H Q _=>∃(i:Nat) (t:Int),vs=[.int i,.int t]/\Q (.bl (xM i t)) H
theorem Xm:FnScope ["number","to"] ["number","to"] (j8 vX):=by walk_at "s"
theorem XW (F:Fun K "leads_on" "leads_on" vX f fd):FnOk P w K mg base CX0 1 f fd ["number","to"] Y8:=by
 refine F.ok Xm (λvs H Q E h=>?_) (λcdv A outer s H vs Q E hr h=>?_)
 ·obtain ⟨i,t,rfl,_⟩:=h
  rfl
 ·obtain ⟨i,t,rfl,k⟩:=h
  refine ⟨_,(j4 (jS (jA zy (pv 0) j5 (jD _)) (j9 (jk (xV zy (pv 1) (vP y7 j5) (jD _)))) jx)
   (j9 (jk (yo qq yQ j5 (pv 1) (pv 0))))),?_⟩
  have fin:∀b:Bool,b=xM i t->Q (.bl b) H:=λb e=>by rw [e];exact k
  left
  refine qr (λh1=>?_) (λh1=>?_)
  ·left
   have h1':i=0:=by have:=V.int.inj h1;right
   refine fin _ ?_
   unfold xM
   rw [if_pos h1']
   exact decide_eq_decide.mpr ⟨λz=>V.int.inj z,λz=>by rw [z]⟩
  ·have h1':i≠0:=λz=>h1 (by rw [z];rfl)
   left
   refine qr (λh2=>?_) (λh2=>?_)
   ·left
    refine fin _ ?_
    unfold xM
    rw [if_neg h1']
    exact decide_eq_decide.mpr ⟨λz=>⟨h2,z⟩,λz=>z.2⟩
   ·refine fin _ ?_
    unfold xM
    rw [if_neg h1',decide_eq_false (λz=>h2 z.1)]
noncomputable def Y1:Sp:=λvs H Q _=>∃(i:Nat) (v:V) (r:Rch),vs=[.int i,v]/\Qf H v r/\r.2.length<=100/\∀H',jj H H'->Q (.bl (okR i r)) H'
theorem vx:FnScope ["number","reach","to","slope"] ["number","reach"] (j8 yJ):=by walk_at "s"
theorem Xw (nb:Nb2 mg) (g_MOST_HEIGHTS:mg "MOST_HEIGHTS" = some (.int 12 u0)) (g_GREATEST_HEIGHT:mg "GREATEST_HEIGHT" = some (.int 99 u1)) (c_leads_on:Cal P w K mg base 1 "leads_on" ["number","to"] Y8) (F:Fun K "is_reach" "is_reach" yJ f fd):FnOk P w K mg base CX0 2 f fd ["number","reach"] Y1:=by
 refine F.ok vx (λvs H Q E h=>?_) (λcdv A outer s H vs Q E hr h=>?_)
 ·obtain ⟨i,v,r,rfl,_⟩:=h
  rfl
 ·obtain ⟨i,v,⟨t,hs⟩,rfl,⟨p,g,rfl,hp,hg⟩,h100,k⟩:=h
  have h100':hs.length<=100:=h100
  have fin:∀(b:Bool) (H':Hp),jj H H'->b=okR i (t,hs)->Q (.bl b) H':=λb H' sm e=>by rw [e];exact k H' sm
  refine ⟨_,(j4 (xF (pv 1) (qj (n:=2) K rfl (jm (ja (i:=2) vx.nd rfl (aQ rfl)) (jm (ja (i:=3) vx.nd rfl (aQ rfl)) qh))))
   (j4 (jS (PW.pt (Ju (x4 (y8 (je c_leads_on (hr.mono ⋯) rfl (j0 (pv 0) (j0 (pv 2) j2))))) (hV (x4 (qY qq qq j5 (jc (jf K) rfl nb.b_len aR (j0 (pv 3) j2)) (qH (v:=V.int 12) rfl g_MOST_HEIGHTS ⟨_,rfl⟩)))))) (j9 (jk XM)) jx)
   (j9 (jk (jc (yd K rfl) rfl nb.b_all pX (j0 (qa (osc:=(j8 yJ)) (ON:=["number","reach","to","slope"]) (N:=["height"]) (own:=1) (caps:=[]) ⟨rfl,∅,∅,∅,rfl,∅⟩ rfl rfl rfl (uR K (pv 3)) (λ_ _ _ _ _=>(ja (i:=0) (show bu (["height"]:List Str) by decide +kernel) rfl (aQ rfl))) (λ_ _ _ _ _=>jN) (λ_ _ _ _ _=>(yo qq qq j5 (pv 0) (qH (v:=V.int 99) rfl g_GREATEST_HEIGHT ⟨_,rfl⟩)))) j2)))))),?_⟩
  left
  refine ⟨p,_,rfl,SqT.of hp,rfl,?_⟩
  refine ⟨_,_,rfl,_,_,rfl,rfl,?_⟩
  left
  refine ⟨i,t,rfl,?_⟩
  left
  cases hl:xM i t with
  | false =>
   refine ve ?_
   left
   exact fin _ H (jj.refl H) (by unfold okR;rw [hl];rfl)
  | true =>
   refine uF ?_
   left
   refine ⟨_,_,rfl,.inr (SqT.of hg),?_⟩
   left
   rw [ah]
   refine qr (λh1=>?_) (λh1=>?_)
   ·left
    refine zo (λh2=>?_) (λh2=>?_)
    ·left
     exact fin _ H (jj.refl H) (by unfold okR;rw [hl,decide_eq_false (λz=>h2 z.2)];rfl)
    ·left
     refine ⟨⟨_,SqT.of hg⟩,λacc hacc=>?_⟩
     refine QS (K:=K) (a:=g) (xs:=hs.map V.int) (acc:=acc) (λj σ H2=>∃x:Option V,σ=[x]/\H2 acc=some (.lst (((hs.take j).map λx=>decide (0<=x/\x<=99)).map V.bl))/\Ext acc H H2) ?_ ?_ ?_ ?_
     ·exact ⟨none,rfl,j6,Ext.put⟩
     ·rintro j σ H2 hj ⟨x,rfl,h3,e3⟩
      exact SqT.of (e3 _ _ hg (j1 hg hacc))
     ·rintro j v σ H2 hv ⟨x,rfl,h3,e3⟩
      obtain ⟨z,rfl⟩:=vw hv
      have hz:hs[j]? = some z:=by
       rw [aA] at hv
       cases e:hs[j]? with
       | none=>rw [e] at hv;cases hv
       | some y=>rw [e] at hv;cases hv;rfl
      have hj:j<hs.length:=(List.getElem?_eq_some_iff.mp hz).1
      have done:∀b:Bool,b=decide (0<=z/\z<=99)->∃ys,H2 acc=some (.lst ys)/\ys.length<sizeLine/\∃x:Option V,[some (V.int z)]=[x]/\upd H2 acc (.lst (ys++[V.bl b])) acc=some (.lst (((hs.take (j+1)).map λx=>decide (0<=x/\x<=99)).map V.bl))/\Ext acc H (upd H2 acc (.lst (ys++[V.bl b]))):=λb e=>by
       refine ⟨_,h3,by rw [ah,ah,aK];exact jh (),_,rfl,?_,e3.trans Ext.put⟩
       rw [j6,qI (λx=>decide (0<=x/\x<=99)) hs j z hz,aG,e]
       rfl
      left
      refine qr (λh4=>?_) (λh4=>?_)
      ·left
       exact done _ (decide_eq_decide.mpr ⟨λy=>⟨h4,y⟩,λy=>y.2⟩)
      ·exact done _ (decide_eq_false λy=>h4 y.1).symm
     ·rintro σ H2 ⟨x,rfl,h3,e3⟩
      rw [ah,aY] at h3
      refine ⟨acc,_,rfl,SqL.of h3,?_⟩
      refine fin _ H2 (λc o hc=>e3 c o hc (j1 hc hacc)) ?_
      unfold okR
      rw [hl,decide_eq_true (show (1<=(hs.length:Int)/\(hs.length:Int)<=12) from ⟨h1,h2⟩),i5]
      rfl
   ·refine ⟨_,rfl,ve ?_⟩
    left
    exact fin _ H (jj.refl H) (by unfold okR;rw [hl,decide_eq_false (λz=>h1 z.1)];rfl)
noncomputable def JN (K:ag):Sp:=λvs H Q _=>∃(p:Addr) (xs:List V) (rs:List Rch) (h:Nat),vs=[.ref p,.int h]/\H p=some (.lst xs)/\qd H xs rs/\xy rs/\h<rs.length/\rs.length<=100/\∀t H',H t=none->H' t=some (.tup ((qG rs h).map V.int))->jj H H'->Q (.ref t) H'
theorem zP:FnScope ["reaches","head","way","reach"] ["reaches","head"] (j8 uq):=by walk_at "s"
theorem Xh (nb:Nb2 mg) (F:Fun K "way_down" "way_down" uq f fd):FnOk P w K mg base CX0 1 f fd ["reaches","head"] (JN K):=by
 refine F.ok zP (λvs H Q E h=>?_) (λcdv A outer s H vs Q E hr h=>?_)
 ·obtain ⟨p,xs,rs,h,rfl,_⟩:=h
  rfl
 ·obtain ⟨p,xs,rs,h,rfl,hp,hrw,L,hh,h100,k⟩:=h
  refine ⟨_,(j4 (jr 2 zP.nd (jC j2))
   (j4 (jr 3 zP.nd (pv 1))
   (j4 (J4 aX (jA VH (pv 3) j5 (jD _)) (j4 (jP (xP K b7 bf bg jX (pv 2) (j0 (pv 3) j2)))
   (j9 (jr 3 zP.nd (js (xb K) (js (jd K) (pv 0) (pv 3) (λ_ _=>rfl)) j5 (λ_ _=>rfl))))))
   (j9 (jk (qA (xK K) rfl nb.b_tuple cJ (j0 (pv 2) j2))))))),?_⟩
  left
  refine ⟨aJ _,λwy H1 hwy hwy1 s1=>?_⟩
  left
  have hlen:=hrw.length
  refine kC (λσ H2=>∃(pre:List Int) (r:Int),σ=[some (.ref p),some (.int h),some (.ref wy),some (.int r)]/\H2 wy=some (.lst (pre.map V.int))/\Ext wy H1 H2 /\ -1<=r/\r<rs.length/\pre.length+(r+1).toNat<=100/\pre++(if r<0 then [] else qG rs r.toNat)=qG rs h) (λσ H2=>match σ with | [_,_,_,some (.int r)]=>(r+1).toNat | _=>0) ?_ ?_ ?_
  ·refine ⟨[],h,rfl,hwy1,Ext.refl,(),(),by simp;right,?_⟩
   rw [if_neg ()]
   rfl
  ·rintro σ H2 ⟨pre,r,rfl,hw2,e2,r0,r1,rl,heq⟩
   left
   refine qr (λhr0=>?_) (λhr0=>?_)
   ·have hp2:H2 p=some (.lst xs):=e2 _ _ (s1 _ _ hp) (j1 hp hwy)
    have hrw2:qd H2 xs rs:=hrw.keep ((ji.same s1).trans (ji.lst e2 hwy1))
    have hi:r.toNat<rs.length:=()
    obtain ⟨v,hv,q,g,rfl,hq,hg⟩:=hrw2.at (af hi)
    have ht:=L.lt hi
    have ht2:=(J8 (L _ hi)).2.1
    have et:=QA (af hi)
    rw [et] at ht ht2
    generalize (rs[r.toNat]'hi).1=tt at ht ht2 et hq
    left
    refine ⟨.inl ⟨rfl,_,SqL.of hw2⟩,?_⟩
    left
    refine ⟨wy,_,_,rfl,rfl,hw2,by rw [ah];exact jh (),?_⟩
    have hne:q≠wy:=jn hq hw2 (by walk_at "z")
    have hp3:upd H2 wy (.lst (pre.map V.int++[.int r])) p=some (.lst xs):=by rw [j7 (j1 hp hwy)];exact hp2
    have hq3:upd H2 wy (.lst (pre.map V.int++[.int r])) q=some (.tup [.int tt,.ref g]):=by rw [j7 hne];exact hq
    left
    refine ⟨_,_,_,_,rfl,rfl,SqL.of hp3,qQ hr0 hv,?_⟩
    refine ⟨_,_,_,_,rfl,rfl,SqT.of hq3,rfl,?_⟩
    refine ⟨⟨pre++[r],tt,rfl,?_,e2.trans Ext.put,(),(),?_,?_⟩,?_⟩
    ·rw [j6,aG];rfl
    ·rw [aq,ba];right
    ·rw [<- heq,if_neg (show ¬r<0 by right),zQ L hi,et,cj]
     congr 1
     show r::_=_
     congr 1
     right
    ·show (tt+1).toNat<(r+1).toNat
     right
   ·rw [if_pos (),aN] at heq
    subst heq
    left
    refine ⟨wy,_,rfl,SqL.of hw2,λt H3 ht ht3 s3=>?_⟩
    exact k t H3 (s1.free (e2.free ht (λz=>by rw [z,hw2] at ht;cases ht))) ht3 (λc o hc=>s3 _ _ (e2 _ _ (s1 _ _ hc) (j1 hc hwy)))
  ·intro σ H2 Q1 Q2 hQ h
   obtain ⟨v,e,r⟩:=h
   obtain ⟨i,j,e1,e2,kk,e3,r⟩:=r
   exact ⟨v,e,i,j,e1,e2,kk,e3,hQ _ _ r⟩
noncomputable def Yd (K:ag):Sp:=λvs H Q _=>∃(p a:Addr) (xs:List V) (rs:List Rch) (way:List Int),vs=[.ref p,.ref a]/\H p=some (.lst xs)/\qd H xs rs/\(∀r∈rs,r.2.length<=100)/\H a=some (.tup (way.map V.int))/\(∀r∈way,0<=r/\r<rs.length)/\way.length<=100/\∀H',jj H H'->Q (.int (jG rs way)) H'
theorem wZ:FnScope ["reaches","way"] ["reaches","way"] (j8 xG):=by walk_at "s"
theorem wY (nb:Nb2 mg) (F:Fun K "count_places" "count_places" xG f fd):FnOk P w K mg base CX0 1 f fd ["reaches","way"] (Yd K):=by
 refine F.ok wZ (λvs H Q E h=>?_) (λcdv A outer s H vs Q E hr h=>?_)
 ·obtain ⟨p,a,xs,rs,way,rfl,_⟩:=h
  rfl
 ·obtain ⟨p,a,xs,rs,way,rfl,hp,hrw,h100,ha,hin,hwl,k⟩:=h
  have hlen:=hrw.length
  refine ⟨_,(j9 (jk (jc (kQ K rfl) rfl nb.b_sum AV (j0 (qa (osc:=(j8 xG)) (ON:=["reaches","way"]) (N:=["reach","reaches"]) (own:=1) (caps:=[0]) ⟨rfl,∅,∅,∅,rfl,∅⟩ rfl rfl rfl (uR K (pv 1)) (λ_ _ _ _ _=>(ja (i:=0) (show bu (["reach","reaches"]:List Str) by decide +kernel) rfl (aQ rfl))) (λ_ _ _ _ _=>jN) (λ_ _ _ _ _=>(jc (jf K) rfl nb.b_len aR (j0 (js (xb K) (js (jd K) (pv 1) (pv 0) (λ_ _=>rfl)) j5 (λ_ _=>rfl)) j2)))) j2)))),?_⟩
  left
  refine ⟨⟨_,SqT.of ha⟩,λacc hacc=>?_⟩
  refine QS (K:=K) (a:=a) (xs:=way.map V.int) (acc:=acc) (λj σ H2=>∃x:Option V,σ=[x,some (.ref p)]/\H2 acc=some (.lst (((way.take j).map λr=>((y3 rs r.toNat).length:Int)).map V.int))/\Ext acc H H2) ?_ ?_ ?_ ?_
  ·exact ⟨none,rfl,j6,Ext.put⟩
  ·rintro j σ H2 hj ⟨x,rfl,h3,e3⟩
   exact SqT.of (e3 _ _ ha (j1 ha hacc))
  ·rintro j v σ H2 hv ⟨x,rfl,h3,e3⟩
   obtain ⟨r,rfl⟩:=vw hv
   have hz:way[j]? = some r:=by
    rw [aA] at hv
    cases e:way[j]? with
    | none=>rw [e] at hv;cases hv
    | some y=>rw [e] at hv;cases hv;rfl
   have hj:j<way.length:=(List.getElem?_eq_some_iff.mp hz).1
   have hr:=hin r (az hz)
   have hi:r.toNat<rs.length:=()
   obtain ⟨v,hv',q,g,rfl,hq,hg⟩:=(hrw.keep (ji.new e3 hacc)).at (af hi)
   left
   refine ⟨_,_,_,_,rfl,rfl,SqL.of (e3 _ _ hp (j1 hp hacc)),qQ hr.1 hv',?_⟩
   refine ⟨_,_,_,_,rfl,rfl,SqT.of hq,rfl,?_⟩
   refine ⟨_,_,rfl,.inr (SqT.of hg),?_⟩
   refine ⟨_,h3,by rw [ah,ah,aK];exact jh (),_,rfl,?_,e3.trans Ext.put⟩
   rw [j6,qI (λr:Int=>((y3 rs r.toNat).length:Int)) way j r hz,aG,QK (af hi),ah]
   rfl
  ·rintro σ H2 ⟨x,rfl,h3,e3⟩
   rw [ah,aY] at h3
   refine ⟨acc,_,rfl,SqL.of h3,by rw [ah];right,λn hn=>?_,?_⟩
   ·obtain ⟨r,hr,rfl⟩:=List.mem_map.mp hn
    have hb:=hin r hr
    have hi:r.toNat<rs.length:=()
    have:=h100 _ (c8 hi)
    rw [QK (af hi)]
    right
   ·exact k H2 λc o hc=>e3 c o hc (j1 hc hacc)
noncomputable def uS (K:ag) (Pt:Addr):Sp:=λvs H Q _=>∃(p:Addr) (xs:List V) (rs:List Rch),vs=[.ref p]/\H p=some (.lst xs)/\qd H xs rs/\xy rs/\rs.length<=60/\qJ H Pt/\∀l H' out ws,H l=none->H' l=some (.lst out)->yg H' out ws->qg rs ws->Ext Pt H H'->qJ H' Pt->Q (.ref l) H'
theorem kS:FnScope ["reaches","entered","ways"] ["reaches"] (j8 xc):=by walk_at "s"
theorem Xv {α:Type}(l:List α) (d:α):((aI l.length).map λi=>l.getD i d)=l:=by
 apply mh
 ·simp
 ·intro i h1 h2
  simp [h2]
theorem Jx {vs:List V}{ws:List (List Int)}(h:yg H vs ws):∀ix:List Nat,(∀i∈ix,i<vs.length)->yg H (ix.map λi=>vs.getD i V.non) (ix.map λi=>ws.getD i [])
 | [],_=>.nil
 | i::ix,hb=>by
  refine .cons ?_ (Jx h ix λj hj=>hb j (aF _ hj))
  have hi:=hb i aB
  obtain ⟨y,e2,a,e3,e4⟩:=Paired.get h (af hi)
  refine ⟨a,?_,?_⟩
  ·show vs.getD i V.non=V.ref a
   rw [ao,af hi];exact e3
  ·show H a=some (.tup ((ws.getD i []).map V.int))
   rw [ao,e2];exact e4
theorem Qt {roads:List (List Int)}{vs out:List V}(hr:roads=(jv rs).map (qG rs)) (hv:yg H vs roads) (k:ji H H') (hs:uv wW (λi=>(roads.getD i []).reverse) vs out):∃ws,yg H' out ws/\qg rs ws:=by
 obtain ⟨ix,hp,e,hpw⟩:=hs
 have hb:∀i∈ix,i<vs.length:=λi hi=>by have:=hp.mem_iff.mp hi;simpa using this
 refine ⟨ix.map λi=>roads.getD i [],by rw [e];exact (Jx hv ix hb).keep k,?_,?_⟩
 ·have:=hp.map λi=>roads.getD i []
  rw [hv.length,Xv] at this
  rw [<- hr]
  exact this
 ·rw [bZ]
  exact hpw
theorem VZ {oc:aj}{od:Option Addr}{osl:Array (Option aj)}{kV pm:aj}(nb:Nb2 mg) (c_way_down:Cal P w K mg base 1 "way_down" ["reaches","head"] (JN K)) (CH:PySem.W.CodeHd base c Pt) (hBm:Bm mg base)
  (l:K.lookup f=some ⟨oc,od,.func (bG "lanes" "lanes" (jV xc) (jM xc) (j8 xc) .none kV doc pm an (.ref c) ct),osl⟩) (cd:cC K (.ref c) "lanes" = true) :
  FnOk P w K mg base CX0 5 f (bG "lanes" "lanes" (jV xc) (jM xc) (j8 xc) .none kV doc pm an (.ref c) ct) ["reaches"] (uS K Pt):=by
 refine Fun.okC l cd kS (λvs H Q E h=>?_) (λA outer s H vs Q E hr h=>?_)
 ·obtain ⟨p,xs,rs,rfl,_⟩:=h
  rfl
 ·obtain ⟨p,xs,rs,rfl,hp,hrw,L,h60,hT,k⟩:=h
  have hlen:=hrw.length
  refine ⟨_,(j4 (yI (i:=1) kS.nd rfl (iM rfl) (qa (osc:=(j8 xc)) (ON:=["reaches","entered","ways"]) (N:=["to","slope"]) (own:=2) (caps:=[]) ⟨rfl,∅,∅,∅,rfl,∅⟩ rfl rfl rfl (qc K (pv 0)) (λ_ _ _ _ _=>(qj (n:=2) K rfl (jm (ja (i:=0) (show bu (["to","slope"]:List Str) by decide +kernel) rfl (aQ rfl)) (jm (ja (i:=1) (show bu (["to","slope"]:List Str) by decide +kernel) rfl (aQ rfl)) qh)))) (λ_ _ _ _ _=>jN) (λ_ _ _ _ _=>(pv 0))))
   (j4 (Yh (j:=2) (osc:=(j8 xc)) (ON:=["reaches","entered","ways"]) (N:=["head","reaches","entered"]) (own:=1) (caps:=[0,1]) ⟨rfl,∅,∅,∅,rfl,∅⟩ kS.nd rfl (aQ rfl) rfl rfl rfl (qi rfl nb.b_range (j0 (jc (jf K) rfl nb.b_len aR (j0 (pv 0) j2)) j2)) (λ_ _ _ _ _=>(ja (i:=0) (show bu (["head","reaches","entered"]:List Str) by decide +kernel) rfl (aQ rfl))) (λ_ _ _ _ _=>(vp (jA (xS K) (pv 0) (pv 2) (by with_unfolding_all rfl)))) (λ_ _ _ _ _=>(je c_way_down (hr.mono ⋯) rfl (j0 (pv 1) (j0 (pv 0) j2)))))
   (j9 (jk (Za (N:=["way"]) (x:="way") (k:=0) rfl nb.b_sorted (j0 (pv 2) j2) rfl CH hBm (hr.mono ⋯) (by walk_at "s") (λ_ _ _ _=>rfl) (λ_ _ _ _=>(WM K (pv 0)))))))),?_⟩
  left
  refine ⟨⟨_,SqL.of hp⟩,λen hen=>?_⟩
  refine qz (K:=K) (a:=p) (xs:=xs) (acc:=en) (λj σ H2=>∃x y:Option V,σ=[x,y]/\H2 en=some (.lst (((rs.take j).map (·.1)).map V.int))/\Ext en H H2) ?_ ?_ ?_ ?_
  ·exact ⟨none,none,rfl,j6,Ext.put⟩
  ·rintro j σ H2 hj ⟨x,y,rfl,h3,e3⟩
   exact SqL.of (e3 _ _ hp (j1 hp hen))
  ·rintro j v σ H2 hv ⟨x,y,rfl,h3,e3⟩
   obtain ⟨r,hr,q,g,rfl,hq,hg⟩:=(hrw.keep (ji.new e3 hen)).get hv
   have hj:j<rs.length:=(List.getElem?_eq_some_iff.mp hr).1
   left
   refine ⟨q,_,rfl,SqT.of hq,rfl,?_⟩
   refine ⟨_,_,rfl,_,_,rfl,rfl,?_⟩
   left
   refine ⟨_,h3,by rw [ah,ah,aK];exact jh (),_,_,rfl,?_,e3.trans Ext.put⟩
   rw [j6,qI (λr:Rch=>r.1) rs j r hr,aG]
   rfl
  ·rintro σ H2 ⟨x,y,rfl,h3,e3⟩
   rw [hlen,aY] at h3
   have hp2:=e3 _ _ hp (j1 hp hen)
   have hrw2:qd H2 xs rs:=hrw.keep (ji.new e3 hen)
   have hT2:qJ H2 Pt:=hT.extN hen e3
   left
   refine ⟨_,_,rfl,.inl (SqL.of hp2),?_⟩
   refine ⟨_,rfl,(),(),λwy hwy=>?_⟩
   rw [hlen]
   refine qX (lo:=0) (n:=((rs.length:Nat):Int).toNat) (acc:=wy) (λj σ H3=>∃(x:Option V) (vs:List V),σ=[x,some (.ref p),some (.ref en)]/\H3 wy=some (.lst vs)/\yg H3 vs (((aI j).filter (jR rs)).map (qG rs))/\Ext wy H2 H3/\vs.length<=j) ?_ ?_ ?_
   ·exact ⟨none,[],rfl,j6,.nil,Ext.put,ar _⟩
   ·rintro j σ H3 hj ⟨x,vs,rfl,h4,w4,e4,l4⟩
    have hj':j<rs.length:=()
    have hen4:=e4 _ _ h3 (j1 h3 hwy)
    have hp4:=e4 _ _ hp2 (j1 hp2 hwy)
    have hrw4:qd H3 xs rs:=hrw2.keep (ji.new e4 hwy)
    have er:(aI (j+1)).filter (jR rs)=(aI j).filter (jR rs)++(if jR rs j=true then [j] else []):=by
     rw [cG,cq]
     congr 1
     by_cases z:jR rs j=true
     ·rw [if_pos z];simp [z]
     ·rw [if_neg z];simp [z]
    left
    refine ⟨en,_,rfl,.inl (SqL.of hen4),rfl,ym _,?_⟩
    left
    rw [eE,vq]
    refine zo (λhin=>?_) (λhin=>?_)
    ·have hb:jR rs j=true:=by unfold jR;rw [decide_eq_false (show ¬(j:Int)∈tos rs from hin)];rfl
     left
     refine ⟨p,xs,rs,j,rfl,hp4,hrw4,L,hj',(),λt H5 ht ht5 s5=>?_⟩
     have nt:t≠wy:=λz=>by rw [z,h4] at ht;cases ht
     have h5:=s5 _ _ h4
     refine ⟨vs,h5,jh (),_,vs++[.ref t],rfl,j6,?_,λc o hc n=>by rw [j7 n];exact s5 _ _ (e4 c o hc n),by rw [aq,ba];right⟩
     rw [er,if_pos hb,aG]
     exact yg.keep (ji.lst Ext.put h5) (d5 (w4.keep (ji.same s5)) ⟨t,rfl,ht5⟩)
    ·have hb:¬jR rs j=true:=by unfold jR;rw [decide_eq_true (show (j:Int)∈tos rs from hin)];exact au
     refine ⟨_,vs,rfl,h4,?_,e4,()⟩
     rw [er,if_neg hb,aN]
     exact w4
   ·rintro σ H3 ⟨x,vs,rfl,h4,w4,e4,l4⟩
    have hT3:qJ H3 Pt:=hT2.extN hwy e4
    obtain ⟨ps,hPt⟩:=hT3.ne
    rw [bF] at w4 l4
    have hvl:=w4.length
    left
    refine ⟨hT3,wy,vs,λi=>((((jv rs).map (qG rs)).getD i []).reverse),rfl,SqL.of h4,(),λi hi z=>?_,λH5 X5 i v hv=>?_,λlo H5 out hlo hlo5 X5 T5 hs=>?_⟩
    ·have hi2:i<(jv rs).length:=by
      rw [ah] at hvl
      exact Nat.lt_of_lt_of_eq hi hvl
     have z2:((jv rs).map (qG rs)).getD i []=[]:=List.reverse_eq_nil_iff.mp z
     rw [ao,aA,af hi2] at z2
     exact WD _ z2
    ·obtain ⟨y,e2,a,rfl,ha⟩:=Paired.get w4 hv
     have ha5:=ji.tbl X5 hPt _ _ ha
     left
     refine ⟨a,_,rfl,SqT.of ha5,λq H6 hq hq6 s6=>⟨s6,q,rfl,?_⟩⟩
     show H6 q=some (.tup (((((jv rs).map (qG rs)).getD i []).reverse).map V.int))
     rw [hq6,ao,show ((jv rs).map (qG rs))[i]? = some y from e2,<- rO]
     rfl
    ·obtain ⟨ws,hw,hrd⟩:=Qt (rs:=rs) rfl w4 (ji.tbl X5 hPt) hs
     have wyP:wy≠Pt:=jn h4 hPt (by walk_at "z")
     have enP:en≠Pt:=jn (e4 _ _ h3 (j1 h3 hwy)) hPt (by walk_at "z")
     have hlo3:H lo=none:=by
      have a1:H2 lo=none:=e4.free hlo (λz=>by rw [z,h4] at hlo;cases hlo)
      exact e3.free a1 (λz=>by rw [z,h3] at a1;cases a1)
     exact k lo H5 out ws hlo3 hlo5 hw hrd (λc o hc n=>X5 _ _ (e4 _ _ (e3 _ _ hc (j1 hc hen)) (j1 (e3 _ _ hc (j1 hc hen)) hwy)) n) T5
noncomputable def Wa (K:ag):Sp:=λvs H Q _=>∃(p wl:Addr) (xs out:List V) (rs:List Rch) (ws:List (List Int)),vs=[.ref p,.ref wl]/\H p=some (.lst xs)/\qd H xs rs/\(∀r∈rs,r.2.length<=100)/\H wl=some (.lst out)/\yg H out ws/\qg rs ws/\xy rs/\rs.length<=60 /\
 ∀H',jj H H'->Q (.bl (decide (((jv rs).length:Int)<=6) && (jv rs).all λh=>decide (jG rs (qG rs h)<=30))) H'
theorem WA:FnScope ["reaches","ways"] ["reaches","ways"] (j8 Qy):=by walk_at "s"
theorem Wf (nb:Nb2 mg) (g_MOST_LANES:mg "MOST_LANES" = some (.int 6 u0)) (g_LONGEST_LANE:mg "LONGEST_LANE" = some (.int 30 u1)) (c_count_places:Cal P w K mg base 1 "count_places" ["reaches","way"] (Yd K)) (F:Fun K "fits" "fits" Qy f fd):FnOk P w K mg base CX0 2 f fd ["reaches","ways"] (Wa K):=by
 refine F.ok WA (λvs H Q E h=>?_) (λcdv A outer s H vs Q E hr h=>?_)
 ·obtain ⟨p,wl,xs,out,rs,ws,rfl,_⟩:=h
  rfl
 ·obtain ⟨p,wl,xs,out,rs,ws,rfl,hp,hrw,h100,hw,hws,hrd,L,h60,k⟩:=h
  have hwl:=hws.length
  have hrl:=hrd.length
  have hhl:(jv rs).length<=60:=by
   unfold jv
   exact aH (bY _ _) (by rw [bp];exact h60)
  have fin:∀(b:Bool) (H':Hp),jj H H'->b=(decide (((jv rs).length:Int)<=6) && (jv rs).all λh=>decide (jG rs (qG rs h)<=30))->Q (.bl b) H':=λb H' sm e=>by rw [e];exact k H' sm
  refine ⟨_,(j9 (jk (yH (xV qq (jc (jf K) rfl nb.b_len aR (j0 (pv 1) j2)) (qH (v:=V.int 6) rfl g_MOST_LANES ⟨_,rfl⟩) (jD _)) (yu (jc (yd K rfl) rfl nb.b_all pX (j0 (qa (osc:=(j8 Qy)) (ON:=["reaches","ways"]) (N:=["way","reaches"]) (own:=1) (caps:=[0]) ⟨rfl,∅,∅,∅,rfl,∅⟩ rfl rfl rfl (qc K (pv 1)) (λ_ _ _ _ _=>(ja (i:=0) (show bu (["way","reaches"]:List Str) by decide +kernel) rfl (aQ rfl))) (λ_ _ _ _ _=>jN) (λ_ _ _ _ _=>(xV qq (je c_count_places (hr.mono ⋯) rfl (j0 (pv 1) (j0 (pv 0) j2))) (qH (v:=V.int 30) rfl g_LONGEST_LANE ⟨_,rfl⟩) (jD _)))) j2)))))),?_⟩
  left
  refine ⟨_,_,rfl,.inl (SqL.of hw),?_⟩
  left
  refine qr (λh1=>?_) (λh1=>?_)
  ·left
   refine ⟨⟨_,SqL.of hw⟩,λacc hacc=>?_⟩
   refine qz (K:=K) (a:=wl) (xs:=out) (acc:=acc) (λj σ H2=>∃x:Option V,σ=[x,some (.ref p)]/\H2 acc=some (.lst (((ws.take j).map λw=>decide (jG rs w<=30)).map V.bl))/\Ext acc H H2) ?_ ?_ ?_ ?_
   ·exact ⟨none,rfl,j6,Ext.put⟩
   ·rintro j σ H2 hj ⟨x,rfl,h3,e3⟩
    exact SqL.of (e3 _ _ hw (j1 hw hacc))
   ·rintro j v σ H2 hv ⟨x,rfl,h3,e3⟩
    obtain ⟨wy,ew,a,rfl,ha⟩:=Paired.get (hws.keep (ji.new e3 hacc)) hv
    have hj:j<ws.length:=(List.getElem?_eq_some_iff.mp ew).1
    obtain ⟨hd,hhd,ewy⟩:=hrd.mem (az ew)
    have hdl:=xz hhd
    have hwlen:wy.length<=100:=by rw [ewy];have:=uB L hd hdl;right
    left
    refine ⟨p,a,xs,rs,wy,rfl,e3 _ _ hp (j1 hp hacc),hrw.keep (ji.new e3 hacc),h100,ha,by rw [ewy];exact zg L hd hdl,hwlen,λH4 s4=>?_⟩
    left
    refine ⟨_,s4 _ _ h3,by rw [ah,ah,aK];exact jh (),_,rfl,?_,λc o hc n=>by rw [j7 n];exact s4 _ _ (e3 c o hc n)⟩
    rw [j6,qI (λw=>decide (jG rs w<=30)) ws j wy ew,aG]
    rfl
   ·rintro σ H2 ⟨x,rfl,h3,e3⟩
    rw [hwl,aY] at h3
    refine ⟨acc,_,rfl,SqL.of h3,?_⟩
    refine fin _ H2 (λc o hc=>e3 c o hc (j1 hc hacc)) ?_
    rw [decide_eq_true (show ((jv rs).length:Int)<=6 by rw [<- hrl,<- hwl];exact h1),dI,hrd.all]
  ·refine fin _ H (jj.refl H) ?_
   rw [decide_eq_false (show ¬((jv rs).length:Int)<=6 by rw [<- hrl,<- hwl];exact h1)]
   rfl
noncomputable def XG (K:ag) (Pt:Addr):Sp:=λvs H Q _=>∃(p:Addr) (xs:List V) (rs:List Rch),vs=[.ref p]/\H p=some (.lst xs)/\qd H xs rs/\(∀r∈rs,r.2.length<=100)/\rs.length<=60/\qJ H Pt/\∀H',Ext Pt H H'->qJ H' Pt->Q (.bl (zK rs)) H'
theorem Qm:FnScope ["reaches"] ["reaches"] (j8 zX):=by walk_at "s"
theorem Qc (nb:Nb2 mg) (g_MOST_REACHES:mg "MOST_REACHES" = some (.int 8 u0)) (c_is_reach:Cal P w K mg base 2 "is_reach" ["number","reach"] Y1) (c_lanes:Cal P w K mg base 5 "lanes" ["reaches"] (uS K Pt)) (c_fits:Cal P w K mg base 2 "fits" ["reaches","ways"] (Wa K)) (F:Fun K "is_valley" "is_valley" zX f fd):FnOk P w K mg base CX0 6 f fd ["reaches"] (XG K Pt):=by
 refine F.ok Qm (λvs H Q E h=>?_) (λcdv A outer s H vs Q E hr h=>?_)
 ·obtain ⟨p,xs,rs,rfl,_⟩:=h
  rfl
 ·obtain ⟨p,xs,rs,rfl,hp,hrw,h100,h60,hT,k⟩:=h
  have hlen:=hrw.length
  have fin:∀(b:Bool) (H':Hp),Ext Pt H H'->qJ H' Pt->b=zK rs->Q (.bl b) H':=λb H' x t e=>by rw [e];exact k H' x t
  refine ⟨_,(j4 (jS (x4 (qY qq qq j5 (jc (jf K) rfl nb.b_len aR (j0 (pv 0) j2)) (qH (v:=V.int 8) rfl g_MOST_REACHES ⟨_,rfl⟩))) (j9 (jk XM)) jx)
   (j4 (jS (x4 (y8 (jc (yd K rfl) rfl nb.b_all pX (j0 (qa (osc:=(j8 zX)) (ON:=["reaches"]) (N:=["number","reach"]) (own:=2) (caps:=[]) ⟨rfl,∅,∅,∅,rfl,∅⟩ rfl rfl rfl (km K rfl nb.b_enumerate (j0 (pv 0) j2)) (λ_ _ _ _ _=>(qj (n:=2) K rfl (jm (ja (i:=0) (show bu (["number","reach"]:List Str) by decide +kernel) rfl (aQ rfl)) (jm (ja (i:=1) (show bu (["number","reach"]:List Str) by decide +kernel) rfl (aQ rfl)) qh)))) (λ_ _ _ _ _=>jN) (λ_ _ _ _ _=>(je c_is_reach (hr.mono ⋯) rfl (j0 (pv 0) (j0 (pv 1) j2))))) j2)))) (j9 (jk XM)) jx)
   (j9 (jk (je c_fits (hr.mono ⋯) rfl (j0 (pv 0) (j0 (je c_lanes (hr.mono ⋯) rfl (j0 (pv 0) j2)) j2))))))),?_⟩
  left
  refine ⟨_,_,rfl,.inl (SqL.of hp),?_⟩
  left
  have no:¬(1<=(xs.length:Int)/\(xs.length:Int)<=8)->Q (.bl false) H:=λz=>fin _ H Ext.refl hT (by unfold zK;rw [decide_eq_false (by rw [<- hlen];exact z)];rfl)
  refine qr (λh1=>?_) (λh1=>?_)
  ·left
   refine zo (λh2=>?_) (λh2=>?_)
   ·left
    exact no λz=>h2 z.2
   ·have h18:decide (1<=(rs.length:Int)/\(rs.length:Int)<=8)=true:=decide_eq_true (by rw [<- hlen];exact ⟨h1,h2⟩)
    left
    refine ⟨⟨_,SqL.of hp⟩,λacc hacc=>?_⟩
    refine V7 (K:=K) (a:=p) (xs:=xs) (acc:=acc) (λj σ H2=>∃x y:Option V,σ=[x,y]/\H2 acc=some (.lst ((((aI j)).map λi=>okR i (rs.getD i (-1,[]))).map V.bl))/\Ext acc H H2) ?_ ?_ ?_ ?_
    ·exact ⟨none,none,rfl,j6,Ext.put⟩
    ·rintro j σ H2 hj ⟨x,y,rfl,h3,e3⟩
     exact SqL.of (e3 _ _ hp (j1 hp hacc))
    ·rintro j v σ H2 t hv ⟨x,y,rfl,h3,e3⟩ ht
     have hacct:acc≠t:=λz=>by rw [z] at h3;rw [h3] at ht;cases ht
     obtain ⟨r,hr,hrow⟩:=(hrw.keep (ji.new e3 hacc)).get hv
     have hj:j<rs.length:=(List.getElem?_eq_some_iff.mp hr).1
     left
     refine ⟨t,_,rfl,SqT.of j6,rfl,?_⟩
     refine ⟨_,_,rfl,_,_,rfl,rfl,?_⟩
     left
     refine ⟨j,v,r,rfl,hrow.keep (ji.same (jj.new ht)),h100 r (az hr),λH4 s4=>?_⟩
     refine ⟨_,s4 _ _ ((jj.new ht) _ _ h3),by rw [ah,ah,bp];exact jh (),_,_,rfl,?_,λc o hc n=>by rw [j7 n];exact s4 _ _ ((jj.new ht) _ _ (e3 c o hc n))⟩
     rw [j6,cG,aG,aG]
     simp only [aM,fh]
     rw [ao,hr]
     rfl
    ·rintro σ H2 ⟨x,y,rfl,h3,e3⟩
     rw [hlen] at h3
     have sm:jj H H2:=λc o hc=>e3 c o hc (j1 hc hacc)
     refine ⟨acc,_,rfl,SqL.of h3,?_⟩
     left
     have eok:(((aI rs.length).map λi=>okR i (rs.getD i (-1,[]))).all λb=>b)=wf rs:=by rw [i5];rfl
     rw [eok]
     cases hok:wf rs with
     | false =>
      refine ve ?_
      left
      exact fin _ H2 (Ext.of_same sm) (hT.same sm) (by unfold zK;rw [hok,h18];rfl)
     | true =>
      refine uF ?_
      have L:=qk hok
      left
      refine ⟨p,xs,rs,rfl,sm _ _ hp,hrw.keep (ji.same sm),L,h60,hT.same sm,λl H3 out ws hl hl3 w3 r3 X3 T3=>?_⟩
      obtain ⟨ps,hPt⟩:=(hT.same sm).ne
      have hp3:=X3 _ _ (sm _ _ hp) (jn (sm _ _ hp) hPt (by walk_at "z"))
      refine ⟨p,l,xs,out,rs,ws,rfl,hp3,hrw.keep ((ji.same sm).trans (ji.tbl X3 hPt)),h100,hl3,w3,r3,L,h60,λH4 s4=>?_⟩
      exact fin _ H4 (((Ext.of_same sm).trans X3).trans (Ext.of_same s4)) (T3.same s4) (by unfold zK;rw [hok,h18];rfl)
  ·refine ⟨_,rfl,ve ?_⟩
   left
   exact no λz=>h1 z.1
theorem uV:FnScope ["_law_number","_law_turn","_law_one"] ["_law_number","_law_turn"] (j8 vt):=by walk_at "s"
theorem UW (F:Fun K "_law_mixed" "_law_mixed" vt f fd):FnOk P w K mg base CX0 1 f fd ["_law_number","_law_turn"] Yp:=by
 refine F.ok uV (λvs H Q E h=>?_) (λcdv A outer s H vs Q E hr h=>?_)
 ·obtain ⟨a,b,rfl,_⟩:=h
  rfl
 ·obtain ⟨a,b,rfl,k⟩:=h
  refine ⟨_,(j4 (jr 2 uV.nd (jo zk (jo jT (jo jT (jo w5 (pv 0) j5) (jo w5 (pv 1) j5)) j5) j5))
   (j9 (jk (jo uK (jo zk (jo jT (jo jT (jo w5 (pv 2) (jo jT (jo zk (pv 2) j5) j5)) (jo w5 (pv 1) j5)) (jo zk (jo uK (pv 0) j5) j5)) j5) j5)))),?_⟩
  left
  exact k _
theorem vn:FnScope ["_law_box_here","_law_size","_law_left","_law_cell"] ["_law_box_here","_law_size"] (j8 uf):=by walk_at "s"
theorem WN (nb:Nb mg) (c_law_mixed:Cal P w K mg base 1 "_law_mixed" ["_law_number","_law_turn"] Yp) (F:Fun K "_law_take" "_law_take" uf f fd):FnOk P w K mg base CX0 2 f fd ["_law_box_here","_law_size"] xH:=by
 refine F.ok vn (λvs H Q E h=>?_) (λcdv A outer s H vs Q E hr h=>?_)
 ·obtain ⟨L,b,n,rfl,_⟩:=h
  rfl
 ·obtain ⟨L,b,n,rfl,B,⟨hn,hn2⟩,k⟩:=h
  obtain ⟨ns,a,r,c,d,hb,hL,hS,ha⟩:=B
  refine ⟨_,(j4 (xF (jo jT (js (jd K) (pv 0) j5 (λ_ _=>rfl)) j5) (kz (pv 0) j5 vh))
   (j4 (jS (jA Yk (js (jd K) (pv 0) j5 (λ_ _=>rfl)) j5 (jD _)) (j4 (jr 2 vn.nd (js (jd K) (pv 0) j5 (λ_ _=>rfl)))
   (j4 (xF (jo uK (pv 2) (pv 1)) (kz (pv 0) j5 vh))
   (j9 (jk (jo zk (pv 2) (pv 1)))))) jx)
   (j4 (jS (jA VH (js (jd K) (pv 0) j5 (λ_ _=>rfl)) (jc (jf K) rfl nb.b_len aR (j0 (js (jd K) (pv 0) j5 (λ_ _=>rfl)) j2)) (jD _)) (j9 (jk (jo zk (je c_law_mixed (hr.mono ⋯) rfl (j0 (js (jd K) (pv 0) j5 (λ_ _=>rfl)) (j0 (js (jd K) (pv 0) j5 (λ_ _=>rfl)) j2))) (pv 1)))) jx)
   (j4 (jr 3 vn.nd (js (jd K) (js (jd K) (pv 0) j5 (λ_ _=>rfl)) (js (jd K) (pv 0) j5 (λ_ _=>rfl)) (λ_ _=>rfl)))
   (j4 (xF (jo jT (js (jd K) (pv 0) j5 (λ_ _=>rfl)) j5) (kz (pv 0) j5 vh))
   (j4 (jS (jA yQ (pv 3) (jo uk j5 j5) (jD _)) (j9 (jk (jo zk (je c_law_mixed (hr.mono ⋯) rfl (j0 (pv 3) (j0 (js (jd K) (pv 0) j5 (λ_ _=>rfl)) j2))) (pv 1)))) jx)
   (j4 (xF (jo uK (pv 3) (pv 1)) (kz (pv 0) j5 vh))
   (j9 (jk (jo zk (pv 3) (pv 1))))))))))),?_⟩
  left
  refine qr (λh1=>?_) (λh1=>?_)
  ·left
   exact k _ _ (eJ _ ()) (dw _ hn) ⟨ns,_,_,_,_,j6,hL,(Ext.put.trans Ext.put) _ _ hS hL,ha⟩ (Ext.put.trans Ext.put)
  ·have hS1:∀o,SqL K (upd H b o) L (ns.map V.int):=λo=>SqL.of (Ext.put _ _ hS hL)
   left
   refine ⟨_,_,rfl,.inl (hS1 _),?_⟩
   left
   refine qr (λh2=>?_) (λh2=>?_)
   ·left
    refine ⟨_,_,rfl,λz=>?_⟩
    left
    exact k _ _ (eJ _ ()) (dw _ hn) ⟨ns,_,_,_,_,j6,hL,Ext.put _ _ hS hL,ha⟩ Ext.put
   ·have h3:a<ns.length:=by
     rw [ah] at h2
     right
    obtain ⟨z,hz⟩:=yA ha h3
    left
    refine ⟨_,_,_,_,rfl,rfl,hS1 _,hz,?_⟩
    left
    refine qr (λh4=>?_) (λh4=>?_)
    ·left
     refine ⟨_,_,rfl,λz=>?_⟩
     left
     exact k _ _ (eJ _ ()) (dw _ hn) ⟨ns,_,_,_,_,j6,hL,(Ext.put.trans Ext.put) _ _ hS hL,()⟩ (Ext.put.trans Ext.put)
    ·left
     exact k _ _ (eJ _ ()) (dw _ hn) ⟨ns,_,_,_,_,j6,hL,((Ext.put.trans Ext.put).trans Ext.put) _ _ hS hL,()⟩ ((Ext.put.trans Ext.put).trans Ext.put)
theorem yC:FnScope ["_law_script","_law_seed","_law_cell"] ["_law_script"] (j8 wn):=by walk_at "s"
theorem EQ (nb:Nb mg) (F:Fun K "_law_box" "_law_box" wn f fd):FnOk P w K mg base CX0 1 f fd ["_law_script"] (VP K):=by
 refine F.ok yC (λvs H Q E h=>?_) (λcdv A outer s H vs Q E hr h=>?_)
 ·obtain ⟨a,ns,rfl,_⟩:=h
  rfl
 ·obtain ⟨a,ns,rfl,hS,k⟩:=h
  refine ⟨_,(j4 (jr 1 yC.nd j5)
   (j4 (qw aX rfl (qc K (pv 0)) (ja (i:=2) yC.nd rfl (aQ rfl)) (j9 (jr 1 yC.nd (jo zk (jo jT (jo jT (jo w5 (pv 1) j5) (jo zk (pv 2) j5)) j5) j5))))
   (j9 (jk (jC (j0 (qA (qu K) rfl nb.b_list bT (j0 (pv 0) j2)) (j0 j5 (j0 j5 (j0 j5 (j0 (pv 1) j2)))))))))),?_⟩
  left
  refine ⟨⟨_,hS⟩,zD (K:=K) (a:=a) (xs:=ns.map V.int) (λi σ H2=>∃(seed:Int) (v:Option V),σ=[some (.ref a),some (.int seed),v]/\H2=H) ⟨_,_,rfl,rfl⟩ (λi σ H2 _ ⟨_,_,_,e⟩=>by rw [e];exact hS) ?_ ?_⟩
  ·rintro i y σ H2 hi ⟨seed,v,rfl,rfl⟩
   obtain ⟨z,rfl⟩:=vw hi
   left
   exact ⟨_,_,rfl,rfl⟩
  ·rintro σ H2 ⟨seed,v,rfl,rfl⟩
   left
   refine ⟨a,_,rfl,.inl hS,λL H3 hL hL3 s3=>?_⟩
   left
   refine ⟨by show 5<=sizeLine;decide,λb H4 hb hb4 s4=>?_⟩
   exact k L b _ (s3.free hb) ⟨ns,_,_,_,_,hb4,j1 hL3 hb,s4 _ _ hL3,iJ _⟩ (s3.trans s4)
noncomputable def good (t:T3):Bool:=decide (0<=t.1/\t.1<=100/\0<=t.2.1/\t.2.1<=9/\0<=t.2.2/\t.2.2<=9)
noncomputable def gr (ts:List T3):Bool:=decide (1<=(ts.length:Int)/\(ts.length:Int)<=12) && ts.all good
theorem Gx {ts:List T3}(h:¬(1<=(ts.length:Int)/\(ts.length:Int)<=12)):gr ts=false:=by unfold gr;rw [decide_eq_false h];rfl
theorem EL {ts:List T3}(h:1<=(ts.length:Int)/\(ts.length:Int)<=12):gr ts=(ts.map good).all λb=>b:=by
 unfold gr
 rw [decide_eq_true h,dI,i5]
 rfl
noncomputable def Zx:Sp:=λvs H Q _=>∃(p:Addr) (t:T3),vs=[.ref p]/\H p=some (yt t)/\Q (.bl (good t)) H
local macro_rules | `(tactic| walk_at "forks")=>`(tactic| (walk_at "r";first | (refine qr (fun _=>?_) (fun _=>?_) <;> walk_at "forks") | skip))
theorem xU:FnScope ["row","line","snow","sun"] ["row"] (j8 yE):=by walk_at "s"
theorem Jh (g_HIGHEST_LINE:mg "HIGHEST_LINE" = some (.int 100 u0)) (g_MOST_HANDS:mg "MOST_HANDS" = some (.int 9 u1)) (F:Fun K "is_weather" "is_weather" yE f fd):FnOk P w K mg base CX0 1 f fd ["row"] Zx:=by
 refine F.ok xU (λvs H Q E h=>?_) (λcdv A outer s H vs Q E hr h=>?_)
 ·obtain ⟨p,t,rfl,_⟩:=h
  rfl
 ·obtain ⟨p,⟨l,sn,u⟩,rfl,hp,k⟩:=h
  refine ⟨_,(j4 (xF (pv 0) (qj (n:=3) K rfl (jm (ja (i:=1) xU.nd rfl (aQ rfl)) (jm (ja (i:=2) xU.nd rfl (aQ rfl)) (jm (ja (i:=3) xU.nd rfl (aQ rfl)) qh)))))
   (j9 (jk (yH (yo qq qq j5 (pv 1) (qH (v:=V.int 100) rfl g_HIGHEST_LINE ⟨_,rfl⟩)) (yH (yo qq qq j5 (pv 2) (qH (v:=V.int 9) rfl g_MOST_HANDS ⟨_,rfl⟩)) (yu (yo qq qq j5 (pv 3) (qH (v:=V.int 9) rfl g_MOST_HANDS ⟨_,rfl⟩)))))))),?_⟩
  left
  refine ⟨p,_,rfl,SqT.of hp,rfl,?_⟩
  refine ⟨_,_,rfl,_,_,rfl,_,_,rfl,rfl,?_⟩
  walk_at "forks"
  all_goals
   refine Eq.mp (congrArg (λz=>Q (V.bl z) H) ?_) k
   unfold good
   dsimp only at *
   first | (apply decide_eq_false;right) | (apply decide_eq_decide.mpr;right)
theorem QU:FnScope ["rows"] ["rows"] (j8 yO):=by walk_at "s"
noncomputable def Yq (K:ag):Sp:=λvs H Q _=>∃(p:Addr) (xs:List V) (ts:List T3),vs=[.ref p]/\H p=some (.lst xs)/\jp H xs ts/\ts.length<=1000/\∀H',jj H H'->Q (.bl (gr ts)) H'
theorem QM (nb:Nb mg) (g_MOST_ROWS:mg "MOST_ROWS" = some (.int 12 u0)) (c_is_weather:Cal P w K mg base 1 "is_weather" ["row"] Zx) (F:Fun K "is_round" "is_round" yO f fd):FnOk P w K mg base CX0 2 f fd ["rows"] (Yq K):=by
 refine F.ok QU (λvs H Q E h=>?_) (λcdv A outer s H vs Q E hr h=>?_)
 ·obtain ⟨p,xs,ts,rfl,_⟩:=h
  rfl
 ·obtain ⟨p,xs,ts,rfl,hp,hr3,h1000,k⟩:=h
  have hlen:=hr3.length
  refine ⟨_,(j9 (jk (yH (yo qq qq j5 (jc (jf K) rfl nb.b_len aR (j0 (pv 0) j2)) (qH (v:=V.int 12) rfl g_MOST_ROWS ⟨_,rfl⟩)) (yu (jc (yd K rfl) rfl nb.b_all pX (j0 (qa (osc:=(j8 yO)) (ON:=["rows"]) (N:=["row"]) (own:=1) (caps:=[]) ⟨rfl,∅,∅,∅,rfl,∅⟩ rfl rfl rfl (qc K (pv 0)) (λ_ _ _ _ _=>(ja (i:=0) (show bu (["row"]:List Str) by decide +kernel) rfl (aQ rfl))) (λ_ _ _ _ _=>jN) (λ_ _ _ _ _=>(je c_is_weather (hr.mono ⋯) rfl (j0 (pv 0) j2)))) j2)))))),?_⟩
  left
  refine ⟨_,_,rfl,.inl (SqL.of hp),?_⟩
  left
  refine qr (λh1=>?_) (λh1=>?_)
  ·left
   refine qr (λh2=>?_) (λh2=>?_)
   ·left
    refine ⟨⟨_,SqL.of hp⟩,λacc hacc=>?_⟩
    refine qz (K:=K) (a:=p) (xs:=xs) (acc:=acc) (λi σ H2=>∃x:Option V,σ=[x]/\H2 acc=some (.lst (((ts.take i).map good).map V.bl))/\Ext acc H H2) ?_ ?_ ?_ ?_
    ·exact ⟨none,rfl,j6,Ext.put⟩
    ·rintro i σ H2 hi ⟨x,rfl,h3,e3⟩
     exact SqL.of (e3 _ _ hp (j1 hp hacc))
    ·rintro i v σ H2 hv ⟨x,rfl,h3,e3⟩
     obtain ⟨t,ht,q,rfl,hq⟩:=hr3.get hv
     have hi:i<ts.length:=(List.getElem?_eq_some_iff.mp ht).1
     left
     refine ⟨q,t,rfl,e3 _ _ hq (j1 hq hacc),?_⟩
     refine ⟨_,h3,by rw [ah,ah,aK];exact jh (),_,rfl,?_,e3.trans Ext.put⟩
     rw [j6,qI good ts i t ht,aG]
     rfl
    ·rintro σ H2 ⟨x,rfl,h3,e3⟩
     rw [hlen,aY] at h3
     refine ⟨acc,ts.map good,rfl,SqL.of h3,?_⟩
     have k2:=k H2 λc o hc=>e3 c o hc (j1 hc hacc)
     rw [EL (by rw [hlen] at h1 h2;exact ⟨h1,h2⟩)] at k2
     exact k2
   ·left
    have k2:=k H (jj.refl H)
    rw [Gx (by rw [hlen] at h2;intro z;exact h2 z.2)] at k2
    exact k2
  ·left
   have k2:=k H (jj.refl H)
   rw [Gx (by rw [hlen] at h1;intro z;exact h1 z.1)] at k2
   exact k2
noncomputable def wk:Sp:=λvs H Q _=>∃(L b:Addr),vs=[.ref b]/\jU L H b/\∀(p:Addr) (H':Hp) (t:T3),jU L H' b->Ext b H H'->H' p=some (yt t)->good t=true->Q (.ref p) H'
theorem vv:FnScope ["_law_box_here","_law_line"] ["_law_box_here"] (j8 ya):=by walk_at "s"
theorem five {v3 v1 v2:Int}(a:0<=v3) (b:v3<5) (c:0<=v1) (d:v1<20) (e:0<=v2) (g:v2<101):∃ln,atI [V.int (40+v1),V.int v2,V.int 0,V.int 100,V.int 50] v3=some (V.int ln)/\0<=ln/\ln<=100:=by
 have h:v3=0\/v3=1\/v3=2\/v3=3\/v3=4:=()
 rcases h with rfl | rfl | rfl | rfl | rfl
 ·exact ⟨40+v1,rfl,(),()⟩
 ·exact ⟨v2,rfl,(),()⟩
 ·exact ⟨0,rfl,(),()⟩
 ·exact ⟨100,rfl,(),()⟩
 ·exact ⟨50,rfl,(),()⟩
theorem Zb (c_law_take:Cal P w K mg base 2 "_law_take" ["_law_box_here","_law_size"] xH) (F:Fun K "_law_weather" "_law_weather" ya f fd):FnOk P w K mg base CX0 3 f fd ["_law_box_here"] wk:=by
 refine F.ok vv (λvs H Q E h=>?_) (λcdv A outer s H vs Q E hr h=>?_)
 ·obtain ⟨L,b,rfl,_⟩:=h
  rfl
 ·obtain ⟨L,b,rfl,B,k⟩:=h
  refine ⟨_,(j4 (jr 1 vv.nd (js (jd K) (jC (j0 (jo jT j5 (je c_law_take (hr.mono ⋯) rfl (j0 (pv 0) (j0 j5 j2)))) (j0 (je c_law_take (hr.mono ⋯) rfl (j0 (pv 0) (j0 j5 j2))) (j0 j5 (j0 j5 (j0 j5 j2)))))) (je c_law_take (hr.mono ⋯) rfl (j0 (pv 0) (j0 j5 j2))) (λ_ _=>rfl)))
   (j9 (jk (jI (j0 (pv 1) (j0 (je c_law_take (hr.mono ⋯) rfl (j0 (pv 0) (j0 j5 j2))) (j0 (je c_law_take (hr.mono ⋯) rfl (j0 (pv 0) (j0 j5 j2))) j2))))))),?_⟩
  left
  refine ⟨L,b,_,rfl,B,⟨⋯,⋯⟩,λv1 H1 p1 q1 B1 X1=>?_⟩
  left
  refine ⟨L,b,_,rfl,B1,⟨⋯,⋯⟩,λv2 H2 p2 q2 B2 X2=>?_⟩
  refine ⟨by show 5<=sizeLine;decide,λq Hq hq hqq sq=>?_⟩
  left
  refine ⟨L,b,_,rfl,B2.same sq,⟨⋯,⋯⟩,λv3 H3 p3 q3 B3 X3=>?_⟩
  have hq3:=X3 _ _ hqq (B2.ne hq)
  obtain ⟨ln,hln,l0,l1⟩:=five p3 q3 p1 q1 p2 q2
  refine ⟨_,_,_,_,rfl,rfl,SqL.of hq3,hln,?_⟩
  left
  refine ⟨L,b,_,rfl,B3,⟨⋯,⋯⟩,λv4 H4 p4 q4 B4 X4=>?_⟩
  left
  refine ⟨L,b,_,rfl,B4,⟨⋯,⋯⟩,λv5 H5 p5 q5 B5 X5=>?_⟩
  refine ⟨by show 3<=sizeLine;decide,λp Hp hp hpp sp=>?_⟩
  exact k p _ (ln,v4,v5) (B5.same sp) ((((((X1.trans X2).trans (Ext.of_same sq)).trans X3).trans X4).trans X5).trans (Ext.of_same sp)) hpp (decide_eq_true ⟨l0,l1,p4,(show v4<=9 by right),p5,(show v5<=9 by right)⟩)
noncomputable def wQ:Sp:=λvs H Q _=>∃(L b:Addr),vs=[.ref b]/\jU L H b/\∀(p:Addr) (H':Hp) (xs:List V) (ts:List T3),jU L H' b->Ext b H H'->H p=none->H' p=some (.lst xs)->jp H' xs ts->(1<=ts.length/\ts.length<=12)->ts.all good=true->Q (.ref p) H'
theorem Qs:FnScope ["_law_box_here"] ["_law_box_here"] (j8 zT):=by walk_at "s"
theorem QT {v:Int}(a:0<=v) (b:v<3):∃n,atI [V.int 1,V.int 3,V.int 12] v=some (V.int n)/\0<n/\n<=12:=by
 have h:v=0\/v=1\/v=2:=()
 rcases h with rfl | rfl | rfl
 ·exact ⟨1,rfl,(),()⟩
 ·exact ⟨3,rfl,(),()⟩
 ·exact ⟨12,rfl,(),()⟩
theorem VL (nb:Nb mg) (c_law_take:Cal P w K mg base 2 "_law_take" ["_law_box_here","_law_size"] xH) (c_law_weather:Cal P w K mg base 3 "_law_weather" ["_law_box_here"] wk) (F:Fun K "_law_round" "_law_round" zT f fd):FnOk P w K mg base CX0 4 f fd ["_law_box_here"] wQ:=by
 refine F.ok Qs (λvs H Q E h=>?_) (λcdv A outer s H vs Q E hr h=>?_)
 ·obtain ⟨L,b,rfl,_⟩:=h
  rfl
 ·obtain ⟨L,b,rfl,B,k⟩:=h
  refine ⟨_,(j9 (jk (qa (osc:=(j8 zT)) (ON:=["_law_box_here"]) (N:=["_law_turn","_law_box_here"]) (own:=1) (caps:=[0]) ⟨rfl,∅,∅,∅,rfl,∅⟩ rfl rfl rfl (qi rfl nb.b_range (j0 (jo jT j5 (je c_law_take (hr.mono ⋯) rfl (j0 (pv 0) (j0 (js (jd K) (jC (j0 j5 (j0 j5 (j0 j5 j2)))) (je c_law_take (hr.mono ⋯) rfl (j0 (pv 0) (j0 j5 j2))) (λ_ _=>rfl)) j2)))) j2)) (λ_ _ _ _ _=>(ja (i:=0) (show bu (["_law_turn","_law_box_here"]:List Str) by decide +kernel) rfl (aQ rfl))) (λ_ _ _ _ _=>jN) (λ_ _ _ _ _=>(je c_law_weather (hr.mono ⋯) rfl (j0 (pv 1) j2)))))),?_⟩
  left
  refine ⟨by show 3<=sizeLine;decide,λq Hq hq hqq sq=>?_⟩
  left
  refine ⟨L,b,_,rfl,B.same sq,⟨⋯,⋯⟩,λv1 H1 p1 q1 B1 X1=>?_⟩
  obtain ⟨n,hn,n0,n1⟩:=QT p1 q1
  refine ⟨_,_,_,_,rfl,rfl,SqL.of (X1 _ _ hqq (B.ne hq)),hn,?_⟩
  refine ⟨L,b,_,rfl,B1,⟨n0,()⟩,λv2 H2 p2 q2 B2 X2=>?_⟩
  refine ⟨_,_,rfl,rfl,?_⟩
  refine ⟨1+v2,rfl,(),(),λacc hacc=>?_⟩
  have nb1:=B2.ne hacc
  have nb2:=B2.neL hacc
  have hfree:∀a,H2 a=none->a≠b->H a=none:=λa n nb=>jj.free sq (X1.free (X2.free n nb) nb)
  refine qX (lo:=0) (n:=(1+v2).toNat) (acc:=acc) (λi σ H3=>∃(x:Option V) (xs:List V) (ts:List T3),σ=[x,some (.ref b)]/\jU L H3 b/\(∀c o,H2 c=some o->c≠b->H3 c=some o)/\H3 acc=some (.lst xs)/\jp H3 xs ts/\ts.length=i/\ts.all good=true) ?_ ?_ ?_
  ·exact ⟨none,[],[],rfl,B2.put nb1 nb2,λc o hc n=>Ext.put _ _ hc (j1 hc hacc),j6,.nil,rfl,rfl⟩
  ·rintro i σ H3 hi ⟨x,xs,ts,rfl,B3,ks,h3,r3,hl,hg⟩
   left
   refine ⟨L,b,rfl,B3,λp H4 t B4 X4 hp ht=>?_⟩
   have h4:=X4 _ _ h3 nb1
   have r4:jp H4 xs ts:=r3.imp λp t e=>X4 _ _ e (B3.ne_tup e)
   have hlen:=r4.length
   refine ⟨xs,h4,jh (),_,xs++[.ref p],ts++[t],rfl,B4.put nb1 nb2,λc o hc n=>Ext.put _ _ (X4 _ _ (ks c o hc n) n) (j1 hc hacc),j6,?_,by rw [aq,hl];rfl,by rw [List.all_append,hg];simp [ht]⟩
   exact jp.imp (r4.snoc ⟨p,rfl,hp⟩) λq t e=>Ext.put _ _ e (jn e h4 (by walk_at "z"))
  ·rintro σ H3 ⟨x,xs,ts,rfl,B3,ks,h3,r3,hl,hg⟩
   exact k acc H3 xs ts B3 (λc o hc n=>ks c o (X2 _ _ (X1 _ _ (sq _ _ hc) n) n) n) (hfree acc hacc nb1) h3 r3 () hg
theorem QE:FnScope ["_law_found"] ["_law_found"] (j8 yZ):=by walk_at "s"
theorem Ui (nb:Nb2 mg) (F:Fun K "_law_whole" "_law_whole" yZ f fd):FnOk P w K mg base CX0 1 f fd ["_law_found"] Ym:=by
 refine F.ok QE (λvs H Q E h=>?_) (λcdv A outer s H vs Q E hr h=>?_)
 ·obtain ⟨i,rfl,_⟩:=h
  rfl
 ·obtain ⟨i,rfl,k⟩:=h
  refine ⟨_,(j9 (jk (yH (jc (jW K) rfl nb.b_isinstance bI (j0 (pv 0) (j0 (xp (v:=V.ty "int") rfl nb.b_int mV rfl) j2))) (yu (Ey (jc (jW K) rfl nb.b_isinstance bI (j0 (pv 0) (j0 (xp (v:=V.ty "bool") rfl nb.b_bool i9 rfl) j2)))))))),?_⟩
  left
  refine ⟨_,_,_,_,rfl,.int _,gZ K,_,rfl,ve ?_⟩
  left
  refine ⟨_,_,_,_,rfl,.int _,wM K,_,rfl,?_⟩
  exact k
theorem uD:FnScope ["_law_found","_law_due"] ["_law_found","_law_due"] (j8 zf):=by walk_at "s"
theorem YQ (F:Fun K "_law_alike" "_law_alike" zf f fd):FnOk P w K mg base CX0 1 f fd ["_law_found","_law_due"] (WE 0):=by
 refine F.ok uD (λvs H Q E h=>?_) (λcdv A outer s H vs Q E hr h=>?_)
 ·obtain ⟨x,y,d,rfl,_⟩:=h
  rfl
 ·obtain ⟨x,y,d,rfl,_,_,z,_⟩:=h
  cases z
theorem wq (n:Nat) (nb:Nb2 mg) (c_law_whole:Cal P w K mg base 1 "_law_whole" ["_law_found"] Ym) (c_law_alike:Cal P w K mg base (n+1) "_law_alike" ["_law_found","_law_due"] (WE n)) (F:Fun K "_law_alike" "_law_alike" zf f fd):FnOk P w K mg base CX0 (n+2) f fd ["_law_found","_law_due"] (WE (n+1)):=by
 refine F.ok uD (λvs H Q E h=>?_) (λcdv A outer s H vs Q E hr h=>?_)
 ·obtain ⟨x,y,d,rfl,_⟩:=h
  rfl
 ·obtain ⟨x,y,d,rfl,hx,hy,hs,k⟩:=h
  refine ⟨_,(j4 (jS (jA Ql (pv 1) ul (jD _)) (j9 (jk (xV Ql (pv 0) ul (jD _)))) jx)
   (j4 (jS (y8 (jc (jW K) rfl nb.b_isinstance bI (j0 (pv 1) (j0 (xp (v:=V.ty "bool") rfl nb.b_bool i9 rfl) j2)))) (j9 (jk (yH (jc (jW K) rfl nb.b_isinstance bI (j0 (pv 0) (j0 (xp (v:=V.ty "bool") rfl nb.b_bool i9 rfl) j2))) (yu (xV zy (pv 0) (pv 1) (jD _)))))) jx)
   (j4 (jS (y8 (jc (jW K) rfl nb.b_isinstance bI (j0 (pv 1) (j0 (xp (v:=V.ty "int") rfl nb.b_int mV rfl) j2)))) (j9 (jk (yH (je c_law_whole (hr.mono ()) rfl (j0 (pv 0) j2)) (yu (xV zy (pv 0) (pv 1) (jD _)))))) jx)
   (j4 (jS (y8 (jc (jW K) rfl nb.b_isinstance bI (j0 (pv 1) (j0 (xp (v:=V.ty "str") rfl nb.b_str mW rfl) j2)))) (j9 (jk (yH (jc (jW K) rfl nb.b_isinstance bI (j0 (pv 0) (j0 (xp (v:=V.ty "str") rfl nb.b_str mW rfl) j2))) (yu (xV zy (pv 0) (pv 1) (jD _)))))) jx)
   (j4 (jS (PW.pt (Ju (jA UU (jc (jW K) rfl nb.b_isinstance bI (j0 (pv 1) (j0 (xp (v:=V.ty "list") rfl nb.b_list bT rfl) j2))) (jc (jW K) rfl nb.b_isinstance bI (j0 (pv 0) (j0 (xp (v:=V.ty "list") rfl nb.b_list bT rfl) j2))) (jD _)) (hV (jA UU (jc (jW K) rfl nb.b_isinstance bI (j0 (pv 1) (j0 (xp (v:=V.ty "tuple") rfl nb.b_tuple cJ rfl) j2))) (jc (jW K) rfl nb.b_isinstance bI (j0 (pv 0) (j0 (xp (v:=V.ty "tuple") rfl nb.b_tuple cJ rfl) j2))) (jD _))))) (j9 (jk XM)) jx)
   (j9 (jk (yH (xV zy (jc (jf K) rfl nb.b_len aR (j0 (pv 0) j2)) (jc (jf K) rfl nb.b_len aR (j0 (pv 1) j2)) (jD _)) (yu (jc (yd K rfl) rfl nb.b_all pX (j0 (qa (osc:=(j8 zf)) (ON:=["_law_found","_law_due"]) (N:=["_law_one","_law_other"]) (own:=2) (caps:=[]) ⟨rfl,∅,∅,∅,rfl,∅⟩ rfl rfl rfl (Wh K rfl nb.b_zip (j0 (pv 0) (j0 (pv 1) j2))) (λ_ _ _ _ _=>(qj (n:=2) K rfl (jm (ja (i:=0) (show bu (["_law_one","_law_other"]:List Str) by decide +kernel) rfl (aQ rfl)) (jm (ja (i:=1) (show bu (["_law_one","_law_other"]:List Str) by decide +kernel) rfl (aQ rfl)) qh)))) (λ_ _ _ _ _=>jN) (λ_ _ _ _ _=>(je c_law_alike (hr.mono ()) rfl (j0 (pv 0) (j0 (pv 1) j2))))) j2))))))))))),?_⟩
  cases d with
  | none =>
   cases hx;cases hy
   left
   exact k H (jj.refl _)
  | bool b =>
   cases hx;cases hy
   left
   refine ⟨_,_,_,_,rfl,.bl _,uM K,_,rfl,ve ?_⟩
   left
   refine ⟨_,_,_,_,rfl,.bl _,uM K,_,rfl,ve ?_⟩
   left
   have k':=k H (jj.refl _)
   rw [decide_eq_true rfl]
   exact k'
  | int i =>
   cases hx;cases hy
   left
   refine ⟨_,_,_,_,rfl,.int _,wM K,_,rfl,uF ?_⟩
   left
   refine ⟨_,_,_,_,rfl,.int _,gZ K,_,rfl,ve ?_⟩
   left
   have k':=k H (jj.refl _)
   rw [decide_eq_true rfl]
   exact k'
  | str i =>
   cases hx;cases hy
   left
   refine ⟨_,_,_,_,rfl,.str _,Xd K,_,rfl,uF ?_⟩
   left
   refine ⟨_,_,_,_,rfl,.str _,Z8 K,_,rfl,uF ?_⟩
   left
   refine ⟨_,_,_,_,rfl,.str _,Jc K,_,rfl,ve ?_⟩
   left
   refine ⟨_,_,_,_,rfl,.str _,Jc K,_,rfl,ve ?_⟩
   left
   have k':=k H (jj.refl _)
   rw [decide_eq_true rfl]
   exact k'
  | list ds =>
   cases hx with
   | @lst a va _ ha da =>
   cases hy with
   | @lst b vb _ hb db =>
   have el:=da.length
   have el2:=db.length
   have hsm:ds.length<=1000/\ds.all (zB n)=true:=by
    have z:(decide (ds.length<=1000) && ds.all (zB n))=true:=hs
    rw [bb] at z
    exact ⟨of_decide_eq_true z.1,z.2⟩
   left
   refine ⟨_,_,_,_,rfl,.lst hb,QH K,_,rfl,uF ?_⟩
   left
   refine ⟨_,_,_,_,rfl,.lst hb,QL K,_,rfl,uF ?_⟩
   left
   refine ⟨_,_,_,_,rfl,.lst hb,XO K,_,rfl,uF ?_⟩
   left
   refine ⟨_,_,_,_,rfl,.lst hb,ut K,?_⟩
   left
   refine ⟨_,_,_,_,rfl,.lst ha,ut K,?_⟩
   left
   refine ⟨_,_,_,_,rfl,.lst hb,vT K,?_⟩
   left
   refine ⟨_,_,_,_,rfl,.lst ha,vT K,?_⟩
   left
   refine ⟨_,_,rfl,.inl (SqL.of ha),?_⟩
   left
   refine ⟨_,_,rfl,.inl (SqL.of hb),?_⟩
   left
   rw [el,el2]
   refine qr (λ_=>?_) (λz=>absurd rfl z)
   left
   refine ⟨false,false,_,_,rfl,⟨_,SqL.of ha⟩,⟨_,SqL.of hb⟩,λacc hacc=>?_⟩
   refine Jt (K:=K) (t0:=false) (u0:=false) (a:=a) (b:=b) (xs:=va) (ys:=vb) (acc:=acc) (el.trans el2.symm) (λj σ H2=>∃x y:Option V,σ=[x,y]/\H2 acc=some (.lst ((bJ j true).map V.bl))/\Ext acc H H2) ?_ ?_ ?_ ?_
   ·exact ⟨none,none,rfl,j6,Ext.put⟩
   ·rintro j σ H2 hj ⟨x,y,rfl,h3,e3⟩
    exact ⟨SqL.of (e3 _ _ ha (j1 ha hacc)),SqL.of (e3 _ _ hb (j1 hb hacc))⟩
   ·rintro j x y σ H2 p hx hy ⟨v1,v2,rfl,h3,e3⟩ hp
    obtain ⟨d1,hd1,q1⟩:=da.get hx
    obtain ⟨d2,hd2,q2⟩:=db.get hy
    rw [hd1] at hd2
    cases hd2
    have hj:j<ds.length:=(List.getElem?_eq_some_iff.mp hd1).1
    have s2:jj H (upd H2 p (.tup [x,y])):=λc o hc=>(jj.new hp) _ _ (e3 _ _ hc (j1 hc hacc))
    have q1':=q1.same s2
    have q2':=q2.same s2
    have h3':upd H2 p (.tup [x,y]) acc=_:=(jj.new hp) _ _ h3
    have e3':Ext acc H (upd H2 p (.tup [x,y])):=λc o hc n=>(jj.new hp) _ _ (e3 _ _ hc n)
    have hp':upd H2 p (.tup [x,y]) p=some (.tup [x,y]):=j6
    generalize upd H2 p (.tup [x,y])=H4 at s2 q1' q2' h3' e3' hp'
    left
    refine ⟨p,_,rfl,SqT.of hp',rfl,?_⟩
    refine ⟨_,_,rfl,_,_,rfl,rfl,?_⟩
    left
    refine ⟨x,y,d1,rfl,q1',q2',List.all_eq_true.mp hsm.2 _ (az hd1),λH5 s5=>?_⟩
    refine ⟨_,s5 _ _ h3',by rw [ah,bX];exact jh (),_,_,rfl,?_,λc o hc n=>by rw [j7 n];exact s5 _ _ (e3' c o hc n)⟩
    rw [j6,nU,aG]
    rfl
   ·rintro σ H2 ⟨v1,v2,rfl,h3,e3⟩
    refine ⟨acc,_,rfl,SqL.of h3,?_⟩
    have e:((bJ va.length true).all λb=>b)=true:=by
     rw [bP]
     intro x hx
     exact (List.mem_replicate.mp hx).2
    rw [e]
    exact k H2 λc o hc=>e3 c o hc (j1 hc hacc)
  | tuple ds =>
   cases hx with
   | @tup a va _ ha da =>
   cases hy with
   | @tup b vb _ hb db =>
   have el:=da.length
   have el2:=db.length
   have hsm:ds.length<=1000/\ds.all (zB n)=true:=by
    have z:(decide (ds.length<=1000) && ds.all (zB n))=true:=hs
    rw [bb] at z
    exact ⟨of_decide_eq_true z.1,z.2⟩
   left
   refine ⟨_,_,_,_,rfl,.tup hb,Je K,_,rfl,uF ?_⟩
   left
   refine ⟨_,_,_,_,rfl,.tup hb,QG K,_,rfl,uF ?_⟩
   left
   refine ⟨_,_,_,_,rfl,.tup hb,Qh K,_,rfl,uF ?_⟩
   left
   refine ⟨_,_,_,_,rfl,.tup hb,vO K,?_⟩
   left
   refine ⟨_,_,_,_,rfl,.tup ha,vO K,?_⟩
   left
   refine ⟨_,_,_,_,rfl,.tup hb,vy K,?_⟩
   left
   refine ⟨_,_,_,_,rfl,.tup ha,vy K,?_⟩
   left
   refine ⟨_,_,rfl,.inr (SqT.of ha),?_⟩
   left
   refine ⟨_,_,rfl,.inr (SqT.of hb),?_⟩
   left
   rw [el,el2]
   refine qr (λ_=>?_) (λz=>absurd rfl z)
   left
   refine ⟨true,true,_,_,rfl,⟨_,SqT.of ha⟩,⟨_,SqT.of hb⟩,λacc hacc=>?_⟩
   refine Jt (K:=K) (t0:=true) (u0:=true) (a:=a) (b:=b) (xs:=va) (ys:=vb) (acc:=acc) (el.trans el2.symm) (λj σ H2=>∃x y:Option V,σ=[x,y]/\H2 acc=some (.lst ((bJ j true).map V.bl))/\Ext acc H H2) ?_ ?_ ?_ ?_
   ·exact ⟨none,none,rfl,j6,Ext.put⟩
   ·rintro j σ H2 hj ⟨x,y,rfl,h3,e3⟩
    exact ⟨SqT.of (e3 _ _ ha (j1 ha hacc)),SqT.of (e3 _ _ hb (j1 hb hacc))⟩
   ·rintro j x y σ H2 p hx hy ⟨v1,v2,rfl,h3,e3⟩ hp
    obtain ⟨d1,hd1,q1⟩:=da.get hx
    obtain ⟨d2,hd2,q2⟩:=db.get hy
    rw [hd1] at hd2
    cases hd2
    have hj:j<ds.length:=(List.getElem?_eq_some_iff.mp hd1).1
    have s2:jj H (upd H2 p (.tup [x,y])):=λc o hc=>(jj.new hp) _ _ (e3 _ _ hc (j1 hc hacc))
    have q1':=q1.same s2
    have q2':=q2.same s2
    have h3':upd H2 p (.tup [x,y]) acc=_:=(jj.new hp) _ _ h3
    have e3':Ext acc H (upd H2 p (.tup [x,y])):=λc o hc n=>(jj.new hp) _ _ (e3 _ _ hc n)
    have hp':upd H2 p (.tup [x,y]) p=some (.tup [x,y]):=j6
    generalize upd H2 p (.tup [x,y])=H4 at s2 q1' q2' h3' e3' hp'
    left
    refine ⟨p,_,rfl,SqT.of hp',rfl,?_⟩
    refine ⟨_,_,rfl,_,_,rfl,rfl,?_⟩
    left
    refine ⟨x,y,d1,rfl,q1',q2',List.all_eq_true.mp hsm.2 _ (az hd1),λH5 s5=>?_⟩
    refine ⟨_,s5 _ _ h3',by rw [ah,bX];exact jh (),_,_,rfl,?_,λc o hc n=>by rw [j7 n];exact s5 _ _ (e3' c o hc n)⟩
    rw [j6,nU,aG]
    rfl
   ·rintro σ H2 ⟨v1,v2,rfl,h3,e3⟩
    refine ⟨acc,_,rfl,SqL.of h3,?_⟩
    have e:((bJ va.length true).all λb=>b)=true:=by
     rw [bP]
     intro x hx
     exact (List.mem_replicate.mp hx).2
    rw [e]
    exact k H2 λc o hc=>e3 c o hc (j1 hc hacc)
  | _=>cases hx
noncomputable def GF:Sp:=λvs H Q _=>∃(L b:Addr),vs=[.ref b]/\jU L H b/\∀(z:Int) (H':Hp),jU L H' b->Ext b H H'->Q (.int z) H'
theorem J5:FnScope ["_law_box_here","_law_some"] ["_law_box_here"] (j8 uZ):=by walk_at "s"
theorem GR (c_law_take:Cal P w K mg base 2 "_law_take" ["_law_box_here","_law_size"] xH) (F:Fun K "_law_odd" "_law_odd" uZ f fd):FnOk P w K mg base CX0 3 f fd ["_law_box_here"] GF:=by
 refine F.ok J5 (λvs H Q E h=>?_) (λcdv A outer s H vs Q E hr h=>?_)
 ·obtain ⟨L,b,rfl,_⟩:=h
  rfl
 ·obtain ⟨L,b,rfl,B,k⟩:=h
  refine ⟨_,(j4 (jr 1 J5.nd (jC (j0 (jo qx j5 j5) (j0 j5 (j0 j5 (j0 j5 (j0 (jo qx (jo qx j5 j5) (je c_law_take (hr.mono ⋯) rfl (j0 (pv 0) (j0 (jo uk j5 j5) j2)))) (j0 j5 (j0 j5 (j0 j5 (j0 j5 (j0 (jo uk j5 j5) (j0 (jo jT (jo uk j5 j5) j5) (j0 j5 j2))))))))))))))
   (j9 (jk (js (jd K) (pv 1) (je c_law_take (hr.mono ⋯) rfl (j0 (pv 0) (j0 j5 j2))) (λ_ _=>rfl))))),?_⟩
  left
  refine ⟨L,b,_,rfl,B,⟨⋯,⋯⟩,λv1 H1 p1 q1 B1 X1=>?_⟩
  left
  refine ⟨by show 12<=sizeLine;decide,λq Hq hq hqq sq=>?_⟩
  left
  refine ⟨L,b,_,rfl,B1.same sq,⟨⋯,⋯⟩,λv2 H2 p2 q2 B2 X2=>?_⟩
  have hq2:=X2 _ _ hqq (B1.ne hq)
  obtain ⟨z,hz⟩:=yA (ns:=[0-1,1,100,101,0-1-v1,9,10,13,31,10 ^ (40:Int).toNat,10 ^ (40:Int).toNat+1,99]) p2 q2
  refine ⟨_,_,_,_,rfl,rfl,SqL.of hq2,hz,?_⟩
  exact k z _ B2 ((X1.trans (Ext.of_same sq)).trans X2)
noncomputable def vV:Sp:=λvs H Q _=>∃(L b:Addr) (tp sz:Int),vs=[.ref b,.int tp,.int sz]/\jU L H b/\tp<=99/\0<=sz/\sz<=100/\∀p H' (hs:List Int),jU L H' b->Ext b H H'->H p=none->H' p=some (.lst (hs.map V.int))->(hs.length:Int)=sz->(∀x∈hs,0<=x/\x<=99)->Q (.ref p) H'
theorem xi:FnScope ["_law_box_here","_law_top","_law_size","_law_pick","_law_step"] ["_law_box_here","_law_top","_law_size"] (j8 qv):=by walk_at "s"
theorem wT (nb:Nb2 mg) (c_law_take:Cal P w K mg base 2 "_law_take" ["_law_box_here","_law_size"] xH) (F:Fun K "_law_ground_drawn" "_law_ground_drawn" qv f fd):FnOk P w K mg base CX0 3 f fd ["_law_box_here","_law_top","_law_size"] vV:=by
 refine F.ok xi (λvs H Q E h=>?_) (λcdv A outer s H vs Q E hr h=>?_)
 ·obtain ⟨L,b,tp,sz,rfl,_⟩:=h
  rfl
 ·obtain ⟨L,b,tp,sz,rfl,B,htp,h0,h1,k⟩:=h
  refine ⟨_,(j4 (jr 3 xi.nd (je c_law_take (hr.mono ⋯) rfl (j0 (pv 0) (j0 j5 j2))))
   (j4 (jS (jA zy (pv 3) j5 (jD _)) (j9 (jk (qa (osc:=(j8 qv)) (ON:=["_law_box_here","_law_top","_law_size","_law_pick","_law_step"]) (N:=["_law_turn","_law_box_here"]) (own:=1) (caps:=[0]) ⟨rfl,∅,∅,∅,rfl,∅⟩ rfl rfl rfl (qi rfl nb.b_range (j0 (pv 2) j2)) (λ_ _ _ _ _=>(ja (i:=0) (show bu (["_law_turn","_law_box_here"]:List Str) by decide +kernel) rfl (aQ rfl))) (λ_ _ _ _ _=>jN) (λ_ _ _ _ _=>(je c_law_take (hr.mono ⋯) rfl (j0 (pv 1) (j0 j5 j2))))))) jx)
   (j4 (yI (i:=4) xi.nd rfl (iM rfl) (jo jT j5 (je c_law_take (hr.mono ⋯) rfl (j0 (pv 0) (j0 j5 j2)))))
   (j9 (jk (qa (osc:=(j8 qv)) (ON:=["_law_box_here","_law_top","_law_size","_law_pick","_law_step"]) (N:=["_law_place","_law_top","_law_step"]) (own:=1) (caps:=[1,4]) ⟨rfl,∅,∅,∅,rfl,∅⟩ rfl rfl rfl (qi rfl nb.b_range (j0 (pv 2) j2)) (λ_ _ _ _ _=>(ja (i:=0) (show bu (["_law_place","_law_top","_law_step"]:List Str) by decide +kernel) rfl (aQ rfl))) (λ_ _ _ _ _=>jN) (λ_ _ _ _ _=>(jc (zx rfl) rfl nb.b_max nW (j0 j5 (j0 (jo qx (pv 1) (jo w5 (pv 2) (pv 0))) j2)))))))))),?_⟩
  left
  refine ⟨L,b,_,rfl,B,⟨⋯,⋯⟩,λv1 H1 p1 q1 B1 X1=>?_⟩
  left
  refine qr (λ_=>?_) (λ_=>?_)
  ·left
   refine ⟨(),(),λacc hacc=>?_⟩
   have na1:=B1.ne hacc
   have na2:=B1.neL hacc
   refine qX (lo:=0) (n:=sz.toNat) (acc:=acc) (λi σ H2=>∃(x:Option V) (hs:List Int),σ=[x,some (.ref b)]/\jU L H2 b/\H2 acc=some (.lst (hs.map V.int))/\hs.length=i/\(∀x∈hs,0<=x/\x<=99)/\Ext b H1 H2) ?_ ?_ ?_
   ·exact ⟨none,[],rfl,B1.put na1 na2,j6,rfl,(by intro x hx;cases hx),Ext.new hacc⟩
   ·rintro i σ H2 hi ⟨x,hs,rfl,B2,h2,hl,hb,e2⟩
    left
    refine ⟨L,b,_,rfl,B2,⟨⋯,⋯⟩,λv H3 p3 q3 B3 X3=>?_⟩
    have h3:=X3 _ _ h2 na1
    refine ⟨_,h3,by rw [ah];exact jh (),_,hs++[v],rfl,B3.put na1 na2,by rw [j6,aG];rfl,by rw [aq,hl];rfl,λx hx=>?_,λc o hc n=>?_⟩
    ·rcases List.mem_append.mp hx with hx | hx
     ·exact hb x hx
     ·have:x=v:=by simpa using hx
      right
    ·rw [j7 (j1 hc hacc)]
     exact X3 _ _ (e2 c o hc n) n
   ·rintro σ H2 ⟨x,hs,rfl,B2,h2,hl,hb,e2⟩
    exact k acc H2 hs B2 (X1.trans e2) (X1.free hacc na1) h2 () hb
  ·left
   refine ⟨L,b,_,rfl,B1,⟨⋯,⋯⟩,λv2 H2 p2 q2 B2 X2=>?_⟩
   left
   refine ⟨(),(),λacc hacc=>?_⟩
   have na1:=B2.ne hacc
   have na2:=B2.neL hacc
   refine qX (lo:=0) (n:=sz.toNat) (acc:=acc) (λi σ H3=>∃(x:Option V) (hs:List Int),σ=[x,some (.int tp),some (.int (1+v2))]/\jU L H3 b/\H3 acc=some (.lst (hs.map V.int))/\hs.length=i/\(∀x∈hs,0<=x/\x<=99)/\Ext b H2 H3) ?_ ?_ ?_
   ·exact ⟨none,[],rfl,B2.put na1 na2,j6,rfl,(by intro x hx;cases hx),Ext.new hacc⟩
   ·rintro i σ H3 hi ⟨x,hs,rfl,B3,h3,hl,hb,e3⟩
    left
    have hm:(0:Int)<=(1+v2)*(0+(i:Int)):=Int.mul_nonneg () ()
    refine ⟨_,_,rfl,?_⟩
    refine ⟨_,h3,by rw [ah];exact jh (),_,hs++[if tp-(1+v2)*(0+(i:Int)) > 0 then tp-(1+v2)*(0+(i:Int)) else 0],rfl,B3.put na1 na2,by rw [j6,aG];rfl,by rw [aq,hl];rfl,λx hx=>?_,λc o hc n=>?_⟩
    ·rcases List.mem_append.mp hx with hx | hx
     ·exact hb x hx
     ·have:x=if tp-(1+v2)*(0+(i:Int)) > 0 then tp-(1+v2)*(0+(i:Int)) else 0:=by simpa using hx
      rw [this]
      split <;> right
    ·rw [j7 (j1 hc hacc)]
     exact e3 c o hc n
   ·rintro σ H3 ⟨x,hs,rfl,B3,h3,hl,hb,e3⟩
    have hacc1:=X2.free hacc na1
    exact k acc H3 hs B3 ((X1.trans X2).trans e3) (X1.free hacc1 na1) h3 () hb
structure RD (L b tp rw dp:Addr) (H0:Hp):Prop where
 tb:tp≠b
 rb:rw≠b
 db:dp≠b
 tL:tp≠L
 rL:rw≠L
 dL:dp≠L
 tr:tp≠rw
 td:tp≠dp
 rd:rw≠dp
 nt:H0 tp=none
 nr:H0 rw=none
 nd:H0 dp=none
structure RG (L b tp rw dp:Addr) (H0 H:Hp) (ts:List Int) (xs:List V) (rs:List Rch) (ds:List Int):Prop where
 box:jU L H b
 htp:H tp=some (.lst (ts.map V.int))
 hrw:H rw=some (.lst xs)
 hdp:H dp=some (.lst (ds.map V.int))
 rows:qd H xs rs
 ext:Ext b H0 H
section
variable {L b tp rw dp:Addr}{H0 H H':Hp}{ts ds:List Int}{xs:List V}{rs:List Rch}
theorem RG.take (D:RD L b tp rw dp H0) (G:RG L b tp rw dp H0 H ts xs rs ds) (B:jU L H' b) (X:Ext b H H'):RG L b tp rw dp H0 H' ts xs rs ds :=
 ⟨B,X _ _ G.htp D.tb,X _ _ G.hrw D.rb,X _ _ G.hdp D.db,G.rows.keep (by obtain ⟨ns,a,r,c,d,h1,_⟩:=G.box;exact ji.lst X h1),G.ext.trans X⟩
theorem RG.same (G:RG L b tp rw dp H0 H ts xs rs ds) (s:jj H H'):RG L b tp rw dp H0 H' ts xs rs ds :=
 ⟨G.box.same s,s _ _ G.htp,s _ _ G.hrw,s _ _ G.hdp,G.rows.keep (ji.same s),G.ext.trans (Ext.of_same s)⟩
theorem RG.extN (G:RG L b tp rw dp H0 H ts xs rs ds) (hn:H a=none) (e:Ext a H H'):RG L b tp rw dp H0 H' ts xs rs ds:=G.same λc o h=>e c o h (j1 h hn)
theorem RG.putT (D:RD L b tp rw dp H0) (G:RG L b tp rw dp H0 H ts xs rs ds) (ts':List Int):RG L b tp rw dp H0 (upd H tp (.lst (ts'.map V.int))) ts' xs rs ds :=
 ⟨G.box.put D.tb D.tL,j6,by rw [j7 D.tr.symm];exact G.hrw,by rw [j7 D.td.symm];exact G.hdp,G.rows.keep (ji.lst Ext.put G.htp),λc o h n=>by rw [j7 (j1 h D.nt)];exact G.ext c o h n⟩
theorem RG.putR (D:RD L b tp rw dp H0) (G:RG L b tp rw dp H0 H ts xs rs ds) (q:Qf H v r):RG L b tp rw dp H0 (upd H rw (.lst (xs++[v]))) ts (xs++[v]) (rs++[r]) ds :=
 ⟨G.box.put D.rb D.rL,by rw [j7 D.tr];exact G.htp,j6,by rw [j7 D.rd.symm];exact G.hdp,(G.rows.snoc q).keep (ji.lst Ext.put G.hrw),λc o h n=>by rw [j7 (j1 h D.nr)];exact G.ext c o h n⟩
theorem RG.putD (D:RD L b tp rw dp H0) (G:RG L b tp rw dp H0 H ts xs rs ds) (ds':List Int):RG L b tp rw dp H0 (upd H dp (.lst (ds'.map V.int))) ts xs rs ds' :=
 ⟨G.box.put D.db D.dL,by rw [j7 D.td];exact G.htp,by rw [j7 D.rd];exact G.hrw,j6,G.rows.keep (ji.lst Ext.put G.hdp),λc o h n=>by rw [j7 (j1 h D.nd)];exact G.ext c o h n⟩
end
noncomputable def xO (rs:List Rch):List Int:=(aI rs.length).map λi=>jG rs (qG rs i)
theorem Xy {t:Int}{hs:List Int}(G:Grown rs) (h0:0<=t) (h1:t<rs.length) (hx:okR rs.length (t,hs)=true):xO (rs++[(t,hs)])=xO rs++[jG rs (qG rs t.toNat)+hs.length]:=by
 have Ld:=qk G.ok
 unfold xO
 rw [aq,ba,cG,aG]
 congr 1
 ·apply dM
  intro i hi
  have hi':=List.mem_range.mp hi
  rw [vH Ld hi',zc _ (zg Ld i hi')]
 ·show [jG (rs++[(t,hs)]) (qG (rs++[(t,hs)]) rs.length)]=[_]
  rw [G.deep_snoc h0 h1 hx]
theorem VD {rs:List Rch}{t:Int}(h0:0<=t) (h1:t<rs.length):atI ((xO rs).map V.int) t=some (.int (jG rs (qG rs t.toNat))):=by
 refine qQ h0 ?_
 unfold xO
 rw [aA,aA,dN ()]
 rfl
theorem G9 {i:Nat}{t sz:Int}{hs:List Int}(hi:0<i) (h0:0<=t) (h1:t<i) (hl:(hs.length:Int)=sz) (hz0:1<=sz) (hz1:sz<=12) (hb:∀x∈hs,0<=x/\x<=99):okR i (t,hs)=true:=by
 unfold okR xM
 rw [if_neg (),decide_eq_true (show 0<=t/\t<(i:Int) from ⟨h0,h1⟩),decide_eq_true (show 1<=(hs.length:Int)/\(hs.length:Int)<=12 by right),dI,dI,bP]
 intro x hx
 exact decide_eq_true (hb x hx)
noncomputable def kI:Sp:=λvs H Q _=>∃(L b:Addr),vs=[.ref b]/\jU L H b/\∀p H' xs rs,jU L H' b->Ext b H H'->H p=none->H' p=some (.lst xs)->qd H' xs rs->Grown rs->1<=rs.length->rs.length<=8->Q (.ref p) H'
theorem jK:FnScope ["_law_box_here","_law_tops","_law_sizes","_law_rows","_law_deep","_law_number","_law_to","_law_led","_law_heads","_law_size"] ["_law_box_here"] (j8 xn):=by walk_at "s"
theorem EA {v:Int}(a:0<=v) (b:v<3):∃n,atI [V.int 1,V.int 3,V.int 8] v=some (V.int n)/\0<n/\n<=8:=by
 have h:v=0\/v=1\/v=2:=()
 rcases h with rfl | rfl | rfl
 ·exact ⟨1,rfl,(),()⟩
 ·exact ⟨3,rfl,(),()⟩
 ·exact ⟨8,rfl,(),()⟩
theorem ZD (nb:Nb2 mg) (c_law_take:Cal P w K mg base 2 "_law_take" ["_law_box_here","_law_size"] xH) (c_law_ground_drawn:Cal P w K mg base 3 "_law_ground_drawn" ["_law_box_here","_law_top","_law_size"] vV) (F:Fun K "_law_reaches" "_law_reaches" xn f fd):FnOk P w K mg base CX0 4 f fd ["_law_box_here"] kI:=by
 refine F.ok jK (λvs H Q E h=>?_) (λcdv A outer s H vs Q E hr h=>?_)
 ·obtain ⟨L,b,rfl,_⟩:=h
  rfl
 ·obtain ⟨L,b,rfl,B,k⟩:=h
  refine ⟨_,(j4 (jr 1 jK.nd (jC (j0 (jo jT j5 (je c_law_take (hr.mono ⋯) rfl (j0 (pv 0) (j0 j5 j2)))) j2)))
   (j4 (jr 2 jK.nd (jC (j0 (jo jT j5 (je c_law_take (hr.mono ⋯) rfl (j0 (pv 0) (j0 j5 j2)))) j2)))
   (j4 (jr 3 jK.nd (jC (j0 (jI (j0 (jo qx j5 j5) (j0 (qA (xK K) rfl nb.b_tuple cJ (j0 (je c_law_ground_drawn (hr.mono ⋯) rfl (j0 (pv 0) (j0 (js (jd K) (pv 1) j5 (λ_ _=>rfl)) (j0 (js (jd K) (pv 2) j5 (λ_ _=>rfl)) j2)))) j2)) j2))) j2)))
   (j4 (jr 4 jK.nd (jC (j0 (js (jd K) (pv 2) j5 (λ_ _=>rfl)) j2)))
   (j4 (qw aX rfl (Yz rfl nb.b_range (j0 j5 (j0 (jo jT j5 (je c_law_take (hr.mono ⋯) rfl (j0 (pv 0) (j0 (js (jd K) (jC (j0 j5 (j0 j5 (j0 j5 j2)))) (je c_law_take (hr.mono ⋯) rfl (j0 (pv 0) (j0 j5 j2))) (λ_ _=>rfl)) j2)))) j2))) (ja (i:=5) jK.nd rfl (aQ rfl)) (j4 (jr 6 jK.nd (je c_law_take (hr.mono ⋯) rfl (j0 (pv 0) (j0 (pv 5) j2))))
   (j4 (yI (i:=7) jK.nd rfl (iM rfl) (qa (osc:=(j8 xn)) (ON:=["_law_box_here","_law_tops","_law_sizes","_law_rows","_law_deep","_law_number","_law_to","_law_led","_law_heads","_law_size"]) (N:=["_law_row_here"]) (own:=1) (caps:=[]) ⟨rfl,∅,∅,∅,rfl,∅⟩ rfl rfl rfl (qc K (pv 3)) (λ_ _ _ _ _=>(ja (i:=0) (show bu (["_law_row_here"]:List Str) by decide +kernel) rfl (aQ rfl))) (λ_ _ _ _ _=>jN) (λ_ _ _ _ _=>(js (xb K) (pv 0) j5 (λ_ _=>rfl)))))
   (j4 (jr 8 jK.nd (jc (jf K) rfl nb.b_len aR (j0 (qa (osc:=(j8 xn)) (ON:=["_law_box_here","_law_tops","_law_sizes","_law_rows","_law_deep","_law_number","_law_to","_law_led","_law_heads","_law_size"]) (N:=["_law_one","_law_led"]) (own:=1) (caps:=[7]) ⟨rfl,∅,∅,∅,rfl,∅⟩ rfl rfl rfl (qi rfl nb.b_range (j0 (pv 5) j2)) (λ_ _ _ _ _=>(ja (i:=0) (show bu (["_law_one","_law_led"]:List Str) by decide +kernel) rfl (aQ rfl))) (λ_ _ _ _ _=>(vp (jA (xS K) (pv 0) (pv 1) (by with_unfolding_all rfl)))) (λ_ _ _ _ _=>(pv 0))) j2)))
   (yK (jS (PW.pt (ZO (jA zy (pv 8) j5 (jD _)) (QI (jA (Z6 K) (pv 6) (pv 7) (by with_unfolding_all rfl))))) (j9 (jr 6 jK.nd (jo qx (pv 5) j5))) jx)
   (j9 (jS (jA yQ (js (jd K) (pv 4) (pv 6) (λ_ _=>rfl)) j5 (jD _)) (j4 (jr 9 jK.nd (jo jT j5 (je c_law_take (hr.mono ⋯) rfl (j0 (pv 0) (j0 (jc (yi rfl) rfl nb.b_min pY (j0 j5 (j0 (jo qx j5 (js (jd K) (pv 4) (pv 6) (λ_ _=>rfl))) j2))) j2)))))
   (j4 (jP (xP K b7 bf bg jX (pv 1) (j0 (jc (yi rfl) rfl nb.b_min pY (j0 j5 (j0 (jo jT (js (jd K) (pv 1) (pv 6) (λ_ _=>rfl)) (je c_law_take (hr.mono ⋯) rfl (j0 (pv 0) (j0 j5 j2)))) j2))) j2)))
   (j4 (jP (xP K b7 bf bg jX (pv 3) (j0 (jI (j0 (pv 6) (j0 (qA (xK K) rfl nb.b_tuple cJ (j0 (je c_law_ground_drawn (hr.mono ⋯) rfl (j0 (pv 0) (j0 (js (jd K) (pv 1) (vP y7 j5) (λ_ _=>rfl)) (j0 (pv 9) j2)))) j2)) j2))) j2)))
   (j9 (jP (xP K b7 bf bg jX (pv 4) (j0 (jo jT (js (jd K) (pv 4) (pv 6) (λ_ _=>rfl)) (pv 9)) j2))))))) (j9 (jk (pv 3))))))))))
   (j9 (jk (pv 3)))))))),?_⟩
  left
  refine ⟨L,b,_,rfl,B,⟨⋯,⋯⟩,λv1 H1 p1 q1 B1 X1=>?_⟩
  left
  refine ⟨by show 1<=sizeLine;decide,λtp H2 htp htp2 s2=>?_⟩
  have B2:=B1.same s2
  left
  refine ⟨L,b,_,rfl,B2,⟨⋯,⋯⟩,λv2 H3 p3 q3 B3 X3=>?_⟩
  have tb:=B1.ne htp
  have tL:=B1.neL htp
  left
  refine ⟨by show 1<=sizeLine;decide,λsz H4 hsz hsz4 s4=>?_⟩
  have B4:=B3.same s4
  have htp4:=s4 _ _ (X3 _ _ htp2 tb)
  left
  refine ⟨L,b,20+v1,1+v2,rfl,B4,(),(),(),λgl H5 hs B5 X5 hgl hgl5 hl hb=>?_⟩
  have szb:=B3.ne hsz
  have htp5:=X5 _ _ htp4 tb
  have hsz5:=X5 _ _ hsz4 szb
  refine ⟨gl,_,rfl,SqL.of hgl5,λgt H6 hgt hgt6 s6=>?_⟩
  refine ⟨by show 2<=sizeLine;decide,λrt H7 hrt hrt7 s7=>?_⟩
  refine ⟨by show 1<=sizeLine;decide,λrw H8 hrw hrw8 s8=>?_⟩
  have B8:=((B5.same s6).same s7).same s8
  have sm58:jj H5 H8:=(s6.trans s7).trans s8
  have hsz8:=sm58 _ _ hsz5
  have htp8:=sm58 _ _ htp5
  have hrw5:H5 rw=none:=(s6.trans s7).free hrw
  have B7:=(B5.same s6).same s7
  have rb:=B7.ne hrw
  have rL:=B7.neL hrw
  have tr:tp≠rw:=j1 ((s6.trans s7) _ _ htp5) hrw
  left
  refine ⟨by show 1<=sizeLine;decide,λdp H9 hdp hdp9 s9=>?_⟩
  have db:=B8.ne hdp
  have dL:=B8.neL hdp
  have td:tp≠dp:=j1 htp8 hdp
  have rd:rw≠dp:=j1 hrw8 hdp
  have nz:∀a,H8 a=none->a≠b->a≠L->H a=none:=λa ha ab aL=>by
   have a5:=sm58.free ha
   have a4:=X5.free a5 ab
   exact X1.free (s2.free (X3.free (s4.free a4) ab)) ab
  have nt:H tp=none:=X1.free htp tb
  have nr:H rw=none:=X1.free (s2.free (X3.free (s4.free (X5.free hrw5 rb)) rb)) rb
  have nd:H dp=none:=nz dp hdp db dL
  have D:RD L b tp rw dp H:=⟨tb,rb,db,tL,rL,dL,tr,td,rd,nt,nr,nd⟩
  have ok0:wf [((0-1:Int),hs)]=true:=by
   unfold wf okR xM
   simp only [ba,List.range_one,oB,List.all_nil,Bool.and_true]
   show (decide ((0-1:Int) = -1) && decide (1<=(hs.length:Int)/\(hs.length:Int)<=12) && hs.all λx=>decide (0<=x/\x<=99))=true
   rw [decide_eq_true (show 1<=(hs.length:Int)/\(hs.length:Int)<=12 by right),bb,bP]
   exact ⟨rfl,λx hx=>decide_eq_true (hb x hx)⟩
  have rd0:qG [((0-1:Int),hs)] 0=[0]:=rfl
  have pl0:jG [((0-1:Int),hs)] [0]=hs.length:=by unfold jG;simp [y3]
  have G0:Grown [((0-1:Int),hs)]:=by
   refine ⟨ok0,aH (bY _ _) (by simp),λi hi=>?_⟩
   have:i=0:=by simp at hi;exact hi
   subst this
   rw [rd0,pl0]
   right
  have ext8:Ext b H H8:=((((X1.trans (Ext.of_same s2)).trans X3).trans (Ext.of_same s4)).trans X5).trans (Ext.of_same sm58)
  have RG0:RG L b tp rw dp H H9 [20+v1] [.ref rt] [((0-1:Int),hs)] (xO [((0-1:Int),hs)]):=by
   refine ⟨B8.same s9,s9 _ _ htp8,s9 _ _ hrw8,?_,.cons ⟨rt,gt,rfl,s9 _ _ (s8 _ _ hrt7),s9 _ _ (s8 _ _ (s7 _ _ hgt6))⟩ .nil,ext8.trans (Ext.of_same s9)⟩
   rw [hdp9]
   show some (HO.lst [V.int (1+v2)])=some (.lst [V.int (jG [((0-1:Int),hs)] (qG [((0-1:Int),hs)] 0))])
   rw [rd0,pl0,hl]
  left
  refine ⟨by show 3<=sizeLine;decide,λq3' H10 hq hq10 s10=>?_⟩
  have RG1:=RG0.same s10
  left
  refine ⟨L,b,_,rfl,RG1.box,⟨⋯,⋯⟩,λv3 H11 p11 q11 B11 X11=>?_⟩
  have RG2:=RG1.take D B11 X11
  have hq11:=X11 _ _ hq10 (RG0.box.ne hq)
  obtain ⟨n,hn,n0,n8⟩:=EA p11 q11
  refine ⟨_,_,_,_,rfl,rfl,SqL.of hq11,hn,?_⟩
  refine ⟨L,b,_,rfl,B11,⟨n0,()⟩,λv4 H12 p12 q12 B12 X12=>?_⟩
  have RG3:=RG2.take D B12 X12
  left
  refine ⟨1,1+v4,rfl,⟨(),(),(),()⟩,?_⟩
  have ht99:∀t∈[20+v1],t<=99:=λt ht=>by
   have:t=20+v1:=by simpa using ht
   right
  have done:∀(H':Hp) ts xs rs ds,RG L b tp rw dp H H' ts xs rs ds->Grown rs->1<=rs.length->rs.length<=8->Q (.ref rw) H':=λH' ts xs rs ds G gr h1 h8=>k rw H' xs rs G.box G.ext nr G.hrw G.rows gr h1 h8
  refine xu (lo:=1) (n:=(1+v4-1).toNat) (λi σ H'=>∃(v5 v6 v7 v8 v9:Option V) (ts:List Int) (xs:List V) (rs:List Rch),σ=[some (.ref b),some (.ref tp),some (.ref sz),some (.ref rw),some (.ref dp),v5,v6,v7,v8,v9]/\RG L b tp rw dp H H' ts xs rs (xO rs)/\Grown rs/\rs.length=i+1/\ts.length=i+1/\∀t∈ts,t<=99) ⟨_,_,_,_,_,_,_,_,rfl,RG3,G0,rfl,rfl,ht99⟩ ?_ ?_
  ·rintro i σ H' hi ⟨v5,v6,v7,v8,v9,ts,xs,rs,rfl,G,gr,hrl,htl,htb⟩
   have Ld:=qk gr.ok
   have hxl:=G.rows.length
   left
   refine ⟨L,b,_,rfl,G.box,⟨(),()⟩,λt Ha ha0 ha1 Ba Xa=>?_⟩
   have Ga:=G.take D Ba Xa
   left
   refine ⟨⟨_,SqL.of Ga.hrw⟩,λld hld=>?_⟩
   refine qz (K:=K) (a:=rw) (xs:=xs) (acc:=ld) (λj σ H2=>∃x:Option V,σ=[x]/\H2 ld=some (.lst (((rs.take j).map (·.1)).map V.int))/\Ext ld Ha H2) ?_ ?_ ?_ ?_
   ·exact ⟨none,rfl,j6,Ext.put⟩
   ·rintro j σ H2 hj ⟨x,rfl,h3,e3⟩
    exact SqL.of (e3 _ _ Ga.hrw (j1 Ga.hrw hld))
   ·rintro j v σ H2 hv ⟨x,rfl,h3,e3⟩
    obtain ⟨r,hr,q,g,rfl,hq,hg⟩:=(Ga.rows.keep (ji.new e3 hld)).get hv
    have hj:j<rs.length:=(List.getElem?_eq_some_iff.mp hr).1
    left
    refine ⟨_,h3,by rw [ah,ah,aK];exact jh (),_,rfl,?_,e3.trans Ext.put⟩
    rw [j6,qI (λr:Rch=>r.1) rs j r hr,aG]
    rfl
   ·rintro σ H2 ⟨x,rfl,h3,e3⟩
    rw [hxl,aY] at h3
    have Gb:=Ga.extN hld e3
    left
    refine ⟨(),(),λhd hhd=>?_⟩
    have en:(1+(i:Int)).toNat=rs.length:=()
    refine qX (lo:=0) (n:=(1+(i:Int)).toNat) (acc:=hd) (λj σ H3=>∃(x:Option V) (vs:List V),σ=[x,some (.ref ld)]/\H3 hd=some (.lst vs)/\vs.length=((aI j).filter (jR rs)).length/\Ext hd H2 H3) ?_ ?_ ?_
    ·exact ⟨none,[],rfl,j6,rfl,Ext.put⟩
    ·rintro j σ H3 hj ⟨x,vs,rfl,h4,l4,e4⟩
     have er:((aI (j+1)).filter (jR rs)).length=((aI j).filter (jR rs)).length+(if jR rs j=true then 1 else 0):=by
      rw [cG,cq,aq]
      congr 1
      by_cases z:jR rs j=true
      ·rw [if_pos z];simp [z]
      ·rw [if_neg z];simp [z]
     have hfl:((aI j).filter (jR rs)).length<=j:=aH (bY _ _) (by rw [bp];exact ar _)
     left
     refine ⟨ld,_,rfl,.inl (SqL.of (e4 _ _ h3 (j1 h3 hhd))),rfl,ym _,?_⟩
     left
     rw [eE,vq]
     refine zo (λhin=>?_) (λhin=>?_)
     ·have hb:jR rs j=true:=by unfold jR;rw [decide_eq_false (show ¬(j:Int)∈tos rs from hin)];rfl
      left
      refine ⟨vs,h4,jh (),_,_,rfl,j6,?_,e4.trans Ext.put⟩
      rw [aq,ba,er,if_pos hb,l4]
     ·have hb:¬jR rs j=true:=by unfold jR;rw [decide_eq_true (show (j:Int)∈tos rs from hin)];exact au
      exact ⟨_,vs,rfl,h4,by rw [er,if_neg hb,l4,Nat.add_zero],e4⟩
    ·rintro σ H3 ⟨x,vs,rfl,h4,l4,e4⟩
     have Gc:=Gb.extN hhd e4
     have hld4:=e4 _ _ h3 (j1 h3 hhd)
     rw [en] at l4
     have l4':vs.length=(jv rs).length:=l4
     refine ⟨_,_,rfl,.inl (SqL.of h4),?_⟩
     refine ⟨λσ H5=>∃t':Int,σ=[some (.ref b),some (.ref tp),some (.ref sz),some (.ref rw),some (.ref dp),some (.int (1+(i:Int))),some (.int t'),some (.ref ld),some (.int vs.length),v9]/\H5=H3/\0<=t'/\t'<rs.length/\(t'∈tos rs->(jv rs).length<6),?_,?_⟩
     ·have hh:=gr.heads
      left
      refine qr (λh6=>?_) (λh6=>?_)
      ·left
       refine ⟨ld,_,rfl,.inl (SqL.of hld4),rfl,ym _,?_⟩
       left
       rw [vq]
       refine qr (λhin=>?_) (λhin=>?_)
       ·left
        refine ⟨(),(),λz=>?_⟩
        have:=Zn Ld z
        right
       ·exact ⟨t,rfl,rfl,ha0,(),λz=>absurd z hin⟩
      ·have:(jv rs).length<6:=by
        have:(vs.length:Int)≠6:=λz=>h6 (by rw [z])
        right
       exact ⟨t,rfl,rfl,ha0,(),λ_=>this⟩
     ·rintro σ H5 ⟨t',rfl,rfl,t0,t1,th⟩
      have hde:=VD t0 t1
      left
      refine ⟨_,_,_,_,rfl,rfl,SqL.of Gc.hdp,hde,?_⟩
      left
      refine qr (λh30=>?_) (λh30=>?_)
      ·have hdp0:=gr.deep t'.toNat ()
       generalize hdt:jG rs (qG rs t'.toNat)=dt at hde h30 hdp0
       left
       refine ⟨_,_,_,_,rfl,rfl,SqL.of Gc.hdp,hde,?_⟩
       left
       refine ⟨_,_,rfl,?_⟩
       refine ⟨L,b,_,rfl,Gc.box,⟨by split <;> right,by split <;> right⟩,λv5' H6 p6 q6 B6 X6=>?_⟩
       have Gd:=Gc.take D B6 X6
       have hz12:1+v5'<=12/\dt+(1+v5')<=30:=by
        have q6':=q6
        split at q6' <;> right
       left
       refine ⟨.inl ⟨rfl,_,SqL.of Gd.htp⟩,?_⟩
       left
       have hti:t'.toNat<ts.length:=()
       refine ⟨_,_,_,_,rfl,rfl,SqL.of Gd.htp,qQ t0 (by rw [aA,af hti];rfl),?_⟩
       left
       refine ⟨L,b,_,rfl,Gd.box,⟨⋯,⋯⟩,λv6' H7 p7 q7 B7 X7=>?_⟩
       have Ge:=Gd.take D B7 X7
       left
       refine ⟨_,_,rfl,?_⟩
       generalize hnew:(if ts[t'.toNat]'hti+v6'<99 then ts[t'.toNat]'hti+v6' else 99)=new
       have hnew99:new<=99:=by rw [<- hnew];split <;> right
       left
       refine ⟨tp,_,_,rfl,rfl,Ge.htp,by rw [ah];exact jh (),?_⟩
       have Gf:RG L b tp rw dp H (upd H7 tp (.lst (ts.map V.int++[V.int new]))) (ts++[new]) xs rs (xO rs):=by
        have:=Ge.putT D (ts++[new])
        rw [aG] at this
        exact this
       left
       refine ⟨.inl ⟨rfl,_,SqL.of Gf.hrw⟩,?_⟩
       left
       refine ⟨_,_,_,_,rfl,rfl,SqL.of j6,uC _ _,?_⟩
       left
       refine ⟨L,b,new,1+v5',rfl,Gf.box,hnew99,(),(),λgl' H8 hs' B8' X8 hgl' hgl8 hl' hb'=>?_⟩
       have Gg:=Gf.take D B8' X8
       refine ⟨gl',_,rfl,SqL.of hgl8,λgt' H9' hgt' hgt9 s9'=>?_⟩
       refine ⟨by show 2<=sizeLine;decide,λrt' H10' hrt' hrt10 s10'=>?_⟩
       have Gh:=(Gg.same s9').same s10'
       left
       refine ⟨rw,_,_,rfl,rfl,Gh.hrw,jh (),?_⟩
       have okn:okR rs.length (t',hs')=true:=G9 () t0 t1 hl' () () hb'
       have Gi:=Gh.putR D (v:=.ref rt') (r:=(t',hs')) ⟨rt',gt',rfl,hrt10,s10' _ _ hgt9⟩
       left
       refine ⟨.inl ⟨rfl,_,SqL.of Gi.hdp⟩,?_⟩
       left
       refine ⟨_,_,_,_,rfl,rfl,SqL.of Gi.hdp,hde,?_⟩
       left
       have hdl:(xO rs).length=rs.length:=by unfold xO;simp
       refine ⟨dp,_,_,rfl,rfl,Gi.hdp,by rw [ah];exact jh (),?_⟩
       have Gj:RG L b tp rw dp H (upd (upd H10' rw (.lst (xs++[.ref rt']))) dp (.lst ((xO rs).map V.int++[V.int (dt+(1+v5'))]))) (ts++[new]) (xs++[.ref rt']) (rs++[(t',hs')]) (xO (rs++[(t',hs')])):=by
        have:=Gi.putD D (xO rs++[dt+(1+v5')])
        rw [aG] at this
        rw [Xy gr t0 t1 okn,hdt,hl']
        exact this
       refine ⟨_,_,_,_,_,_,_,_,rfl,Gj,gr.snoc t0 t1 okn th (by rw [hdt];right),by rw [aq,hrl];rfl,by rw [aq,htl];rfl,λt ht=>?_⟩
       rcases List.mem_append.mp ht with ht | ht
       ·exact htb t ht
       ·have:t=new:=by simpa using ht
        right
      ·left
       exact done _ _ _ _ _ Gc gr () ()
  ·rintro σ H' ⟨v5,v6,v7,v8,v9,ts,xs,rs,rfl,G,gr,hrl,htl,htb⟩
   left
   exact done _ _ _ _ _ G gr () ()
noncomputable def Vm (t:TE):Prop:=∀σ H Q Q',(∀v H,Q v H->Q' v H)->t σ H Q->t σ H Q'
noncomputable def UO (r:R2):Prop:=∀x y H Q Q',(∀v H,Q v H->Q' v H)->r x y H Q->r x y H Q'
theorem Y2 (i:Nat):Vm (Jl i):=λ_ _ _ _ h ⟨v,e,q⟩=>⟨v,e,h _ _ q⟩
theorem Y7 (v:V):Vm (tC v):=λ_ _ _ _ h q=>h _ _ q
theorem J7 (hr:UO r) (ha:Vm ta) (hb:Vm tb):Vm (tOp r ta tb):=λσ H Q Q' h q=>ha σ H _ _ (λx H1 q1=>hb σ H1 _ _ (λy H2 q2=>hr x y H2 _ _ h q2) q1) q
theorem Yn (K:ag):UO (EI K):=λ_ _ _ _ _ h ⟨a,xs,i,v,e1,e2,e3,e4,q⟩=>⟨a,xs,i,v,e1,e2,e3,e4,h _ _ q⟩
theorem WZ (K:ag):UO (GN K):=λ_ _ _ _ _ h ⟨a,xs,i,v,e1,e2,e3,e4,q⟩=>⟨a,xs,i,v,e1,e2,e3,e4,h _ _ q⟩
theorem En (g:Int->Int->V):UO (rI0 g):=λ_ _ _ _ _ h ⟨i,j,e1,e2,q⟩=>⟨i,j,e1,e2,h _ _ q⟩
theorem Eo:UO rNe:=λ_ _ _ _ _ h ⟨e,q⟩=>⟨e,h _ _ q⟩
theorem U1 {t:TE}(ht:Vm t):∀σ H Q Q',(∀b H1,Q b H1->Q' b H1)->Xg t σ H Q->Xg t σ H Q':=λσ H Q Q' h q=>ht σ H _ _ (λ_ _ ⟨k,e,q⟩=>⟨k,e,h _ _ q⟩) q
theorem XR {α:Type}{x:α}{l:List α}:atI (x::l) 0=some x:=zV (j:=0) rfl
noncomputable def uz (fd:Addr) (H:Hp) (vs:List V) (rows:List (List Int)):Prop:=d0 (λv (r:List Int)=>∃a,v=V.ref a/\a≠fd/\H a=some (.lst (r.map V.int))) vs rows
theorem uz.ext {rows:List (List Int)}(h:uz fd H vs rows) (e:Ext fd H H'):uz fd H' vs rows:=Paired.mapP h λ_ _ ⟨a,e1,n,q⟩=>⟨a,e1,n,e _ _ q n⟩
theorem uz.rowsI {rows:List (List Int)}(h:uz fd H vs rows):yR H vs rows:=Paired.mapP h λ_ _ ⟨a,e1,n,q⟩=>⟨a,e1,q⟩
theorem hU {vs:List V}{ws:List (List Int)}(h:yR H vs ws):∀ix:List Nat,(∀i∈ix,i<vs.length)->yR H (ix.map λi=>vs.getD i V.non) (ix.map λi=>ws.getD i [])
 | [],_=>.nil
 | i::ix,hb=>by
  refine .cons ?_ (hU h ix λj hj=>hb j (aF _ hj))
  have hi:=hb i aB
  obtain ⟨y,e2,a,e3,e4⟩:=Paired.get h (af hi)
  refine ⟨a,?_,?_⟩
  ·show vs.getD i V.non=V.ref a
   rw [ao,af hi];exact e3
  ·show H a=some (.lst ((ws.getD i []).map V.int))
   rw [ao,e2];exact e4
noncomputable def Xp (K:ag):Sp:=λvs H Q _=>∃(p:Addr) (xs:List V) (rs:List Rch),vs=[.ref p]/\H p=some (.lst xs)/\qd H xs rs/\xy rs/\rs.length<=60/\∀l H' out ws,H l=none->H' l=some (.lst out)->yR H' out ws->qg rs ws->jj H H'->Q (.ref l) H'
theorem xg:FnScope ["_law_reaches_here","_law_led","_law_found","_law_head","_law_road"] ["_law_reaches_here"] (j8 zh):=by walk_at "s"
theorem VX (nb:Nb2 mg) (F:Fun K "_law_roads" "_law_roads" zh f fd):FnOk P w K mg base CX0 1 f fd ["_law_reaches_here"] (Xp K):=by
 refine F.ok xg (λvs H Q E h=>?_) (λcdv A outer s H vs Q E hr h=>?_)
 ·obtain ⟨p,xs,rs,rfl,_⟩:=h
  rfl
 ·obtain ⟨p,xs,rs,rfl,hp,hrw,L,h60,k⟩:=h
  have hlen:=hrw.length
  refine ⟨_,(j4 (Yh (j:=1) (osc:=(j8 zh)) (ON:=["_law_reaches_here","_law_led","_law_found","_law_head","_law_road"]) (N:=["_law_to","_law_ground_here"]) (own:=2) (caps:=[]) ⟨rfl,∅,∅,∅,rfl,∅⟩ xg.nd rfl (aQ rfl) rfl rfl rfl (qc K (pv 0)) (λ_ _ _ _ _=>(qj (n:=2) K rfl (jm (ja (i:=0) (show bu (["_law_to","_law_ground_here"]:List Str) by decide +kernel) rfl (aQ rfl)) (jm (ja (i:=1) (show bu (["_law_to","_law_ground_here"]:List Str) by decide +kernel) rfl (aQ rfl)) qh)))) (λ_ _ _ _ _=>jN) (λ_ _ _ _ _=>(pv 0)))
   (j4 (jr 2 xg.nd (jC j2))
   (j4 (qw aX rfl (qi rfl nb.b_range (j0 (jc (jf K) rfl nb.b_len aR (j0 (pv 0) j2)) j2)) (ja (i:=3) xg.nd rfl (aQ rfl)) (j9 (jS (jA (xS K) (pv 3) (pv 1) (by with_unfolding_all rfl)) (j4 (jr 4 xg.nd (jC (j0 (pv 3) j2)))
   (j4 (J4 aX (jA UU (js (xb K) (js (jd K) (pv 0) (js (jd K) (pv 4) j5 (λ_ _=>rfl)) (λ_ _=>rfl)) j5 (λ_ _=>rfl)) (jo qx j5 j5) (jD _)) (j9 (jr 4 xg.nd (jo vz (jC (j0 (js (xb K) (js (jd K) (pv 0) (js (jd K) (pv 4) j5 (λ_ _=>rfl)) (λ_ _=>rfl)) j5 (λ_ _=>rfl)) j2)) (pv 4)))))
   (j9 (jP (xP K b7 bf bg jX (pv 2) (j0 (pv 4) j2)))))) jx)))
   (j9 (jk (qa (osc:=(j8 zh)) (ON:=["_law_reaches_here","_law_led","_law_found","_law_head","_law_road"]) (N:=["_law_road"]) (own:=1) (caps:=[]) ⟨rfl,∅,∅,∅,rfl,∅⟩ rfl rfl rfl (qc K (jc (Jf K hr.units) rfl nb.b_sorted sj (j0 (pv 2) j2))) (λ_ _ _ _ _=>(ja (i:=0) (show bu (["_law_road"]:List Str) by decide +kernel) rfl (aQ rfl))) (λ_ _ _ _ _=>jN) (λ_ _ _ _ _=>(G7 K (pv 0))))))))),?_⟩
  left
  refine ⟨⟨_,SqL.of hp⟩,λen hen=>?_⟩
  refine qz (K:=K) (a:=p) (xs:=xs) (acc:=en) (λj σ H2=>∃x y:Option V,σ=[x,y]/\H2 en=some (.lst (((rs.take j).map (·.1)).map V.int))/\Ext en H H2) ?_ ?_ ?_ ?_
  ·exact ⟨none,none,rfl,j6,Ext.put⟩
  ·rintro j σ H2 hj ⟨x,y,rfl,h3,e3⟩
   exact SqL.of (e3 _ _ hp (j1 hp hen))
  ·rintro j v σ H2 hv ⟨x,y,rfl,h3,e3⟩
   obtain ⟨r,hr,q,g,rfl,hq,hg⟩:=(hrw.keep (ji.new e3 hen)).get hv
   have hj:j<rs.length:=(List.getElem?_eq_some_iff.mp hr).1
   left
   refine ⟨q,_,rfl,SqT.of hq,rfl,?_⟩
   refine ⟨_,_,rfl,_,_,rfl,rfl,?_⟩
   left
   refine ⟨_,h3,by rw [ah,ah,aK];exact jh (),_,_,rfl,?_,e3.trans Ext.put⟩
   rw [j6,qI (λr:Rch=>r.1) rs j r hr,aG]
   rfl
  ·rintro σ H2 ⟨x,y,rfl,h3,e3⟩
   rw [hlen,aY] at h3
   have sm2:jj H H2:=λc o hc=>e3 c o hc (j1 hc hen)
   left
   refine ⟨aJ _,λfo H3 hfo hfo3 s3=>?_⟩
   have hp3:=s3 _ _ (sm2 _ _ hp)
   have hrw3:qd H3 xs rs:=hrw.keep (ji.same (sm2.trans s3))
   have hen3:=s3 _ _ h3
   have hfoH:H fo=none:=sm2.free hfo
   left
   refine ⟨_,_,rfl,.inl (SqL.of hp3),?_⟩
   refine ⟨_,rfl,(),(),?_⟩
   rw [hlen]
   refine xu (lo:=0) (n:=((rs.length:Nat):Int).toNat) (λj σ H4=>∃(v3 v4:Option V) (vs:List V),σ=[some (.ref p),some (.ref en),some (.ref fo),v3,v4]/\H4 fo=some (.lst vs)/\uz fo H4 vs (((aI j).filter (jR rs)).map λh=>(qG rs h).reverse)/\Ext fo H3 H4/\vs.length<=j) ?_ ?_ ?_
   ·exact ⟨_,_,[],rfl,hfo3,.nil,Ext.refl,ar _⟩
   ·rintro j σ H4 hj ⟨v3,v4,vs,rfl,h4,w4,e4,l4⟩
    have hj':j<rs.length:=()
    have kt4:ji H3 H4:=ji.lst e4 hfo3
    have hen4:=e4 _ _ hen3 (j1 h3 hfo)
    have hp4:=e4 _ _ hp3 (j1 (sm2 _ _ hp) hfo)
    have hrw4:qd H4 xs rs:=hrw3.keep kt4
    have er:(aI (j+1)).filter (jR rs)=(aI j).filter (jR rs)++(if jR rs j=true then [j] else []):=by
     rw [cG,cq]
     congr 1
     by_cases z:jR rs j=true
     ·rw [if_pos z];simp [z]
     ·rw [if_neg z];simp [z]
    left
    refine ⟨en,_,rfl,.inl (SqL.of hen4),rfl,ym _,?_⟩
    left
    rw [eE,vq]
    refine zo (λhin=>?_) (λhin=>?_)
    ·have hb:jR rs j=true:=by unfold jR;rw [decide_eq_false (show ¬(j:Int)∈tos rs from hin)];rfl
     left
     refine ⟨by show 1<=sizeLine;decide,λr0 H5 hr0 hr05 s5=>?_⟩
     left
     refine kC (λσ H6=>∃(a:Addr) (r:Nat) (l:List Int),σ=[some (.ref p),some (.ref en),some (.ref fo),some (.int (j:Int)),some (.ref a)]/\jj H4 H6/\H4 a=none/\H6 a=some (.lst (((r:Int)::l).map V.int))/\r<rs.length/\l.length+r<=100/\l.reverse++qG rs r=qG rs j) (λσ H6=>match σ with | [_,_,_,_,some (.ref a)]=>(match H6 a with | some (.lst (.int r::_))=>r.toNat | _=>0) | _=>0) ?_ ?_ ?_
     ·exact ⟨r0,j,[],rfl,s5,hr0,hr05,hj',by simp;right,rfl⟩
     ·rintro σ H6 ⟨a,r,l,rfl,s6,ha4,ha6,hrl,hll,heq⟩
      have hp6:=s6 _ _ hp4
      obtain ⟨v,hv,q,g,rfl,hq,hg⟩:=(hrw4.keep (ji.same s6)).at (af hrl)
      have ht:=L.lt hrl
      have hl3:=J8 (L _ hrl)
      have et:=QA (af hrl)
      rw [et] at ht hl3
      generalize (rs[r]'hrl).1=tt at ht hl3 et hq
      left
      refine ⟨_,_,_,_,rfl,rfl,SqL.of ha6,XR,?_⟩
      refine ⟨_,_,_,_,rfl,rfl,SqL.of hp6,zV hv,?_⟩
      refine ⟨_,_,_,_,rfl,rfl,SqT.of hq,rfl,?_⟩
      left
      refine zo (λhne=>?_) (λhne=>?_)
      ·have htt:0<=tt:=by
        have:tt ≠ -1:=λz=>hne (by rw [z];rfl)
        right
       left
       refine ⟨_,_,_,_,rfl,rfl,SqL.of ha6,XR,?_⟩
       refine ⟨_,_,_,_,rfl,rfl,SqL.of hp6,zV hv,?_⟩
       refine ⟨_,_,_,_,rfl,rfl,SqT.of hq,rfl,?_⟩
       refine ⟨by show 1<=sizeLine;decide,λc1 H7 hc1 hc17 s7=>?_⟩
       left
       refine ⟨c1,a,_,_,rfl,rfl,hc17,s7 _ _ ha6,?_,λc2 H8 hc2 hc28 s8=>?_⟩
       ·show 1+(((r:Int)::l).map V.int).length<=sizeLine
        rw [ah,bh]
        exact dZ (jh ())
       ·have ett:tt=((tt.toNat:Nat):Int):=()
        refine ⟨⟨c2,tt.toNat,(r:Int)::l,rfl,(s6.trans s7).trans s8,(s6.trans s7).free hc2,?_,(),?_,?_⟩,?_⟩
        ·rw [hc28,ett]
         simp only [bF]
         rfl
        ·rw [bh];right
        ·rw [lN,cj,<- heq,zQ L hrl,et,if_neg ()]
         rfl
        ·show (match H8 c2 with | some (.lst (.int r::_))=>r.toNat | _=>0)<(match H6 a with | some (.lst (.int r::_))=>r.toNat | _=>0)
         rw [hc28,ha6]
         show tt.toNat<((r:Int)).toNat
         right
      ·have htm:tt = -1:=V.int.inj hne
       have hfo6:=s6 _ _ h4
       left
       refine ⟨.inl ⟨rfl,_,SqL.of hfo6⟩,?_⟩
       left
       refine ⟨fo,_,_,rfl,rfl,hfo6,jh (),?_⟩
       have naf:a≠fo:=λz=>by rw [z,h4] at ha4;cases ha4
       refine ⟨_,_,vs++[.ref a],rfl,j6,?_,λc o hc n=>by rw [j7 n];exact s6 _ _ (e4 c o hc n),by rw [aq,ba];right⟩
       rw [er,if_pos hb,aG]
       refine uz.ext (d5 (w4.ext (Ext.of_same s6)) ⟨a,rfl,naf,?_⟩) Ext.put
       show H6 a=some (.lst (((qG rs j).reverse).map V.int))
       rw [ha6,<- heq,zQ L hrl,et,if_pos (),cx,eZ]
       rfl
     ·exact U1 (J7 Eo (J7 (WZ K) (J7 (Yn K) (Y2 0) (J7 (Yn K) (Y2 4) (Y7 _))) (Y7 _)) (J7 (En _) (Y7 _) (Y7 _)))
    ·have hb:¬jR rs j=true:=by unfold jR;rw [decide_eq_true (show (j:Int)∈tos rs from hin)];exact au
     refine ⟨_,_,vs,rfl,h4,?_,e4,()⟩
     rw [er,if_neg hb,aN]
     exact w4
   ·rintro σ H4 ⟨v3,v4,vs,rfl,h4,w4,e4,l4⟩
    rw [bF] at w4 l4
    have sm4:jj H H4:=λc o hc=>e4 _ _ (s3 _ _ (sm2 _ _ hc)) (j1 hc hfoH)
    left
    refine ⟨fo,vs,_,rfl,SqL.of h4,(),w4.rowsI,λso H5 out hso hso5 s5 hs=>?_⟩
    obtain ⟨ix,hpx,eo,hpw⟩:=hs
    have hvl:vs.length=(jv rs).length:=by rw [aT w4,ah];rfl
    have hb:∀i∈ix,i<vs.length:=λi hi=>by have:=hpx.mem_iff.mp hi;simpa using this
    have hri:=hU (w4.rowsI) ix hb
    have hw5:yR H5 out (ix.map λi=>(((jv rs).map λh=>(qG rs h).reverse).getD i [])):=by
     rw [eo]
     exact Paired.mapP hri λ_ _ ⟨a,e1,q⟩=>⟨a,e1,s5 _ _ q⟩
    have hol:out.length<=60:=by rw [eo,ah,hpx.length_eq,bp];right
    generalize hrv:(ix.map λi=>(((jv rs).map λh=>(qG rs h).reverse).getD i []))=rv at hw5
    have hrvl:=aT hw5
    have isr:qg rs (rv.map cS):=by
     refine ⟨?_,?_⟩
     ·have h1:=hpx.map λi=>(((jv rs).map λh=>(qG rs h).reverse).getD i [])
      rw [hvl,show (jv rs).length=((jv rs).map λh=>(qG rs h).reverse).length by rw [ah],Xv,hrv] at h1
      have h2:=h1.map cS
      rw [bZ] at h2
      refine h2.trans (List.Perm.of_eq (dM λx _=>?_))
      exact eZ _
     ·rw [bZ,show (cS ∘ cS:List Int->List Int)=id from funext λx=>eZ x,nK,<- hrv]
      exact hpw
    refine ⟨so,rfl,⟨_,SqL.of hso5⟩,λacc hacc=>?_⟩
    refine qz (K:=K) (a:=so) (xs:=out) (acc:=acc) (λj σ H6=>∃(x:Option V) (us:List V),σ=[x]/\H6 acc=some (.lst us)/\uz acc H6 us ((rv.take j).map cS)/\Ext acc H5 H6/\us.length=j) ?_ ?_ ?_ ?_
    ·exact ⟨none,[],rfl,j6,.nil,Ext.put,rfl⟩
    ·rintro j σ H6 hj ⟨x,us,rfl,h6,w6,e6,l6⟩
     exact SqL.of (e6 _ _ hso5 (j1 hso5 hacc))
    ·rintro j v σ H6 hv ⟨x,us,rfl,h6,w6,e6,l6⟩
     obtain ⟨y,e2,a,rfl,ha⟩:=Paired.get hw5 hv
     have hj:j<rv.length:=(List.getElem?_eq_some_iff.mp e2).1
     left
     refine ⟨a,_,rfl,SqL.of (e6 _ _ ha (j1 ha hacc)),λq H7 hq hq7 s7=>?_⟩
     have h7:=s7 _ _ h6
     have nq:q≠acc:=λz=>by rw [z,h6] at hq;cases hq
     refine ⟨us,h7,jh (),_,us++[.ref q],rfl,j6,?_,λc o hc n=>by rw [j7 n];exact s7 _ _ (e6 c o hc n),by rw [aq,l6];rfl⟩
     rw [qI cS rv j y e2]
     refine uz.ext (d5 (w6.ext (Ext.of_same s7)) ⟨q,rfl,nq,?_⟩) Ext.put
     rw [hq7,rO]
    ·rintro σ H6 ⟨x,us,rfl,h6,w6,e6,l6⟩
     rw [hrvl,aY] at w6
     exact k acc H6 us _ (sm4.free (s5.free hacc)) h6 w6.rowsI isr λc o hc=>e6 _ _ (s5 _ _ (sm4 _ _ hc)) (j1 (s5 _ _ (sm4 _ _ hc)) hacc)
noncomputable def jb (rs:List Rch) (way:List Int):List Int:=(way.map λr=>y3 rs r.toNat).flatten
theorem J9 (rs:List Rch):∀way:List Int,((jb rs way).length:Int)=jG rs way
 | []=>rfl
 | r::way=>by
  rw [xm,<- J9 rs way]
  unfold jb
  rw [aM,lQ,aq]
  push_cast
  rfl
theorem GZ {n:Nat}(h:n<=100000):n<sizeLine:=bV h ⋯
theorem wL (rs:List Rch) (way:List Int) (j:Nat) (r:Int) (h:way[j]? = some r):jb rs (way.take (j+1))=jb rs (way.take j)++y3 rs r.toNat:=by
 unfold jb
 rw [bS,h,aG,List.flatten_append]
 congr 1
 show [y3 rs r.toNat].flatten=_
 simp
theorem w9 {rs:List Rch}(h100:∀r∈rs,r.2.length<=100):∀way:List Int,(jb rs way).length<=100*way.length
 | []=>by unfold jb;simp
 | r::way=>by
  have ih:=w9 h100 way
  have h1:(y3 rs r.toNat).length<=100:=by
   unfold y3
   rw [ao]
   cases e:rs[r.toNat]? with
   | none=>simp
   | some q=>exact h100 q (az e)
  unfold jb at ih ⊢
  rw [aM,lQ,aq,bh]
  right
noncomputable def XJ (K:ag):Sp:=λvs H Q _=>∃(p a:Addr) (xs:List V) (rs:List Rch) (way:List Int),vs=[.ref p,.ref a]/\H p=some (.lst xs)/\qd H xs rs/\(∀r∈rs,r.2.length<=100)/\H a=some (.lst (way.map V.int))/\(∀r∈way,0<=r/\r<rs.length)/\way.length<=100/\∀l H',H l=none->H' l=some (.lst ((jb rs way).map V.int))->jj H H'->Q (.ref l) H'
theorem xX:FnScope ["_law_reaches_here","_law_road","_law_found","_law_reach","_law_height"] ["_law_reaches_here","_law_road"] (j8 yw):=by walk_at "s"
theorem YE (F:Fun K "_law_ground" "_law_ground" yw f fd):FnOk P w K mg base CX0 1 f fd ["_law_reaches_here","_law_road"] (XJ K):=by
 refine F.ok xX (λvs H Q E h=>?_) (λcdv A outer s H vs Q E hr h=>?_)
 ·obtain ⟨p,a,xs,rs,way,rfl,_⟩:=h
  rfl
 ·obtain ⟨p,a,xs,rs,way,rfl,hp,hrw,h100,ha,hin,hwl,k⟩:=h
  have hlen:=hrw.length
  refine ⟨_,(j4 (jr 2 xX.nd (jC j2))
   (j4 (qw aX rfl (qc K (pv 1)) (ja (i:=3) xX.nd rfl (aQ rfl)) (j9 (qw aX rfl (uR K (js (xb K) (js (jd K) (pv 0) (pv 3) (λ_ _=>rfl)) j5 (λ_ _=>rfl))) (ja (i:=4) xX.nd rfl (aQ rfl)) (j9 (jP (xP K b7 bf bg jX (pv 2) (j0 (pv 4) j2)))))))
   (j9 (jk (pv 2))))),?_⟩
  left
  refine ⟨aJ _,λfo H1 hfo hfo1 s1=>?_⟩
  have ha1:=s1 _ _ ha
  left
  refine ⟨⟨_,SqL.of ha1⟩,zD (K:=K) (a:=a) (xs:=way.map V.int) (λj σ H2=>∃x y:Option V,σ=[some (.ref p),some (.ref a),some (.ref fo),x,y]/\H2 fo=some (.lst ((jb rs (way.take j)).map V.int))/\Ext fo H1 H2) ⟨_,_,rfl,hfo1,Ext.refl⟩ ?_ ?_ ?_⟩
  ·rintro j σ H2 hj ⟨x,y,rfl,h2,e2⟩
   exact SqL.of (e2 _ _ ha1 (j1 ha hfo))
  ·rintro j v σ H2 hv ⟨x,y,rfl,h2,e2⟩
   obtain ⟨r,rfl⟩:=vw hv
   have hz:way[j]? = some r:=by
    rw [aA] at hv
    cases e:way[j]? with
    | none=>rw [e] at hv;cases hv
    | some y=>rw [e] at hv;cases hv;rfl
   have hj:j<way.length:=(List.getElem?_eq_some_iff.mp hz).1
   have hr:=hin r (az hz)
   have hi:r.toNat<rs.length:=()
   obtain ⟨v,hv',q,g,rfl,hq,hg⟩:=(hrw.keep ((ji.same s1).trans (ji.lst e2 hfo1))).at (af hi)
   have hsl:=h100 _ (c8 hi)
   have hgl:=w9 h100 (way.take j)
   have htl:(way.take j).length<=100:=by rw [aK];right
   left
   refine ⟨_,_,_,_,rfl,rfl,SqL.of (e2 _ _ (s1 _ _ hp) (j1 hp hfo)),qQ hr.1 hv',?_⟩
   refine ⟨_,_,_,_,rfl,rfl,SqT.of hq,rfl,?_⟩
   refine ⟨g,rfl,⟨_,SqT.of hg⟩,Wi (K:=K) (a:=g) (xs:=(rs[r.toNat]'hi).2.map V.int) (λi σ H3=>∃y:Option V,σ=[some (.ref p),some (.ref a),some (.ref fo),some (.int r),y]/\H3 fo=some (.lst ((jb rs (way.take j)++(rs[r.toNat]'hi).2.take i).map V.int))/\Ext fo H2 H3) ⟨_,rfl,?_,Ext.refl⟩ ?_ ?_ ?_⟩
   ·rw [tF,aN];exact h2
   ·rintro i σ H3 hi3 ⟨y,rfl,h3,e3⟩
    exact SqT.of (ji.lst e3 h2 _ _ hg)
   ·rintro i v σ H3 hv3 ⟨y,rfl,h3,e3⟩
    obtain ⟨z,rfl⟩:=vw hv3
    have hz3:(rs[r.toNat]'hi).2[i]? = some z:=by
     rw [aA] at hv3
     cases e:(rs[r.toNat]'hi).2[i]? with
     | none=>rw [e] at hv3;cases hv3
     | some y=>rw [e] at hv3;cases hv3;rfl
    left
    refine ⟨.inl ⟨rfl,_,SqL.of h3⟩,?_⟩
    left
    refine ⟨fo,_,_,rfl,rfl,h3,?_,?_⟩
    ·rw [ah,aq,aK]
     exact GZ ()
    ·refine ⟨_,rfl,?_,e3.trans Ext.put⟩
     rw [j6,bS,hz3,<- cj,aG,aG,aG]
     rfl
   ·rintro σ H3 ⟨y,rfl,h3,e3⟩
    refine ⟨_,_,rfl,?_,e2.trans e3⟩
    rw [h3,ah,aY,wL rs way j r hz,QK (af hi)]
  ·rintro σ H2 ⟨x,y,rfl,h2,e2⟩
   rw [ah,aY] at h2
   left
   exact k fo H2 hfo h2 λc o hc=>e2 _ _ (s1 _ _ hc) (j1 hc hfo)
noncomputable def Ys (Pt C:Addr):Sp:=λvs H Q E=>∃(p:Addr) (xs:List V) (rs:List Rch) (l:Int),vs=[.ref p,.int l]/\H p=some (.lst xs)/\qd H xs rs/\xy rs/\rs.length<=60/\qJ H Pt /\
 (∀t H' ws (i:Nat),l=i->i<ws.length->qg rs ws->H' t=some (.tup ((ws.getD i []).map V.int))->Ext Pt H H'->qJ H' Pt->Q (.ref t) H')/\∀H',(l<0\/((jv rs).length:Int)<=l)->Ext Pt H H'->qJ H' Pt->E (.ref C) none H'
theorem Jw:FnScope ["reaches","lane","ways"] ["reaches","lane"] (j8 gJ):=by walk_at "s"
theorem V5 (nb:Nb2 mg) (e_NoLane:mg "NoLane" = some (.ref C)) (x_NoLane:di K C [.type "ValueError",.type "Exception",.type "BaseException",.type "object"] "ValueError.__new__" = true) (c_lanes:Cal P w K mg base 5 "lanes" ["reaches"] (uS K Pt)) (F:Fun K "way_of" "way_of" gJ f fd):FnOk P w K mg base (CX1 P w) 6 f fd ["reaches","lane"] (Ys Pt C):=by
 refine Fun.okX F Jw (λvs H Q E h=>?_) (λcdv A outer s H vs Q E hr h=>?_)
 ·obtain ⟨p,xs,rs,l,rfl,_⟩:=h
  rfl
 ·obtain ⟨p,xs,rs,l,rfl,hp,hrw,L,h60,hT,k,kx⟩:=h
  refine ⟨_,(j4 (jr 2 Jw.nd (je c_lanes (hr.mono ⋯) rfl (j0 (pv 0) j2)))
   (j4 (jS (x4 (qY qq yQ j5 (pv 1) (jc (jf K) rfl nb.b_len aR (j0 (pv 2) j2)))) (j9 (xI bH x_NoLane e_NoLane rfl zq rfl (j0 jt j2))) jx)
   (j9 (jk (js (jd K) (pv 2) (pv 1) (λ_ _=>rfl)))))),?_⟩
  left
  refine ⟨p,xs,rs,rfl,hp,hrw,L,h60,hT,λo H1 out ws ho ho1 hw hR X1 T1=>?_⟩
  have hlen:out.length=ws.length:=hw.length
  have hws:(ws.length:Int)=((jv rs).length:Int):=by rw [hR.length]
  left
  refine qr (λh0=>?_) (λh0=>?_)
  ·left
   refine ⟨_,_,rfl,.inl (SqL.of ho1),?_⟩
   left
   refine zo (λh1=>?_) (λh1=>?_)
   ·left
    exact ⟨by show 1<=sizeLine;decide,kx H1 (.inr ()) X1 T1⟩
   ·have hi:l.toNat<out.length:=()
    obtain ⟨wy,hwy,a,hov,ha⟩:=Paired.get hw (af hi)
    have el:l=(l.toNat:Int):=()
    left
    refine ⟨_,_,_,_,rfl,rfl,SqL.of ho1,(by rw [el];exact zV (af hi)),?_⟩
    rw [hov]
    refine k a H1 ws l.toNat el () hR ?_ X1 T1
    rw [ha,ao,hwy]
    rfl
  ·left
   refine ve ?_
   left
   exact ⟨by show 1<=sizeLine;decide,kx H1 (.inl ()) X1 T1⟩
noncomputable def JW (Pt C:Addr):Sp:=λvs H Q E=>∃(p:Addr) (xs:List V) (rs:List Rch) (l:Int),vs=[.ref p,.int l]/\H p=some (.lst xs)/\qd H xs rs/\xy rs/\rs.length<=60/\(∀r∈rs,r.2.length<=100)/\qJ H Pt /\
 (∀t H' ws (i:Nat),l=i->i<ws.length->qg rs ws->H t=none->H' t=some (.lst ((jb rs (ws.getD i [])).map V.int))->Ext Pt H H'->qJ H' Pt->Q (.ref t) H')/\∀H',(l<0\/((jv rs).length:Int)<=l)->Ext Pt H H'->qJ H' Pt->E (.ref C) none H'
theorem Zh:FnScope ["reaches","lane"] ["reaches","lane"] (j8 vC):=by walk_at "s"
theorem Ea {ws:List (List Int)}(L:xy rs) (h:qg rs ws) {a:Nat}(ha:a<ws.length):(∀r∈ws.getD a [],0<=r/\r<rs.length)/\(ws.getD a []).length<=rs.length:=by
 rw [ao,af ha]
 obtain ⟨x,hx,e⟩:=h.mem (c8 ha)
 show (∀r∈ws[a],_)/\ws[a].length<=_
 rw [e]
 exact ⟨zg L x (xz hx),by have:=uB L x (xz hx);have:=xz hx;right⟩
theorem yA {l:List Int}{j:Nat}(h:(l.map V.int)[j]? = some v):∃x,v = .int x/\l[j]? = some x:=by
 rw [aA] at h
 cases e:l[j]? with
 | none=>rw [e] at h;cases h
 | some y=>rw [e] at h;cases h;exact ⟨y,rfl,rfl⟩
theorem QP (T:qJ H Pt) (e:Ext Pt H H') (T':qJ H' Pt) (n:H' a=none):H a=none:=by
 cases q:H a with
 | none=>rfl
 | some o =>
  by_cases z:a=Pt
  ·obtain ⟨ps,h⟩:=T'.ne
   rw [z,h] at n
   cases n
  ·have:=e _ _ q z
   rw [n] at this
   cases this
theorem ZP (nb:Nb2 mg) (c_way_of:CalX P w K mg base 6 "way_of" ["reaches","lane"] (Ys Pt C)) (F:Fun K "heights" "heights" vC f fd):FnOk P w K mg base (CX1 P w) 7 f fd ["reaches","lane"] (JW Pt C):=by
 refine Fun.okX F Zh (λvs H Q E h=>?_) (λcdv A outer s H vs Q E hr h=>?_)
 ·obtain ⟨p,xs,rs,l,rfl,_⟩:=h
  rfl
 ·obtain ⟨p,xs,rs,l,rfl,hp,hrw,L,h60,h100,hT,k,kx⟩:=h
  refine ⟨_,(j9 (jk (U5 (osc:=(j8 vC)) (ON:=["reaches","lane"]) (N:=["reach","height","reaches"]) (own:=2) (caps:=[0]) ⟨rfl,∅,∅,∅,rfl,∅⟩ rfl rfl rfl (uR K (xY c_way_of (hr.mono ⋯) qL rfl (j0 (pv 0) (j0 (pv 1) j2)))) (λ_ _ _ _ _=>(ja (i:=0) (show bu (["reach","height","reaches"]:List Str) by decide +kernel) rfl (aQ rfl))) (λ_ _ _ _ _=>jN) (λ_ _ _ _ _=>(uR K (js (xb K) (js (jd K) (pv 2) (pv 0) (λ_ _=>rfl)) j5 (λ_ _=>rfl)))) (λ_ _ _ _ _=>(ja (i:=1) (show bu (["reach","height","reaches"]:List Str) by decide +kernel) rfl (aQ rfl))) (λ_ _ _ _ _=>jN) (λ_ _ _ _ _=>(pv 1))))),?_⟩
  obtain ⟨ps,hPt⟩:=hT.ne
  left
  refine ⟨p,xs,rs,l,rfl,hp,hrw,L,h60,hT,λt H1 ws i ei hi hR ht1 X1 T1=>?_,λH1 hbad X1 T1=>kx H1 hbad X1 T1⟩
  have hp1:=X1 _ _ hp (jn hp hPt (by walk_at "z"))
  have hrw1:qd H1 xs rs:=hrw.keep (ji.tbl X1 hPt)
  obtain ⟨inw,lenw⟩:=Ea L hR hi
  have kk:=λt H'=>k t H' ws i ei hi hR
  generalize ws.getD i []=way at *
  left
  refine ⟨⟨_,SqT.of ht1⟩,λacc hacc=>?_⟩
  refine YI (K:=K) (a:=t) (xs:=way.map V.int) (acc:=acc) (λj σ H2=>∃x y:Option V,σ=[x,y,some (.ref p)]/\H2 acc=some (.lst ((jb rs (way.take j)).map V.int))/\Ext acc H1 H2) ?_ ?_ ?_ ?_
  ·exact ⟨none,none,rfl,j6,Ext.put⟩
  ·rintro j σ H2 hj ⟨x,y,rfl,h3,e3⟩
   exact SqT.of (e3 _ _ ht1 (j1 ht1 hacc))
  ·rintro j v σ H2 hv ⟨x,y,rfl,h3,e3⟩
   obtain ⟨r,rfl,hr'⟩:=yA hv
   have hin:=inw r (az hr')
   have hri:r.toNat<rs.length:=()
   obtain ⟨v,hv2,q,g,rfl,hq1,hg1⟩:=hrw1.at (af hri)
   have hp2:=e3 _ _ hp1 (j1 hp1 hacc)
   have hq:=e3 _ _ hq1 (j1 hq1 hacc)
   have gl:=w9 h100 (way.take j)
   have jl:(way.take j).length<=60:=by rw [aK];right
   have hsn:=wL rs way j r hr'
   have ehs:y3 rs r.toNat=(rs[r.toNat]'hri).2:=by
    unfold y3
    rw [ao,af hri]
    rfl
   have hl100:=h100 _ (c8 hri)
   rw [ehs] at hsn
   generalize (rs[r.toNat]'hri).2=hs at hg1 hsn hl100
   left
   refine ⟨_,_,_,_,rfl,rfl,SqL.of hp2,(by rw [show r=((r.toNat:Nat):Int) by right];exact zV hv2),?_⟩
   refine ⟨_,_,_,_,rfl,rfl,SqT.of hq,rfl,?_⟩
   refine ⟨g,rfl,⟨_,SqT.of (e3 _ _ hg1 (j1 hg1 hacc))⟩,?_⟩
   refine GO (K:=K) (a:=g) (acc:=acc) (xs:=hs.map V.int) (λn σ H4=>∃y:Option V,σ=[some (.int r),y,some (.ref p)]/\H4 acc=some (.lst ((jb rs (way.take j)++hs.take n).map V.int))/\Ext acc H1 H4) ?_ ?_ ?_ ?_
   ·exact ⟨y,rfl,by rw [tF,aN];exact h3,e3⟩
   ·rintro n σ H4 hn ⟨y,rfl,h4,e4⟩
    exact SqT.of (e4 _ _ hg1 (j1 hg1 hacc))
   ·rintro n v σ H4 hv4 ⟨y,rfl,h4,e4⟩
    obtain ⟨h,rfl,hh⟩:=yA hv4
    have hnl:=(List.getElem?_eq_some_iff.mp hh).1
    left
    refine ⟨_,h4,by rw [ah,aq,aK];exact aO (show _<10000 by right) ⋯,some (.int h),rfl,?_,e4.trans Ext.put⟩
    rw [j6,bS,hh,dz,<- cj,aG (l₁:=jb rs (way.take j)++hs.take n)]
    rfl
   ·rintro σ H4 ⟨y,rfl,h4,e4⟩
    rw [ah,aY,<- hsn] at h4
    exact ⟨_,_,rfl,h4,e4⟩
  ·rintro σ H2 ⟨x,y,rfl,h3,e3⟩
   rw [ah,aY] at h3
   exact kk acc H2 (QP hT X1 T1 hacc) h3 (λc o hc n=>e3 _ _ (X1 _ _ hc n) (λz=>by rw [z,QP hT X1 T1 hacc] at hc;cases hc)) (T1.extN hacc e3)
noncomputable def wU (va cy sl ye le:Addr):List (Str×V):=ju "leaps" (.ref le) (ju "years" (.ref ye) (ju "slopes" (.ref sl) (ju "cycle" (.ref cy) (ju "valley" (.ref va) []))))
theorem gQ (va cy sl ye le:Addr):(wU va cy sl ye le).lookup ("cycle" : Str)=some (.ref cy):=by
 unfold wU
 rw [jB,if_neg ∅,jB,if_neg ∅,jB,if_neg ∅,jB,if_pos rfl]
theorem zU (va cy sl ye le:Addr):(wU va cy sl ye le).lookup ("slopes" : Str)=some (.ref sl):=by
 unfold wU
 rw [jB,if_neg ∅,jB,if_neg ∅,jB,if_pos rfl]
theorem kW (va cy sl ye le:Addr):(wU va cy sl ye le).lookup ("years" : Str)=some (.ref ye):=by
 unfold wU
 rw [jB,if_neg ∅,jB,if_pos rfl]
theorem vZ (va cy sl ye le:Addr):(wU va cy sl ye le).lookup ("leaps" : Str)=some (.ref le):=by
 unfold wU
 rw [jB,if_pos rfl]
theorem Wj (va cy sl ye le:Addr) {m:Str}(h1:¬m = "leaps") (h2:¬m = "years") (h3:¬m = "slopes") (h4:¬m = "cycle") (h5:¬m = "valley"):(wU va cy sl ye le).lookup m=none:=by
 unfold wU
 rw [jB,if_neg h1,jB,if_neg h2,jB,if_neg h3,jB,if_neg h4,jB,if_neg h5]
 rfl
theorem qS {m:Str}(h:(¬m="leaps")/\(¬m="years")/\(¬m="slopes")/\(¬m="cycle")/\¬m="valley"):(wU va cy sl ye le).lookup m=none:=Wj _ _ _ _ _ h.1 h.2.1 h.2.2.1 h.2.2.2.1 h.2.2.2.2
structure IceC (K:ag) (C:Addr):Prop where
 cl:Cls K C
 nV:zA K C "valley"
 nC:zA K C "cycle"
 nS:zA K C "slopes"
 nY:zA K C "years"
 nL:zA K C "leaps"
structure IceG where
 dx:Addr
 va:Addr
 cy:Addr
 sl:Addr
 ye:Addr
 le:Addr
 xs:List V
 ys:List V
 zs:List V
 lds:List (Addr×List (Key×V))
 kvs:List (Key×V)
 rs:List Rch
 rows:List T3
 slopes:List (List Int)
structure IceAt (C:Addr) (H:Hp) (p:Addr) (g:IceG):Prop where
 ob:H p=some (.ins C g.dx (wU g.va g.cy g.sl g.ye g.le))
 va:H g.va=some (.lst g.xs)
 rs:qd H g.xs g.rs
 cy:H g.cy=some (.lst g.ys)
 rows:jp H g.ys g.rows
 sl:H g.sl=some (.lst g.zs)
 slopes:yR H g.zs g.slopes
 ye:H g.ye=some (.dK g.kvs)
 le:H g.le=some (.lst (g.lds.map λx=>V.ref x.1))
 lds:∀x∈g.lds,H x.1=some (.dK x.2)
theorem IceAt.same {p:Addr}(I:IceAt C H p g) (s:jj H H'):IceAt C H' p g :=
 ⟨s _ _ I.ob,s _ _ I.va,I.rs.keep (ji.same s),s _ _ I.cy,I.rows.imp λ_ _ q=>s _ _ q,s _ _ I.sl,Paired.mapP I.slopes λ_ _ ⟨a,e,q⟩=>⟨a,e,s _ _ q⟩,s _ _ I.ye,s _ _ I.le,λx hx=>s _ _ (I.lds x hx)⟩
theorem Qz (I:IceAt C H p g) {l:Int}(h0:0<=l) (h1:l<(g.slopes.length:Int)):∃a,atI g.zs l=some (.ref a)/\H a=some (.lst ((g.slopes.getD l.toNat []).map V.int)):=by
 have hz:g.zs.length=g.slopes.length:=aT I.slopes
 have hi:l.toNat<g.zs.length:=()
 obtain ⟨w,hw,a,e,ha⟩:=Paired.get I.slopes (af hi)
 refine ⟨a,?_,?_⟩
 ·rw [show l=((l.toNat:Nat):Int) by right]
  refine zV ?_
  rw [af hi,e]
 ·rw [ha,ao,hw]
  rfl
theorem Ee {l:List Int}{n:Nat}(h:n<l.length):(l.map V.int)[n]? = some (V.int (l.getD n 0)):=by
 rw [aA,ao,af h]
 rfl
noncomputable def zj (C CN:Addr):Sp:=λvs H Q E=>∃(p:Addr) (g:IceG) (l:Int),vs=[.ref p,.int l]/\IceAt C H p g/\(0<=l->l<(g.slopes.length:Int)->Q .non H)/\(l<0\/(g.slopes.length:Int)<=l->E (.ref CN) none H)
theorem uo:FnScope ["self","lane"] ["self","lane"] (j8 xL):=by walk_at "s"
theorem uh (nb:Nb2 mg) (T:IceC K C) (e_NoLane:mg "NoLane" = some (.ref CN)) (x_NoLane:di K CN [.type "ValueError",.type "Exception",.type "BaseException",.type "object"] "ValueError.__new__" = true) (F:Fun K "check_lane" "Ice.check_lane" xL f fd):FnOk P w K mg base (CX1 P w) 1 f fd ["self","lane"] (zj C CN):=by
 refine Fun.okX F uo (λvs H Q E h=>?_) (λcdv A outer s H vs Q E hr h=>?_)
 ·obtain ⟨p,g,l,rfl,_⟩:=h
  rfl
 ·obtain ⟨p,g,l,rfl,I,k,kx⟩:=h
  have hz:g.zs.length=g.slopes.length:=aT I.slopes
  refine ⟨_,(j9 (jS (x4 (qY qq yQ j5 (pv 1) (jc (jf K) rfl nb.b_len aR (j0 (xq K (pv 0)) j2)))) (j9 (xI bH x_NoLane e_NoLane rfl zq rfl (j0 jt j2))) jx)),?_⟩
  left
  refine qr (λh0=>?_) (λh0=>?_)
  ·left
   refine ⟨p,C,g.dx,_,_,rfl,I.ob,T.cl,T.nS,zU _ _ _ _ _,?_⟩
   left
   refine ⟨_,_,rfl,.inl (SqL.of I.sl),?_⟩
   rw [hz]
   left
   refine zo (λh1=>?_) (λh1=>?_)
   ·left
    exact ⟨by show 1<=sizeLine;decide,kx (.inr ())⟩
   ·left
    exact k h0 h1
  ·left
   refine ve ?_
   left
   exact ⟨by show 1<=sizeLine;decide,kx (.inl ())⟩
noncomputable def yM (C CN CP:Addr):Sp:=λvs H Q E=>∃(p:Addr) (g:IceG) (l n:Int),vs=[.ref p,.int l,.int n]/\IceAt C H p g/\(0<=l->l<(g.slopes.length:Int)->0<=n->n<((g.slopes.getD l.toNat []).length:Int)->Q .non H) /\
 (l<0\/(g.slopes.length:Int)<=l->E (.ref CN) none H)/\(0<=l->l<(g.slopes.length:Int)->(n<0\/((g.slopes.getD l.toNat []).length:Int)<=n)->E (.ref CP) none H)
theorem vM:FnScope ["self","lane","place"] ["self","lane","place"] (j8 xr):=by walk_at "s"
theorem vK (nb:Nb2 mg) (T:IceC K C) (e_NoPlace:mg "NoPlace" = some (.ref CP)) (x_NoPlace:di K CP [.type "ValueError",.type "Exception",.type "BaseException",.type "object"] "ValueError.__new__" = true) (cl_Ice:Cls K C) (c_Ice__check_lane:CalMX P w K mg base 1 C "check_lane" ["self","lane"] (zj C CN)) (F:Fun K "check_place" "Ice.check_place" xr f fd):FnOk P w K mg base (CX1 P w) 2 f fd ["self","lane","place"] (yM C CN CP):=by
 refine Fun.okX F vM (λvs H Q E h=>?_) (λcdv A outer s H vs Q E hr h=>?_)
 ·obtain ⟨p,g,l,n,rfl,_⟩:=h
  rfl
 ·obtain ⟨p,g,l,n,rfl,I,k,kx,ky⟩:=h
  refine ⟨_,(j4 (jP (yk (pv 0) cl_Ice c_Ice__check_lane (hr.mono ⋯) qL (j0 (pv 1) j2)))
   (j9 (jS (x4 (qY qq yQ j5 (pv 2) (jc (jf K) rfl nb.b_len aR (j0 (js (jd K) (xq K (pv 0)) (pv 1) (λ_ _=>rfl)) j2)))) (j9 (xI bH x_NoPlace e_NoPlace rfl zq rfl (j0 jt j2))) jx))),?_⟩
  left
  refine ⟨p,g.dx,_,rfl,I.ob,qS ∅,?_⟩
  left
  refine ⟨p,g,l,rfl,I,λl0 l1=>?_,λhb=>kx hb⟩
  obtain ⟨a,ha,hla⟩:=Qz I l0 l1
  left
  refine qr (λh0=>?_) (λh0=>?_)
  ·left
   refine ⟨p,C,g.dx,_,_,rfl,I.ob,T.cl,T.nS,zU _ _ _ _ _,?_⟩
   left
   refine ⟨_,_,_,_,rfl,rfl,SqL.of I.sl,ha,?_⟩
   left
   refine ⟨_,_,rfl,.inl (SqL.of hla),?_⟩
   rw [ah]
   left
   refine zo (λh1=>?_) (λh1=>?_)
   ·left
    exact ⟨by show 1<=sizeLine;decide,ky l0 l1 (.inr ())⟩
   ·left
    exact k l0 l1 h0 h1
  ·left
   refine ve ?_
   left
   exact ⟨by show 1<=sizeLine;decide,ky l0 l1 (.inl ())⟩
noncomputable def JS (C CN:Addr):Sp:=λvs H Q E=>∃(p:Addr) (g:IceG) (l:Int),vs=[.ref p,.int l]/\IceAt C H p g/\(0<=l->l<(g.slopes.length:Int)->Q (.int ((g.slopes.getD l.toNat []).length:Int)) H)/\(l<0\/(g.slopes.length:Int)<=l->E (.ref CN) none H)
theorem gv:FnScope ["self","lane"] ["self","lane"] (j8 y9):=by walk_at "s"
theorem hX (nb:Nb2 mg) (T:IceC K C) (cl_Ice:Cls K C) (c_Ice__check_lane:CalMX P w K mg base 1 C "check_lane" ["self","lane"] (zj C CN)) (F:Fun K "length" "Ice.length" y9 f fd):FnOk P w K mg base (CX1 P w) 2 f fd ["self","lane"] (JS C CN):=by
 refine Fun.okX F gv (λvs H Q E h=>?_) (λcdv A outer s H vs Q E hr h=>?_)
 ·obtain ⟨p,g,l,rfl,_⟩:=h
  rfl
 ·obtain ⟨p,g,l,rfl,I,k,kx⟩:=h
  refine ⟨_,(j4 (jP (yk (pv 0) cl_Ice c_Ice__check_lane (hr.mono ⋯) qL (j0 (pv 1) j2)))
   (j9 (jk (jc (jf K) rfl nb.b_len aR (j0 (js (jd K) (xq K (pv 0)) (pv 1) (λ_ _=>rfl)) j2))))),?_⟩
  left
  refine ⟨p,g.dx,_,rfl,I.ob,qS ∅,?_⟩
  left
  refine ⟨p,g,l,rfl,I,λl0 l1=>?_,λhb=>kx hb⟩
  obtain ⟨a,ha,hla⟩:=Qz I l0 l1
  left
  refine ⟨p,C,g.dx,_,_,rfl,I.ob,T.cl,T.nS,zU _ _ _ _ _,?_⟩
  left
  refine ⟨_,_,_,_,rfl,rfl,SqL.of I.sl,ha,?_⟩
  left
  refine ⟨_,_,rfl,.inl (SqL.of hla),?_⟩
  rw [ah]
  exact k l0 l1
noncomputable def Q5 (C CN CP:Addr):Sp:=λvs H Q E=>∃(p:Addr) (g:IceG) (l n:Int),vs=[.ref p,.int l,.int n]/\IceAt C H p g/\(0<=l->l<(g.slopes.length:Int)->0<=n->n<((g.slopes.getD l.toNat []).length:Int)->Q (.int ((g.slopes.getD l.toNat []).getD n.toNat 0)) H) /\
 (l<0\/(g.slopes.length:Int)<=l->E (.ref CN) none H)/\(0<=l->l<(g.slopes.length:Int)->(n<0\/((g.slopes.getD l.toNat []).length:Int)<=n)->E (.ref CP) none H)
theorem gP:FnScope ["self","lane","place"] ["self","lane","place"] (j8 y4):=by walk_at "s"
theorem hZ (nb:Nb2 mg) (T:IceC K C) (cl_Ice:Cls K C) (c_Ice__check_place:CalMX P w K mg base 2 C "check_place" ["self","lane","place"] (yM C CN CP)) (F:Fun K "height" "Ice.height" y4 f fd):FnOk P w K mg base (CX1 P w) 3 f fd ["self","lane","place"] (Q5 C CN CP):=by
 refine Fun.okX F gP (λvs H Q E h=>?_) (λcdv A outer s H vs Q E hr h=>?_)
 ·obtain ⟨p,g,l,n,rfl,_⟩:=h
  rfl
 ·obtain ⟨p,g,l,n,rfl,I,k,kx,ky⟩:=h
  refine ⟨_,(j4 (jP (yk (pv 0) cl_Ice c_Ice__check_place (hr.mono ⋯) qL (j0 (pv 1) (j0 (pv 2) j2))))
   (j9 (jk (js (jd K) (js (jd K) (xq K (pv 0)) (pv 1) (λ_ _=>rfl)) (pv 2) (λ_ _=>rfl))))),?_⟩
  left
  refine ⟨p,g.dx,_,rfl,I.ob,qS ∅,?_⟩
  left
  refine ⟨p,g,l,n,rfl,I,λl0 l1 n0 n1=>?_,λhb=>kx hb,λl0 l1 hb=>ky l0 l1 hb⟩
  obtain ⟨a,ha,hla⟩:=Qz I l0 l1
  left
  refine ⟨p,C,g.dx,_,_,rfl,I.ob,T.cl,T.nS,zU _ _ _ _ _,?_⟩
  left
  refine ⟨_,_,_,_,rfl,rfl,SqL.of I.sl,ha,?_⟩
  left
  refine ⟨_,_,_,_,rfl,rfl,SqL.of hla,(by rw [show n=((n.toNat:Nat):Int) by right];exact zV (Ee ())),?_⟩
  exact k l0 l1 n0 n1
noncomputable def uU (CR:Addr):Sp:=λvs H Q E=>∃(p:Addr) (xs:List V) (ts:List T3),vs=[.ref p]/\H p=some (.lst xs)/\jp H xs ts/\ts.length<=1000/\(∀H',gr ts=true->jj H H'->Q .non H')/\∀H',gr ts=false->jj H H'->E (.ref CR) none H'
theorem kM:FnScope ["rows"] ["rows"] (j8 zY):=by walk_at "s"
theorem kA {CR:Addr}(nb:Nb2 mg) (e_BadRound:mg "BadRound" = some (.ref CR)) (x_BadRound:di K CR [.type "ValueError",.type "Exception",.type "BaseException",.type "object"] "ValueError.__new__" = true) (c_is_round:Cal P w K mg base 2 "is_round" ["rows"] (Yq K)) (F:Fun K "check_round" "check_round" zY f fd):FnOk P w K mg base (CX1 P w) 3 f fd ["rows"] (uU CR):=by
 refine Fun.okX F kM (λvs H Q E h=>?_) (λcdv A outer s H vs Q E hr h=>?_)
 ·obtain ⟨p,xs,ts,rfl,_⟩:=h
  rfl
 ·obtain ⟨p,xs,ts,rfl,hp,hr3,h1000,k,kx⟩:=h
  refine ⟨_,(j9 (jS (x4 (y8 (je c_is_round (hr.mono ⋯) rfl (j0 (pv 0) j2)))) (j9 (xI bH x_BadRound e_BadRound rfl zq rfl (j0 jt j2))) jx)),?_⟩
  left
  refine ⟨p,xs,ts,rfl,hp,hr3,h1000,λH1 s1=>?_⟩
  cases e:gr ts with
  | true =>
   left
   exact k H1 e s1
  | false =>
   left
   exact ⟨by show 1<=sizeLine;decide,kx H1 e s1⟩
noncomputable def Kp (p Pt:Addr) (H H':Hp):Prop:=∀c o,H c=some o->c≠p->c≠Pt->H' c=some o
theorem Kp.trans {p:Addr}(a:Kp p Pt H H1) (b:Kp p Pt H1 H2):Kp p Pt H H2:=λc o h n m=>b c o (a c o h n m) n m
theorem Kp.of_same {p:Addr}(s:jj H H'):Kp p Pt H H':=λc o h _ _=>s c o h
theorem Kp.of_ext {p:Addr}(s:Ext Pt H H'):Kp p Pt H H':=λc o h _ m=>s c o h m
theorem Kp.put {p:Addr}:Kp p Pt H (upd H p o):=λc _ h n _=>by rw [j7 n];exact h
theorem Kp.at {p:Addr}(k:Kp p Pt H H') (h:H a=some o) (hp:H p=some u) (hPt:H Pt=some (.tbl ps)) (n:o≠u) (m:o≠.tbl ps):H' a=some o:=k _ _ h (jn h hp n) (jn h hPt m)
theorem Kp.free {p:Addr}(k:Kp p Pt H H') (h:H' a=none) (hp:H' p=some u) (hPt:H' Pt=some u'):H a=none:=by
 cases e:H a with
 | none=>rfl
 | some o =>
  have:=k a o e (λz=>by rw [z,hp] at h;cases h) (λz=>by rw [z,hPt] at h;cases h)
  rw [h] at this
  cases this
theorem uL {fs:List (Str×V)}(T:qJ H Pt) (hp:H p=some (.ins C dx fs)):qJ (upd H p o) Pt:=by
 rcases T with h | ⟨c,h,h'⟩
 ·exact .inl (by rw [j7 (jn h hp (by walk_at "z"))];exact h)
 ·exact .inr ⟨c,by rw [j7 (jn h hp (by walk_at "z"))];exact h,by rw [j7 (jn h' hp (by walk_at "z"))];exact h'⟩
theorem ji.kp {p dx:Addr}{fs:List (Str×V)}(k:Kp p Pt H H') (hp:H p=some (.ins C dx fs)) (hPt:H Pt=some (.tbl ps)):ji H H':=λ_ _ h=>k.at h hp hPt (by walk_at "z") (by walk_at "z")
theorem pm {α β:Type}{F:α->β->Prop}:∀{l₁:List α}{l₂:List β},d0 F l₁ l₂->∀v∈l₁,∃w,F v w
 | _,_,.nil,v,h=>by cases h
 | _,_,.cons q r,v,h=>by
  rcases List.mem_cons.mp h with rfl | z
  ·exact ⟨_,q⟩
  ·exact pm r v z
theorem pmE {H H0:Hp}{a0:Addr}(r:d0 (λv (w:List Int)=>∃a,v=V.ref a/\H a=some (.lst (w.map V.int))/\H0 a=none/\a≠a0) zs rows):∀a,V.ref a∈zs->H0 a=none/\a≠a0:=λa h=>by
 obtain ⟨w,b,e,_,z⟩:=pm r _ h
 cases e
 exact z
structure IceNew (C Pt:Addr) (H H':Hp) (p:Addr) (g:IceG):Prop where
 at_:IceAt C H' p g
 keep:∀c o,H c=some o->c≠p->c≠Pt->H' c=some o
 va:H g.va=none
 cy:H g.cy=none
 sl:H g.sl=none
 ye:H g.ye=none
 le:H g.le=none
 zs:∀a,V.ref a∈g.zs->H a=none
 kvs:g.kvs=[]
 lds:∀x∈g.lds,H x.1=none/\x.2=[]
 ll:g.lds.length=g.slopes.length
 nd:(g.lds.map (·.1)).Nodup
 ny:∀x∈g.lds,x.1≠g.ye
 sl2:∃ws,qg g.rs ws/\g.slopes=ws.map (jb g.rs)
noncomputable def Wd (C CV CR Pt:Addr):Sp:=λvs H Q E=>∃(p dx r q:Addr) (xs ys:List V) (rs:List Rch) (ts:List T3),vs=[.ref p,.ref r,.ref q]/\H p=some (.ins C dx [])/\H r=some (.lst xs)/\qd H xs rs/\H q=some (.lst ys)/\jp H ys ts/\(∀r∈rs,r.2.length<=100)/\rs.length<=60/\ts.length<=1000/\qJ H Pt /\
 (∀H' g,zK rs=true->gr ts=true->IceNew C Pt H H' p g->g.rs=rs->g.rows=ts->g.xs=xs->g.ys=ys->qJ H' Pt->Q .non H') /\
 (∀H',zK rs=false->Ext Pt H H'->qJ H' Pt->E (.ref CV) none H')/\(∀H',zK rs=true->gr ts=false->Ext Pt H H'->qJ H' Pt->E (.ref CR) none H')
theorem wu:FnScope ["self","reaches","rows"] ["self","reaches","rows"] (j8 qO):=by walk_at "s"
theorem wo {f CR CN Pt:Addr}{fd:FuncData}(nb:Nb2 mg) (T:IceC K C) (e_BadValley:mg "BadValley" = some (.ref CV)) (x_BadValley:di K CV [.type "ValueError",.type "Exception",.type "BaseException",.type "object"] "ValueError.__new__" = true)
  (c_is_valley:Cal P w K mg base 6 "is_valley" ["reaches"] (XG K Pt)) (c_check_round:CalX P w K mg base 3 "check_round" ["rows"] (uU CR)) (c_lanes:Cal P w K mg base 5 "lanes" ["reaches"] (uS K Pt)) (c_heights:Cal P w K mg base 7 "heights" ["reaches","lane"] (λvs H Q _=>JW Pt CN vs H Q E0))
  (F:Fun K "__init__" "Ice.__init__" qO f fd):FnOk P w K mg base (CX1 P w) 8 f fd ["self","reaches","rows"] (Wd C CV CR Pt):=by
 refine Fun.okX F wu (λvs H Q E h=>?_) (λcdv A outer s H vs Q E hr h=>?_)
 ·obtain ⟨p,dx,r,q,xs,ys,rs,ts,rfl,_⟩:=h
  rfl
 ·obtain ⟨p,dx,r,q,xs,ys,rs,ts,rfl,hp,hr',hrw,hq,hr3,h100,h60,h1000,hT,k,kv,kr⟩:=h
  obtain ⟨ps,hPt⟩:=hT.ne
  refine ⟨_,(j4 (jS (x4 (y8 (je c_is_valley (hr.mono ⋯) rfl (j0 (pv 1) j2)))) (j9 (xI bH x_BadValley e_BadValley rfl zq rfl (j0 jt j2))) jx)
   (j4 (jP (xY c_check_round (hr.mono ⋯) qL rfl (j0 (pv 2) j2)))
   (j4 (uW K (pv 0) (qA (qu K) rfl nb.b_list bT (j0 (pv 1) j2)))
   (j4 (uW K (pv 0) (qA (qu K) rfl nb.b_list bT (j0 (pv 2) j2)))
   (j4 (uW K (pv 0) (qa (osc:=(j8 qO)) (ON:=["self","reaches","rows"]) (N:=["lane","reaches"]) (own:=1) (caps:=[1]) ⟨rfl,∅,∅,∅,rfl,∅⟩ rfl rfl rfl (qi rfl nb.b_range (j0 (jc (jf K) rfl nb.b_len aR (j0 (je c_lanes (hr.mono ⋯) rfl (j0 (pv 1) j2)) j2)) j2)) (λ_ _ _ _ _=>(ja (i:=0) (show bu (["lane","reaches"]:List Str) by decide +kernel) rfl (aQ rfl))) (λ_ _ _ _ _=>jN) (λ_ _ _ _ _=>(je c_heights (hr.mono ⋯) rfl (j0 (pv 1) (j0 (pv 0) j2))))))
   (j4 (uW K (pv 0) yq)
   (j9 (uW K (pv 0) (qa (osc:=(j8 qO)) (ON:=["self","reaches","rows"]) (N:=["slope"]) (own:=1) (caps:=[]) ⟨rfl,∅,∅,∅,rfl,∅⟩ rfl rfl rfl (qc K (xq K (pv 0))) (λ_ _ _ _ _=>(ja (i:=0) (show bu (["slope"]:List Str) by decide +kernel) rfl (aQ rfl))) (λ_ _ _ _ _=>jN) (λ_ _ _ _ _=>yq)))))))))),?_⟩
  left
  refine ⟨r,xs,rs,rfl,hr',hrw,h100,h60,hT,λH1 X1 T1=>?_⟩
  cases eg:zK rs with
  | false =>
   left
   exact ⟨by show 1<=sizeLine;decide,kv H1 eg X1 T1⟩
  | true =>
   have X1':∀{a:Addr} {o:HO},H a=some o->(∀ps,o≠.tbl ps)->H1 a=some o:=λ{a o} h n=>X1 _ _ h (jn h hPt (n _))
   have hp1:=X1' hp (by walk_at "w")
   have hr1:=X1' hr' (by walk_at "w")
   have hq1:=X1' hq (by walk_at "w")
   have hrw1:qd H1 xs rs:=hrw.keep (ji.tbl X1 hPt)
   have hr31:jp H1 ys ts:=hr3.imp λa t e=>X1' e (by walk_at "w")
   left
   refine ⟨q,ys,ts,rfl,hq1,hr31,h1000,λH2 egr s2=>?_,λH2 egr s2=>kr H2 eg egr (X1.trans (Ext.of_same s2)) (T1.same s2)⟩
   have L:xy rs:=qk (by unfold zK at eg;rw [bb,bb] at eg;exact eg.2.1)
   have k2:Kp p Pt H H2:=(Kp.of_ext X1).trans (Kp.of_same s2)
   have hp2:=s2 _ _ hp1
   have T2:=T1.same s2
   left
   refine ⟨_,_,rfl,.inl (SqL.of (s2 _ _ hr1)),λva H3 va2 va3 s3=>?_⟩
   have hp3:=s3 _ _ hp2
   have T3':=T2.same s3
   have k3:=k2.trans (Kp.of_same s3)
   obtain ⟨_,hPt2⟩:=T2.ne
   have va0:=k2.free va2 hp2 hPt2
   left
   refine ⟨p,C,dx,_,rfl,hp3,T.cl,T.nV,⋯,?_⟩
   have Ta:qJ (upd H3 p (HO.ins C dx (ju "valley" (V.ref va) []))) Pt:=uL T3' hp3
   have ka:=k3.trans (Kp.put (p:=p) (Pt:=Pt) (o:=HO.ins C dx (ju "valley" (V.ref va) [])))
   have pa:upd H3 p (HO.ins C dx (ju "valley" (V.ref va) [])) p=some (HO.ins C dx (ju "valley" (V.ref va) [])):=j6
   have vaa:upd H3 p (HO.ins C dx (ju "valley" (V.ref va) [])) va=some (HO.lst xs):=by rw [j7 (j1 hp2 va2).symm];exact va3
   clear k2 k3 hp1 hr1 hq1 hrw1 hr31 X1' X1 T1 s2 hp2 T2 s3 hp3 T3' va3 va2 hPt2
   generalize upd H3 p (HO.ins C dx (ju "valley" (V.ref va) []))=Ha at *
   obtain ⟨_,hPta⟩:=Ta.ne
   have vaP:va≠Pt:=jn vaa hPta (by walk_at "z")
   have vap:va≠p:=jn vaa pa (by walk_at "z")
   left
   refine ⟨_,_,rfl,.inl (SqL.of (ka.at hq hp hPt (by walk_at "z") (by walk_at "z"))),λcy H4 cya cy4 s4=>?_⟩
   have hp4:=s4 _ _ pa
   have T4:=Ta.same s4
   have cy0:=ka.free cya pa hPta
   left
   refine ⟨p,C,dx,_,rfl,hp4,T.cl,T.nC,bV (jY _ _ _) ⋯,?_⟩
   have kb:=(ka.trans (Kp.of_same s4)).trans (Kp.put (p:=p) (Pt:=Pt) (o:=HO.ins C dx (ju "cycle" (V.ref cy) (ju "valley" (V.ref va) []))))
   have Tb:qJ (upd H4 p (HO.ins C dx (ju "cycle" (V.ref cy) (ju "valley" (V.ref va) [])))) Pt:=uL T4 hp4
   have pb:upd H4 p (HO.ins C dx (ju "cycle" (V.ref cy) (ju "valley" (V.ref va) []))) p=some (HO.ins C dx (ju "cycle" (V.ref cy) (ju "valley" (V.ref va) []))):=j6
   have vab:upd H4 p (HO.ins C dx (ju "cycle" (V.ref cy) (ju "valley" (V.ref va) []))) va=some (HO.lst xs):=by rw [j7 vap];exact s4 _ _ vaa
   have cyb:upd H4 p (HO.ins C dx (ju "cycle" (V.ref cy) (ju "valley" (V.ref va) []))) cy=some (HO.lst ys):=by rw [j7 (j1 pa cya).symm];exact cy4
   clear ka Ta pa vaa s4 hp4 T4 cya cy4 hPta
   generalize upd H4 p (HO.ins C dx (ju "cycle" (V.ref cy) (ju "valley" (V.ref va) [])))=Hb at *
   obtain ⟨_,hPtb⟩:=Tb.ne
   have cyP:cy≠Pt:=jn cyb hPtb (by walk_at "z")
   have cyp:cy≠p:=jn cyb pb (by walk_at "z")
   have pP:p≠Pt:=jn pb hPtb (by walk_at "z")
   left
   refine ⟨r,xs,rs,rfl,kb.at hr' hp hPt (by walk_at "z") (by walk_at "z"),hrw.keep (ji.kp kb hp hPt),L,h60,Tb,λo H5 out ws ho ho5 hw hR X5 T5=>?_⟩
   left
   refine ⟨_,_,rfl,.inl (SqL.of ho5),?_⟩
   have hlen:out.length=ws.length:=hw.length
   have hws:ws.length<=60:=by
    rw [hR.length]
    unfold jv
    exact aH (bY _ _) (by rw [bp];exact h60)
   refine ⟨(out.length:Int),rfl,(),(),λacc hacc=>?_⟩
   obtain ⟨_,hPt5⟩:=T5.ne
   have kb5:Kp p Pt H H5:=kb.trans (Kp.of_ext X5)
   have hp5:=X5 _ _ pb pP
   have va5:=X5 _ _ vab vaP
   have cy5:=X5 _ _ cyb cyP
   have hr5:H5 r=some (.lst xs):=kb5.at hr' hp hPt (by walk_at "z") (by walk_at "z")
   have hrw5:qd H5 xs rs:=hrw.keep (ji.kp kb5 hp hPt)
   have accP:Pt≠acc:=j1 hPt5 hacc
   refine qX (lo:=0) (n:=((out.length:Int)).toNat) (acc:=acc) (λi σ H6=>∃(x:Option V) (zs:List V),σ=[x,some (.ref r)]/\H6 acc=some (.lst zs)/\zs.length=i/\d0 (λv (w:List Int)=>∃a,v=V.ref a/\H6 a=some (.lst (w.map V.int))/\H5 a=none/\a≠acc) zs ((ws.take i).map (jb rs))/\Kp acc Pt H5 H6/\qJ H6 Pt) ?_ ?_ ?_
   ·exact ⟨none,[],rfl,j6,rfl,.nil,Kp.put,T5.extN hacc Ext.put⟩
   ·rintro i σ H6 hi ⟨x,zs,rfl,h6,hz,r6,k6,T6⟩
    obtain ⟨_,hPt6⟩:=T6.ne
    have iw:i<ws.length:=()
    left
    refine ⟨r,xs,rs,_,rfl,k6 _ _ hr5 (j1 hr5 hacc) (jn hr5 hPt5 (by walk_at "z")),hrw5.keep (λa o h=>k6 _ _ h (j1 h hacc) (jn h hPt5 (by walk_at "z"))),L,h60,h100,T6,λt H7 ws' i' ei hi' hR' ht ht7 X7 T7=>?_,λH' hb _ _=>?_⟩
    ·obtain rfl:=hR.unique hR'
     obtain rfl:i'=i:=()
     have h7:=X7 _ _ h6 accP.symm
     have ta:t≠acc:=(j1 h6 ht).symm
     have tP:t≠Pt:=(j1 hPt6 ht).symm
     refine ⟨zs,h7,jh (),some (.int (0+(i':Int))),zs++[.ref t],rfl,j6,by rw [aq,hz];rfl,?_,?_,?_⟩
     ·rw [qI (jb rs) ws i' (ws.getD i' []) (by rw [ao,af iw];rfl)]
      refine d5 (Paired.mapP r6 λv wy ⟨a,e,ha,h0,na⟩=>⟨a,e,?_,h0,na⟩) ⟨t,rfl,by rw [j7 ta];exact ht7,k6.free ht h6 hPt6,ta⟩
      rw [j7 na]
      exact X7 _ _ ha (jn ha hPt6 (by walk_at "z"))
     ·exact (k6.trans (Kp.of_ext X7)).trans Kp.put
     ·exact T7.ext h7 Ext.put
    ·have:=hR.length
     exact absurd hb ()
   ·rintro σ H6 ⟨x,zs,rfl,h6,hz,r6,k6,T6⟩
    rw [bF,hlen,aY] at r6
    have f6:=pmE r6
    have hp6:=k6 _ _ hp5 (j1 hp5 hacc) pP
    have kc:Kp p Pt H (upd H6 p (HO.ins C dx (ju "slopes" (V.ref acc) (ju "cycle" (V.ref cy) (ju "valley" (V.ref va) []))))):=λc o h n m=>by
     rw [j7 n]
     have:=kb5 c o h n m
     exact k6 _ _ this (j1 this hacc) m
    have acp:acc≠p:=(j1 hp5 hacc).symm
    have acc0:=kb5.free hacc hp5 hPt5
    have zs0:∀a,V.ref a∈zs->H a=none:=λa z=>kb5.free (f6 a z).1 hp5 hPt5
    left
    refine ⟨p,C,dx,_,rfl,hp6,T.cl,T.nS,bV (aH (jY _ _ _) (dU (jY _ _ _))) ⋯,?_⟩
    have Tc:qJ (upd H6 p (HO.ins C dx (ju "slopes" (V.ref acc) (ju "cycle" (V.ref cy) (ju "valley" (V.ref va) []))))) Pt:=uL T6 hp6
    have pc:upd H6 p (HO.ins C dx (ju "slopes" (V.ref acc) (ju "cycle" (V.ref cy) (ju "valley" (V.ref va) [])))) p=some (HO.ins C dx (ju "slopes" (V.ref acc) (ju "cycle" (V.ref cy) (ju "valley" (V.ref va) [])))):=j6
    have vac:upd H6 p (HO.ins C dx (ju "slopes" (V.ref acc) (ju "cycle" (V.ref cy) (ju "valley" (V.ref va) [])))) va=some (HO.lst xs):=by rw [j7 vap];exact k6 _ _ va5 (j1 va5 hacc) vaP
    have cyc:upd H6 p (HO.ins C dx (ju "slopes" (V.ref acc) (ju "cycle" (V.ref cy) (ju "valley" (V.ref va) [])))) cy=some (HO.lst ys):=by rw [j7 cyp];exact k6 _ _ cy5 (j1 cy5 hacc) cyP
    have slc:upd H6 p (HO.ins C dx (ju "slopes" (V.ref acc) (ju "cycle" (V.ref cy) (ju "valley" (V.ref va) [])))) acc=some (HO.lst zs):=by rw [j7 acp];exact h6
    have slsc:yR (upd H6 p (HO.ins C dx (ju "slopes" (V.ref acc) (ju "cycle" (V.ref cy) (ju "valley" (V.ref va) []))))) zs (ws.map (jb rs)):=Paired.mapP r6 λv wy ⟨a,e,ha,h0,na⟩=>⟨a,e,by rw [j7 (j1 hp5 h0).symm];exact ha⟩
    clear r6 f6 k6 T6 h6 hp6 kb5 hp5 va5 cy5 hr5 hrw5 X5 T5 kb Tb pb vab cyb hPtb accP hacc ho ho5 hw hPt5
    generalize upd H6 p (HO.ins C dx (ju "slopes" (V.ref acc) (ju "cycle" (V.ref cy) (ju "valley" (V.ref va) []))))=Hc at *
    left
    intro ye hye
    obtain ⟨_,hPtc⟩:=Tc.ne
    have ye0:=kc.free hye pc hPtc
    have yep:ye≠p:=(j1 pc hye).symm
    have s9:jj Hc (upd Hc ye (.dK [])):=jj.new hye
    left
    refine ⟨p,C,dx,_,rfl,s9 _ _ pc,T.cl,T.nY,bV (aH (jY _ _ _) (dU (aH (jY _ _ _) (dU (jY _ _ _))))) ⋯,?_⟩
    have d_of:∀c o,Hc c=some o->c≠p->(upd (upd Hc ye (HO.dK [])) p (HO.ins C dx (ju "years" (V.ref ye) (ju "slopes" (V.ref acc) (ju "cycle" (V.ref cy) (ju "valley" (V.ref va) [])))))) c=some o:=λc o h n=>by rw [j7 n];exact s9 _ _ h
    have kd:Kp p Pt H (upd (upd Hc ye (HO.dK [])) p (HO.ins C dx (ju "years" (V.ref ye) (ju "slopes" (V.ref acc) (ju "cycle" (V.ref cy) (ju "valley" (V.ref va) [])))))):=(kc.trans (Kp.of_same s9)).trans Kp.put
    have Td:qJ (upd (upd Hc ye (HO.dK [])) p (HO.ins C dx (ju "years" (V.ref ye) (ju "slopes" (V.ref acc) (ju "cycle" (V.ref cy) (ju "valley" (V.ref va) [])))))) Pt:=uL (Tc.same s9) (s9 _ _ pc)
    have pd:(upd (upd Hc ye (HO.dK [])) p (HO.ins C dx (ju "years" (V.ref ye) (ju "slopes" (V.ref acc) (ju "cycle" (V.ref cy) (ju "valley" (V.ref va) [])))))) p=some (HO.ins C dx (ju "years" (V.ref ye) (ju "slopes" (V.ref acc) (ju "cycle" (V.ref cy) (ju "valley" (V.ref va) []))))):=j6
    have vad:=d_of _ _ vac vap
    have cyd:=d_of _ _ cyc cyp
    have sld:=d_of _ _ slc acp
    have yed:(upd (upd Hc ye (HO.dK [])) p (HO.ins C dx (ju "years" (V.ref ye) (ju "slopes" (V.ref acc) (ju "cycle" (V.ref cy) (ju "valley" (V.ref va) [])))))) ye=some (.dK []):=by rw [j7 yep];exact j6
    have slsd:yR (upd (upd Hc ye (HO.dK [])) p (HO.ins C dx (ju "years" (V.ref ye) (ju "slopes" (V.ref acc) (ju "cycle" (V.ref cy) (ju "valley" (V.ref va) [])))))) zs (ws.map (jb rs)):=Paired.mapP slsc λv wy ⟨a,e,ha⟩=>⟨a,e,d_of _ _ ha (jn ha pc (by walk_at "z"))⟩
    clear d_of kc Tc pc vac cyc slc slsc hye hPtc s9
    generalize (upd (upd Hc ye (HO.dK [])) p (HO.ins C dx (ju "years" (V.ref ye) (ju "slopes" (V.ref acc) (ju "cycle" (V.ref cy) (ju "valley" (V.ref va) []))))))=Hd at *
    obtain ⟨_,hPtd⟩:=Td.ne
    left
    refine ⟨p,C,dx,_,_,rfl,pd,T.cl,T.nS,(by rw [jB,if_neg ∅,jB,if_pos rfl]),?_⟩
    left
    refine ⟨⟨_,SqL.of sld⟩,λle hle=>?_⟩
    have lep:le≠p:=(j1 pd hle).symm
    have le0:=kd.free hle pd hPtd
    have zl:zs.length<=60:=()
    refine qz (K:=K) (a:=acc) (xs:=zs) (acc:=le) (λi σ He=>∃(x:Option V) (lds:List (Addr×List (Key×V))),σ=[x]/\He le=some (.lst (lds.map λx=>V.ref x.1))/\lds.length=i/\(∀x∈lds,He x.1=some (.dK x.2)/\x.2=[]/\Hd x.1=none/\x.1≠le)/\(lds.map (·.1)).Nodup/\Ext le Hd He) ?_ ?_ ?_ ?_
    ·exact ⟨none,[],rfl,j6,rfl,(λx z=>by cases z),i8,Ext.put⟩
    ·rintro i σ He hi ⟨x,lds,rfl,he,hl,hd,nn,e⟩
     exact SqL.of (e _ _ sld (j1 sld hle))
    ·rintro i v σ He hv ⟨x,lds,rfl,he,hl,hd,nn,e⟩
     have hi:=(List.getElem?_eq_some_iff.mp hv).1
     left
     intro d hd0
     have dl:d≠le:=(j1 he hd0).symm
     refine ⟨_,(by rw [j7 (cF dl)];exact he),by rw [ah];exact jh (),some v,lds++[(d,[])],rfl,(by rw [j6,aG];rfl),(by rw [aq,hl];rfl),λy hy=>?_,?_,λc o hc n=>?_⟩
     ·rcases List.mem_append.mp hy with z | z
      ·obtain ⟨h1,h2,h3,h4⟩:=hd y z
       exact ⟨by rw [j7 h4,j7 (j1 h1 hd0)];exact h1,h2,h3,h4⟩
      ·obtain rfl:y=(d,[]):=by simpa using z
       exact ⟨by rw [j7 dl];exact j6,rfl,e.free hd0 dl,dl⟩
     ·rw [aG]
      refine ki nn λz=>?_
      obtain ⟨y,hy,ey⟩:=List.mem_map.mp z
      have:=(hd y hy).1
      rw [ey,hd0] at this
      cases this
     ·rw [j7 n,j7 (j1 (e c o hc n) hd0)]
      exact e c o hc n
    ·rintro σ He ⟨x,lds,rfl,he,hl,hd,nn,e⟩
     have hpe:=e _ _ pd (j1 pd hle)
     left
     refine ⟨p,C,dx,_,rfl,hpe,T.cl,T.nL,bV (aH (jY _ _ _) (dU (aH (jY _ _ _) (dU (aH (jY _ _ _) (dU (jY _ _ _))))))) ⋯,?_⟩
     have f_of:∀c o,Hd c=some o->c≠p->upd He p (HO.ins C dx (ju "leaps" (V.ref le) (ju "years" (V.ref ye) (ju "slopes" (V.ref acc) (ju "cycle" (V.ref cy) (ju "valley" (V.ref va) [])))))) c=some o:=λc o h n=>by rw [j7 n];exact e _ _ h (j1 h hle)
     have kf:Kp p Pt H (upd He p (HO.ins C dx (ju "leaps" (V.ref le) (ju "years" (V.ref ye) (ju "slopes" (V.ref acc) (ju "cycle" (V.ref cy) (ju "valley" (V.ref va) []))))))):=λc o h n m=>f_of c o (kd c o h n m) n
     have hnp:∀x∈lds,x.1≠p:=λx hx=>(j1 pd (hd x hx).2.2.1).symm
     refine k _ { dx:=dx,va:=va,cy:=cy,sl:=acc,ye:=ye,le:=le,xs:=xs,ys:=ys,zs:=zs,lds:=lds,kvs:=[],rs:=rs,rows:=ts,slopes:=ws.map (jb rs) } eg egr ⟨⟨j6,f_of _ _ vad vap,hrw.keep (ji.kp kf hp hPt),f_of _ _ cyd cyp,hr3.imp λa t e=>kf.at e hp hPt (by walk_at "z") (by walk_at "z"),f_of _ _ sld acp,Paired.mapP slsd λv wy ⟨a,e,ha⟩=>⟨a,e,f_of _ _ ha (jn ha pd (by walk_at "z"))⟩,f_of _ _ yed yep,(by rw [j7 lep];exact he),λx hx=>by rw [j7 (hnp x hx)];exact (hd x hx).1⟩,kf,va0,cy0,acc0,ye0,le0,zs0,rfl,λx hx=>⟨kd.free (hd x hx).2.2.1 pd hPtd,(hd x hx).2.1⟩,hl.trans (aT slsd),nn,λx hx=>(j1 yed (hd x hx).2.2.1).symm,ws,hR,rfl⟩ rfl rfl rfl rfl (uL (Td.extN hle e) hpe)
noncomputable def vd (CY:Addr):Sp:=λvs H Q E=>∃y:Int,vs=[.int y]/\(0<=y->y<=99->Q .non H)/\(y<0\/99<y->E (.ref CY) none H)
theorem Jo:FnScope ["year"] ["year"] (j8 yG):=by walk_at "s"
theorem Jm (g_LAST_TOLD:mg "LAST_TOLD" = some (.int 99 u0)) (e_BadYear:mg "BadYear" = some (.ref CY)) (x_BadYear:di K CY [.type "ValueError",.type "Exception",.type "BaseException",.type "object"] "ValueError.__new__" = true) (F:Fun K "check_told" "check_told" yG f fd):FnOk P w K mg base (CX1 P w) 1 f fd ["year"] (vd CY):=by
 refine Fun.okX F Jo (λvs H Q E h=>?_) (λcdv A outer s H vs Q E hr h=>?_)
 ·obtain ⟨y,rfl,_⟩:=h
  rfl
 ·obtain ⟨y,rfl,k,kx⟩:=h
  refine ⟨_,(j9 (jS (x4 (qY qq qq j5 (pv 0) (qH (v:=V.int 99) rfl g_LAST_TOLD ⟨_,rfl⟩))) (j9 (xI bH x_BadYear e_BadYear rfl zq rfl (j0 jt j2))) jx)),?_⟩
  left
  refine qr (λh0=>?_) (λh0=>?_)
  ·left
   refine zo (λh1=>?_) (λh1=>?_)
   ·left
    exact ⟨by show 1<=sizeLine;decide,kx (.inr ())⟩
   ·left
    exact k h0 h1
  ·left
   refine ve ?_
   left
   exact ⟨by show 1<=sizeLine;decide,kx (.inl ())⟩
theorem IceAt.years {p:Addr}{g:IceG}{kvs:List (Key×V)}(I:IceAt C H p g) (hn:∀x∈g.lds,x.1≠g.ye) (e:Ext g.ye H H') (h:H' g.ye=some (.dK kvs)):IceAt C H' p { g with kvs:=kvs }:=by
 have f:∀{c:Addr} {o:HO},H c=some o->o≠.dK g.kvs->H' c=some o:=λh n=>e _ _ h (jn h I.ye n)
 exact ⟨f I.ob (by walk_at "z"),f I.va (by walk_at "z"),I.rs.keep λ_ _ q=>f q (by walk_at "z"),f I.cy (by walk_at "z"),I.rows.imp λ_ _ q=>f q (by walk_at "z"),f I.sl (by walk_at "z"),Paired.mapP I.slopes λv w ⟨a,ea,q⟩=>⟨a,ea,f q (by walk_at "z")⟩,h,f I.le (by walk_at "z"),λx hx=>e _ _ (I.lds x hx) (hn x hx)⟩
noncomputable def UA (C CY CW:Addr):Sp:=λvs H Q E=>∃(p t:Addr) (g:IceG) (y:Int) (r:T3),vs=[.ref p,.int y,.ref t]/\IceAt C H p g/\(∀x∈g.lds,x.1≠g.ye)/\H t=some (yt r)/\g.kvs.length<=1000 /\
 (∀H',0<=y->y<=99->good r=true->Ext g.ye H H'->IceAt C H' p { g with kvs:=qC g.kvs (.inl y) (.ref t) }->Q .non H')/\(y<0\/99<y->E (.ref CY) none H)/\(0<=y->y<=99->good r=false->E (.ref CW) none H)
theorem Qn:FnScope ["self","year","row"] ["self","year","row"] (j8 yY):=by walk_at "s"
theorem Qj (nb:Nb2 mg) (T:IceC K C) (e_BadWeather:mg "BadWeather" = some (.ref CW)) (x_BadWeather:di K CW [.type "ValueError",.type "Exception",.type "BaseException",.type "object"] "ValueError.__new__" = true) (c_check_told:CalX P w K mg base 1 "check_told" ["year"] (vd CY)) (c_is_weather:Cal P w K mg base 1 "is_weather" ["row"] Zx) (F:Fun K "tell" "Ice.tell" yY f fd):FnOk P w K mg base (CX1 P w) 2 f fd ["self","year","row"] (UA C CY CW):=by
 refine Fun.okX F Qn (λvs H Q E h=>?_) (λcdv A outer s H vs Q E hr h=>?_)
 ·obtain ⟨p,t,g,y,r,rfl,_⟩:=h
  rfl
 ·obtain ⟨p,t,g,y,r,rfl,I,hn,ht,hk,k,ky,kw⟩:=h
  refine ⟨_,(j4 (jP (xY c_check_told (hr.mono ⋯) qL rfl (j0 (pv 1) j2)))
   (j4 (jS (x4 (y8 (je c_is_weather (hr.mono ⋯) rfl (j0 (pv 2) j2)))) (j9 (xI bH x_BadWeather e_BadWeather rfl zq rfl (j0 jt j2))) jx)
   (j9 (zp (jO hr) (xq K (pv 0)) (pv 1) (pv 2) rfl)))),?_⟩
  left
  refine ⟨λh0 h1=>?_,λhb=>ky hb⟩
  left
  refine ⟨t,r,rfl,ht,?_⟩
  cases eg:good r with
  | false =>
   left
   exact ⟨by show 1<=sizeLine;decide,kw h0 h1 eg⟩
  | true =>
   left
   refine ⟨p,C,g.dx,_,_,rfl,I.ob,T.cl,T.nY,kW _ _ _ _ _,?_⟩
   left
   refine ⟨g.ye,_,rfl,vY.k (k:=.inl y) I.ye (jh hk),?_⟩
   exact k _ h0 h1 eg Ext.put (I.years hn Ext.put j6)
noncomputable def vc (l:List (Addr×List (Key×V))) (n:Nat) (kvs:List (Key×V)):List (Addr×List (Key×V)):=l.set n ((l.getD n (0,[])).1,kvs)
theorem Vi (l:List (Addr×List (Key×V))) (n:Nat) (kvs:List (Key×V)):(vc l n kvs).map (λx=>V.ref x.1)=l.map λx=>V.ref x.1:=by
 unfold vc
 rw [List.map_set]
 by_cases h:n<l.length
 ·rw [ao,af h]
  refine lP λi=>?_
  rw [ia]
  by_cases e:n=i
  ·subst e
   rw [if_pos rfl,ah,if_pos h,aA,af h]
   rfl
  ·rw [if_neg e]
 ·rw [List.set_eq_of_length_le (by rw [ah];right)]
theorem IceAt.leap {p:Addr}{g:IceG}{n:Nat}{a:Addr}{kvs:List (Key×V)}(I:IceAt C H p g) (ha:g.lds[n]? = some (a,kvs)) (hn:∀x∈g.lds,x.1≠g.ye) (nd:(g.lds.map (·.1)).Nodup) (e:Ext a H H') (h:H' a=some (.dK kvs')):IceAt C H' p { g with lds:=vc g.lds n kvs' }:=by
 have hm:=az ha
 have h0:=I.lds _ hm
 have f:∀{c:Addr} {o:HO},H c=some o->(∀z,o≠.dK z)->H' c=some o:=λh n=>e _ _ h (jn h h0 (n _))
 have hl:n<g.lds.length:=(List.getElem?_eq_some_iff.mp ha).1
 refine ⟨f I.ob (by walk_at "w"),f I.va (by walk_at "w"),I.rs.keep λ_ _ q=>f q (by walk_at "w"),f I.cy (by walk_at "w"),I.rows.imp λ_ _ q=>f q (by walk_at "w"),f I.sl (by walk_at "w"),Paired.mapP I.slopes λv w ⟨a,ea,q⟩=>⟨a,ea,f q (by walk_at "w")⟩,e _ _ I.ye (λz=>hn _ hm z.symm),(by show H' g.le=_;rw [Vi];exact f I.le (by walk_at "w")),λx hx=>?_⟩
 have hx':x∈vc g.lds n kvs':=hx
 obtain ⟨i,hi,ex⟩:=List.mem_iff_getElem.mp hx'
 have hi2:i<g.lds.length:=by unfold vc at hi;rw [iL] at hi;exact hi
 have ex2:(vc g.lds n kvs')[i]? = some x:=by rw [af hi,ex]
 unfold vc at ex2
 rw [ia] at ex2
 by_cases en:n=i
 ·rw [if_pos en,if_pos ()] at ex2
  rw [<- aW ex2,ao,ha]
  exact h
 ·rw [if_neg en] at ex2
  refine e _ _ (I.lds x (az ex2)) λz=>en ?_
  have h1:(g.lds.map (·.1))[n]? = some a:=by rw [aA,ha];rfl
  have h2:(g.lds.map (·.1))[i]? = some a:=by rw [aA,ex2,<- z];rfl
  have l1:=(List.getElem?_eq_some_iff.mp h1).1
  have l2:=(List.getElem?_eq_some_iff.mp h2).1
  exact (List.getElem?_inj l1 nd).mp (h1.trans h2.symm)
noncomputable def Yx (C CN CY CS:Addr):Sp:=λvs H Q E=>∃(p:Addr) (g:IceG) (l y m:Int),vs=[.ref p,.int l,.int y,.int m]/\IceAt C H p g/\g.lds.length=g.slopes.length/\(∀x∈g.lds,x.1≠g.ye)/\(g.lds.map (·.1)).Nodup/\(∀x∈g.lds,x.2.length<=1000) /\
 (∀H' a kvs,0<=l->l<(g.slopes.length:Int)->0<=y->y<=99->1<=m->m<=9->g.lds[l.toNat]? = some (a,kvs)->Ext a H H'->IceAt C H' p { g with lds:=vc g.lds l.toNat (qC kvs (.inl y) (.int m)) }->Q .non H') /\
 (l<0\/(g.slopes.length:Int)<=l->E (.ref CN) none H)/\(0<=l->l<(g.slopes.length:Int)->y<0\/99<y->E (.ref CY) none H)/\(0<=l->l<(g.slopes.length:Int)->0<=y->y<=99->m<1\/9<m->E (.ref CS) none H)
theorem Jp:FnScope ["self","lane","year","many"] ["self","lane","year","many"] (j8 yB):=by walk_at "s"
theorem Jj (nb:Nb2 mg) (T:IceC K C) (cl_Ice:Cls K C) (g_GREATEST_SURGE:mg "GREATEST_SURGE" = some (.int 9 u0)) (e_BadSurge:mg "BadSurge" = some (.ref CS)) (x_BadSurge:di K CS [.type "ValueError",.type "Exception",.type "BaseException",.type "object"] "ValueError.__new__" = true) (c_Ice__check_lane:CalMX P w K mg base 1 C "check_lane" ["self","lane"] (zj C CN)) (c_check_told:CalX P w K mg base 1 "check_told" ["year"] (vd CY)) (F:Fun K "surge" "Ice.surge" yB f fd):FnOk P w K mg base (CX1 P w) 2 f fd ["self","lane","year","many"] (Yx C CN CY CS):=by
 refine Fun.okX F Jp (λvs H Q E h=>?_) (λcdv A outer s H vs Q E hr h=>?_)
 ·obtain ⟨p,g,l,y,m,rfl,_⟩:=h
  rfl
 ·obtain ⟨p,g,l,y,m,rfl,I,hll,hn,nd,hk,k,kn,ky,ks⟩:=h
  refine ⟨_,(j4 (jP (yk (pv 0) cl_Ice c_Ice__check_lane (hr.mono ⋯) qL (j0 (pv 1) j2)))
   (j4 (jP (xY c_check_told (hr.mono ⋯) qL rfl (j0 (pv 2) j2)))
   (j4 (jS (x4 (qY qq qq j5 (pv 3) (qH (v:=V.int 9) rfl g_GREATEST_SURGE ⟨_,rfl⟩))) (j9 (xI bH x_BadSurge e_BadSurge rfl zq rfl (j0 jt j2))) jx)
   (j9 (zp (jO hr) (js (jd K) (xq K (pv 0)) (pv 1) (λ_ _=>rfl)) (pv 2) (pv 3) rfl))))),?_⟩
  left
  refine ⟨p,g.dx,_,rfl,I.ob,qS ∅,?_⟩
  left
  refine ⟨p,g,l,rfl,I,λl0 l1=>?_,λhb=>kn hb⟩
  left
  refine ⟨λh0 h1=>?_,λhb=>ky l0 l1 hb⟩
  have hi:l.toNat<g.lds.length:=()
  left
  refine qr (λm0=>?_) (λm0=>?_)
  ·left
   refine zo (λm1=>?_) (λm1=>?_)
   ·left
    exact ⟨by show 1<=sizeLine;decide,ks l0 l1 h0 h1 (.inr ())⟩
   ·left
    refine ⟨p,C,g.dx,_,_,rfl,I.ob,T.cl,T.nL,vZ _ _ _ _ _,?_⟩
    left
    refine ⟨_,_,_,_,rfl,rfl,SqL.of I.le,qQ l0 (v:=V.ref (g.lds[l.toNat]'hi).1) (by rw [aA,af hi];rfl),?_⟩
    left
    have h0':=I.lds _ (c8 hi)
    refine ⟨_,_,rfl,vY.k (k:=.inl y) h0' (jh (hk _ (c8 hi))),?_⟩
    exact k _ _ _ l0 l1 h0 h1 m0 m1 (af hi) Ext.put (I.leap (af hi) hn nd Ext.put j6)
  ·left
   refine ve ?_
   left
   exact ⟨by show 1<=sizeLine;decide,ks l0 l1 h0 h1 (.inl ())⟩
noncomputable def kvI (q:Int×Int):Key×V:=(.inl q.1,.int q.2)
noncomputable def qZ:List (Int×Int)->Int->Int
 | [],_=>0
 | q::r,y=>if q.1=y then q.2 else qZ r y
theorem vG:∀(ns:List (Int×Int)) (y:Int),y∈ns.map (·.1)->jZ (ns.map kvI) (.inl y)=some (.int (qZ ns y))
 | [],y,h=>by cases h
 | q::r,y,h=>by
  rw [aM]
  unfold jZ qZ
  by_cases e:q.1=y
  ·subst e
   simp [kvI,List.find?]
  ·have h':y∈r.map (·.1):=by
    rcases List.mem_cons.mp h with z | z
    ·exact absurd z.symm e
    ·exact z
   have ih:=vG r y h'
   unfold jZ at ih
   simp [kvI,List.find?,e] at ih ⊢
   exact ih
theorem QV:∀(ns:List (Int×Int)),(ns.map (·.1)).Nodup->(ns.map (·.1)).map (λy=>(y,qZ ns y))=ns
 | [],_=>rfl
 | q::r,nd=>by
  rw [aM] at nd ⊢
  obtain ⟨h1,h2⟩:=List.nodup_cons.mp nd
  rw [aM]
  have e:qZ (q::r) q.1=q.2:=by unfold qZ;rw [if_pos rfl]
  rw [e]
  refine congrArg (q :: ·) ?_
  conv=>rhs;rw [<- QV r h2]
  refine dM λy hy=>?_
  have hne:¬q.1=y:=λz=>h1 (z ▸ hy)
  show (y,qZ (q::r) y)=_
  conv=>lhs;unfold qZ
  rw [if_neg hne]
noncomputable def vE (C CN:Addr):Sp:=λvs H Q E=>∃(p:Addr) (g:IceG) (l:Int),vs=[.ref p,.int l]/\IceAt C H p g/\g.lds.length=g.slopes.length/\(l<0\/(g.slopes.length:Int)<=l->E (.ref CN) none H) /\
 (0<=l->l<(g.slopes.length:Int)->∃(a:Addr) (ns:List (Int×Int)),g.lds[l.toNat]? = some (a,ns.map kvI)/\(ns.map (·.1)).Nodup/\ns.length<64 /\
  ∀o H' out (ms:List (Int×Int)),H o=none->H' o=some (.lst out)->d0 (λv (m:Int×Int)=>∃b,v=V.ref b/\H' b=some (.tup [.int m.1,.int m.2])) out ms->jj H H'->ms.Perm ns->(ms.map (·.1)).Pairwise (· <= ·)->Q (.ref o) H')
theorem kH:FnScope ["self","lane"] ["self","lane"] (j8 xT):=by walk_at "s"
theorem kJ (nb:Nb2 mg) (T:IceC K C) (cl_Ice:Cls K C) (c_Ice__check_lane:CalMX P w K mg base 1 C "check_lane" ["self","lane"] (zj C CN)) (F:Fun K "surges" "Ice.surges" xT f fd):FnOk P w K mg base (CX1 P w) 2 f fd ["self","lane"] (vE C CN):=by
 refine Fun.okX F kH (λvs H Q E h=>?_) (λcdv A outer s H vs Q E hr h=>?_)
 ·obtain ⟨p,g,l,rfl,_⟩:=h
  rfl
 ·obtain ⟨p,g,l,rfl,I,hll,kx,k⟩:=h
  refine ⟨_,(j4 (jP (yk (pv 0) cl_Ice c_Ice__check_lane (hr.mono ⋯) qL (j0 (pv 1) j2)))
   (j9 (jk (qa (osc:=(j8 xT)) (ON:=["self","lane"]) (N:=["year","lane","self"]) (own:=1) (caps:=[1,0]) ⟨rfl,∅,∅,∅,rfl,∅⟩ rfl rfl rfl (qc K (jc (Qd K rfl) rfl nb.b_sorted sj (j0 (js (jd K) (xq K (pv 0)) (pv 1) (λ_ _=>rfl)) j2))) (λ_ _ _ _ _=>(ja (i:=0) (show bu (["year","lane","self"]:List Str) by decide +kernel) rfl (aQ rfl))) (λ_ _ _ _ _=>jN) (λ_ _ _ _ _=>(jI (j0 (pv 0) (j0 (jH (jO hr) (js (jd K) (xq K (pv 2)) (pv 1) (λ_ _=>rfl)) (pv 0) (λ_ _=>rfl)) j2)))))))),?_⟩
  left
  refine ⟨p,g.dx,_,rfl,I.ob,qS ∅,?_⟩
  left
  refine ⟨p,g,l,rfl,I,λl0 l1=>?_,λhb=>kx hb⟩
  obtain ⟨a,ns,ha,nd,h64,k⟩:=k l0 l1
  have hi:=(List.getElem?_eq_some_iff.mp ha).1
  have hm:=I.lds _ (az ha)
  have hat:atI (g.lds.map λx=>V.ref x.1) l=some (.ref a):=qQ l0 (by rw [aA,ha];rfl)
  left
  refine ⟨p,C,g.dx,_,_,rfl,I.ob,T.cl,T.nL,vZ _ _ _ _ _,?_⟩
  left
  refine ⟨_,_,_,_,rfl,rfl,SqL.of I.le,hat,?_⟩
  refine ⟨a,ns.map kvI,ns.map (·.1),rfl,hm,by rw [bZ,bZ];rfl,by rw [ah];exact h64,λo H1 ks ho ho1 s1 hp hs=>?_⟩
  have hkl:ks.length<64:=by rw [hp.length_eq,ah];exact h64
  refine ⟨o,rfl,⟨_,SqL.of ho1⟩,λacc hacc=>?_⟩
  refine qz (K:=K) (a:=o) (xs:=ks.map V.int) (acc:=acc) (λi σ H2=>∃(x:Option V) (out:List V),σ=[x,some (.int l),some (.ref p)]/\H2 acc=some (.lst out)/\out.length=i/\d0 (λv (m:Int×Int)=>∃b,v=V.ref b/\H2 b=some (.tup [.int m.1,.int m.2])) out ((ks.take i).map λy=>(y,qZ ns y))/\Ext acc H1 H2) ?_ ?_ ?_ ?_
  ·exact ⟨none,[],rfl,j6,rfl,.nil,Ext.put⟩
  ·rintro i σ H2 hi ⟨x,out,rfl,h2,hz,r2,e2⟩
   exact SqL.of (e2 _ _ ho1 (j1 ho1 hacc))
  ·rintro i v σ H2 hv ⟨x,out,rfl,h2,hz,r2,e2⟩
   obtain ⟨y,rfl,hy⟩:=yA hv
   have hiy:=(List.getElem?_eq_some_iff.mp hy).1
   have hyn:y∈ns.map (·.1):=hp.mem_iff.mp (az hy)
   have t2:jj H H2:=λc o hc=>e2 _ _ (s1 _ _ hc) (j1 (s1 _ _ hc) hacc)
   have I2:=I.same t2
   left
   refine ⟨p,C,g.dx,_,_,rfl,I2.ob,T.cl,T.nL,vZ _ _ _ _ _,?_⟩
   left
   refine ⟨_,_,_,_,rfl,rfl,SqL.of I2.le,hat,?_⟩
   left
   refine ⟨a,.int (qZ ns y),rfl,by rw [<- vG ns y hyn];exact qR.k (k:=.inl y) (t2 _ _ hm),?_⟩
   left
   refine ⟨by show 2<=sizeLine;decide,λb H3 hb hb3 s3=>?_⟩
   have h3:=s3 _ _ h2
   have bacc:b≠acc:=(j1 h2 hb).symm
   refine ⟨out,h3,jh (),some (.int y),out++[.ref b],rfl,j6,by rw [aq,hz];rfl,?_,λc o hc n=>by rw [j7 n];exact s3 _ _ (e2 c o hc n)⟩
   rw [qI (λy=>(y,qZ ns y)) ks i y hy]
   exact d5 (Paired.mapP r2 λv m ⟨c,e,q⟩=>⟨c,e,by rw [j7 (jn (s3 _ _ q) h3 (by walk_at "z"))];exact s3 _ _ q⟩) ⟨b,rfl,by rw [j7 bacc];exact hb3⟩
  ·rintro σ H2 ⟨x,out,rfl,h2,hz,r2,e2⟩
   rw [ah,aY] at r2
   have t2:jj H H2:=λc o hc=>e2 _ _ (s1 _ _ hc) (j1 (s1 _ _ hc) hacc)
   refine k acc H2 out _ (s1.free hacc) h2 r2 t2 ?_ ?_
   ·have:=hp.map λy=>(y,qZ ns y)
    rw [QV ns nd] at this
    exact this
   ·rw [bZ]
    have:((λx:Int×Int=>x.1) ∘ λy=>(y,qZ ns y))=id:=rfl
    rw [this,nK]
    exact hs
noncomputable def jq (st ad:Int):List (Int×Int)->Int->Int
 | [],goal=>if goal-ad > st then goal-ad else st
 | q::r,goal=>if goal-ad<q.1 then (if goal-ad > st then goal-ad else st) else jq q.1 (ad+q.2) r goal
noncomputable def gU (H:Hp) (out:List V) (ms:List (Int×Int)):Prop:=d0 (λv (m:Int×Int)=>∃b,v=V.ref b/\H b=some (.tup [.int m.1,.int m.2])) out ms
theorem gU.same {out:List V}(h:gU H out ms) (s:jj H H'):gU H' out ms:=Paired.mapP h λ_ _ ⟨b,e,q⟩=>⟨b,e,s _ _ q⟩
noncomputable def gG:Sp:=λvs H Q _=>∃(p:Addr) (out:List V) (ms:List (Int×Int)) (goal:Int),vs=[.ref p,.int goal]/\H p=some (.lst out)/\gU H out ms/\∀H',jj H H'->Q (.int (jq 0 0 ms goal)) H'
theorem qW:FnScope ["surges","goal","start","added","year","many"] ["surges","goal"] (j8 ug):=by walk_at "s"
theorem XA (nb:Nb2 mg) (F:Fun K "earliest" "earliest" ug f fd):FnOk P w K mg base CX0 1 f fd ["surges","goal"] gG:=by
 refine F.ok qW (λvs H Q E h=>?_) (λcdv A outer s H vs Q E hr h=>?_)
 ·obtain ⟨p,out,ms,goal,rfl,_⟩:=h
  rfl
 ·obtain ⟨p,out,ms,goal,rfl,hp,hr2,k⟩:=h
  have hlen:out.length=ms.length:=aT hr2
  refine ⟨_,(j4 (jr 2 qW.nd j5)
   (j4 (jr 3 qW.nd j5)
   (j4 (qw aX rfl (qc K (pv 0)) (qj (n:=2) K rfl (jm (ja (i:=4) qW.nd rfl (aQ rfl)) (jm (ja (i:=5) qW.nd rfl (aQ rfl)) qh))) (j4 (jS (jA yQ (jo qx (pv 1) (pv 3)) (pv 4) (jD _)) (j9 Uw) jx)
   (j4 (jr 2 qW.nd (pv 4))
   (j9 (Qi (i:=3) qW.nd rfl (aQ rfl) (pv 5) Z2)))))
   (j9 (jk (jc (zx rfl) rfl nb.b_max nW (j0 (pv 2) (j0 (jo qx (pv 1) (pv 3)) j2)))))))),?_⟩
  left
  refine ⟨⟨_,SqL.of hp⟩,?_⟩
  refine zD (K:=K) (a:=p) (xs:=out) (λi σ H2=>∃(st ad:Int) (v4 v5:Option V),σ=[some (.ref p),some (.int goal),some (.int st),some (.int ad),v4,v5]/\jj H H2/\jq st ad (ms.drop i) goal=jq 0 0 ms goal) ?_ ?_ ?_ ?_
  ·exact ⟨0,0,_,_,rfl,jj.refl _,by rw [lA]⟩
  ·rintro i σ H2 hi ⟨st,ad,v4,v5,rfl,s2,e2⟩
   exact SqL.of (s2 _ _ hp)
  ·rintro i v σ H2 hv ⟨st,ad,v4,v5,rfl,s2,e2⟩
   obtain ⟨m,hm,b,rfl,hb⟩:=Paired.get hr2 hv
   have hi:=(List.getElem?_eq_some_iff.mp hm).1
   have ed:ms.drop i=m::ms.drop (i+1):=by
    rw [cW hi]
    have:=(List.getElem?_eq_some_iff.mp hm).2
    rw [this]
   rw [ed] at e2
   left
   refine ⟨b,_,rfl,SqT.of (s2 _ _ hb),rfl,?_⟩
   refine ⟨_,_,rfl,_,_,rfl,rfl,?_⟩
   left
   refine qr (λh1=>?_) (λh1=>?_)
   ·left
    refine ⟨_,_,rfl,?_⟩
    rw [show jq st ad (m::ms.drop (i+1)) goal=if goal-ad > st then goal-ad else st from by conv=>lhs;unfold jq;rw [if_pos h1]] at e2
    have k2:=k H2 s2
    rw [<- e2] at k2
    exact k2
   ·left
    refine ⟨_,_,_,_,rfl,s2,?_⟩
    rw [<- e2]
    conv=>rhs;unfold jq;rw [if_neg h1]
  ·rintro σ H2 ⟨st,ad,v4,v5,rfl,s2,e2⟩
   rw [hlen,List.drop_length] at e2
   left
   refine ⟨_,_,rfl,?_⟩
   have k2:=k H2 s2
   rw [<- e2] at k2
   exact k2
noncomputable def Ul (C CN:Addr):Sp:=λvs H Q E=>∃(p:Addr) (g:IceG) (l mark:Int),vs=[.ref p,.int l,.int mark]/\IceAt C H p g/\g.lds.length=g.slopes.length/\(∀H',jj H H'->l<0\/(g.slopes.length:Int)<=l->E (.ref CN) none H') /\
 (0<=l->l<(g.slopes.length:Int)->∃(a:Addr) (ns:List (Int×Int)),g.lds[l.toNat]? = some (a,ns.map kvI)/\(ns.map (·.1)).Nodup/\ns.length<64 /\
  ∀ms:List (Int×Int),ms.Perm ns->(ms.map (·.1)).Pairwise (· <= ·)->∀fst gon:Int,fst=jq 0 0 ms mark->gon=jq 0 0 ms (mark+((g.slopes.getD l.toNat []).length:Int)) ->
   (fst<gon->∀t H',jj H H'->H' t=some (.tup [.int fst,.int (gon-1)])->Q (.ref t) H')/\(¬fst<gon->∀H',jj H H'->Q .non H'))
theorem ku:FnScope ["ice","lane","mark","surges","first","gone"] ["ice","lane","mark"] (j8 ZJ):=by walk_at "s"
theorem Wz (cl_Ice:Cls K C) (c_Ice__surges:CalMX P w K mg base 2 C "surges" ["self","lane"] (vE C CN)) (c_Ice__length:CalMX P w K mg base 2 C "length" ["self","lane"] (JS C CN)) (c_earliest:Cal P w K mg base 1 "earliest" ["surges","goal"] gG) (F:Fun K "span" "span" ZJ f fd):FnOk P w K mg base (CX1 P w) 3 f fd ["ice","lane","mark"] (Ul C CN):=by
 refine Fun.okX F ku (λvs H Q E h=>?_) (λcdv A outer s H vs Q E hr h=>?_)
 ·obtain ⟨p,g,l,mark,rfl,_⟩:=h
  rfl
 ·obtain ⟨p,g,l,mark,rfl,I,hll,kx,k⟩:=h
  refine ⟨_,(j4 (jr 3 ku.nd (yk (pv 0) cl_Ice c_Ice__surges (hr.mono ⋯) qL (j0 (pv 1) j2)))
   (j4 (jr 4 ku.nd (je c_earliest (hr.mono ⋯) rfl (j0 (pv 3) (j0 (pv 2) j2))))
   (j4 (jr 5 ku.nd (je c_earliest (hr.mono ⋯) rfl (j0 (pv 3) (j0 (jo jT (pv 2) (yk (pv 0) cl_Ice c_Ice__length (hr.mono ⋯) qL (j0 (pv 1) j2))) j2))))
   (j9 (jk (UE (jA yQ (pv 4) (pv 5) (jD _)) (jI (j0 (pv 4) (j0 (jo qx (pv 5) j5) j2))) ul)))))),?_⟩
  left
  refine ⟨p,g.dx,_,rfl,I.ob,qS ∅,?_⟩
  left
  refine ⟨p,g,l,rfl,I,hll,λhb=>kx H (jj.refl H) hb,λl0 l1=>?_⟩
  obtain ⟨a,ns,ha,nd,h64,k⟩:=k l0 l1
  refine ⟨a,ns,ha,nd,h64,λo H1 out ms ho ho1 hq s1 hp hs=>?_⟩
  have k:=k ms hp hs _ _ rfl rfl
  left
  refine ⟨o,out,ms,mark,rfl,ho1,hq,λH2 s2=>?_⟩
  left
  have t2:=s1.trans s2
  refine ⟨p,g.dx,_,rfl,t2 _ _ I.ob,qS ∅,?_⟩
  left
  refine ⟨p,g,l,rfl,I.same t2,λ_ _=>?_,λhb=>absurd hb ()⟩
  left
  refine ⟨o,out,ms,_,rfl,s2 _ _ ho1,gU.same hq s2,λH3 s3=>?_⟩
  have t3:=t2.trans s3
  left
  refine qr (λh1=>?_) (λh1=>?_)
  ·left
   refine ⟨by show 2<=sizeLine;decide,λt H4 ht ht4 s4=>?_⟩
   exact k.1 h1 t H4 (t3.trans s4) ht4
  ·left
   exact k.2 h1 H3 t3
noncomputable def UL:Sp:=λvs H Q _=>∃(L b:Addr),vs=[.ref b]/\jU L H b/\∀(y:Int) (H':Hp),0<=y->y<=99->jU L H' b->Ext b H H'->Q (.int y) H'
theorem XV:FnScope ["_law_box_here"] ["_law_box_here"] (j8 ub):=by walk_at "s"
theorem Wr {v a b c:Int}(h0:0<=v) (h1:v<5) (ha:0<=a/\a<=99) (hb:0<=b/\b<=99) (hc:0<=c/\c<=99):∃n,atI [V.int a,V.int b,V.int c,V.int 99,V.int 0] v=some (V.int n)/\0<=n/\n<=99:=by
 have h:v=0\/v=1\/v=2\/v=3\/v=4:=()
 rcases h with rfl | rfl | rfl | rfl | rfl
 ·exact ⟨a,rfl,ha.1,ha.2⟩
 ·exact ⟨b,rfl,hb.1,hb.2⟩
 ·exact ⟨c,rfl,hc.1,hc.2⟩
 ·exact ⟨99,rfl,⋯,⋯⟩
 ·exact ⟨0,rfl,⋯,⋯⟩
theorem WG (c_law_take:Cal P w K mg base 2 "_law_take" ["_law_box_here","_law_size"] xH) (F:Fun K "_law_year" "_law_year" ub f fd):FnOk P w K mg base CX0 3 f fd ["_law_box_here"] UL:=by
 refine F.ok XV (λvs H Q E h=>?_) (λcdv A outer s H vs Q E hr h=>?_)
 ·obtain ⟨L,b,rfl,_⟩:=h
  rfl
 ·obtain ⟨L,b,rfl,B,k⟩:=h
  refine ⟨_,(j9 (jk (js (jd K) (jC (j0 (je c_law_take (hr.mono ⋯) rfl (j0 (pv 0) (j0 j5 j2))) (j0 (je c_law_take (hr.mono ⋯) rfl (j0 (pv 0) (j0 j5 j2))) (j0 (je c_law_take (hr.mono ⋯) rfl (j0 (pv 0) (j0 j5 j2))) (j0 j5 (j0 j5 j2)))))) (je c_law_take (hr.mono ⋯) rfl (j0 (pv 0) (j0 j5 j2))) (λ_ _=>rfl)))),?_⟩
  left
  refine ⟨L,b,_,rfl,B,⟨⋯,⋯⟩,λv1 H1 p1 q1 B1 X1=>?_⟩
  left
  refine ⟨L,b,_,rfl,B1,⟨⋯,⋯⟩,λv2 H2 p2 q2 B2 X2=>?_⟩
  left
  refine ⟨L,b,_,rfl,B2,⟨⋯,⋯⟩,λv3 H3 p3 q3 B3 X3=>?_⟩
  left
  refine ⟨by show 5<=sizeLine;decide,λl H4 hl hl4 s4=>?_⟩
  left
  refine ⟨L,b,_,rfl,B3.same s4,⟨⋯,⋯⟩,λv5 H5 p5 q5 B5 X5=>?_⟩
  obtain ⟨n,en,n0,n1⟩:=Wr p5 q5 (a:=v1) (b:=v2) (c:=v3) ⟨p1,()⟩ ⟨p2,()⟩ ⟨p3,()⟩
  refine ⟨_,_,_,_,rfl,rfl,SqL.of (X5 _ _ hl4 (B3.ne hl)),en,?_⟩
  exact k n H5 n0 n1 B5 ((((X1.trans X2).trans X3).trans (Ext.of_same s4)).trans X5)
noncomputable def scK (p q sg gl ll:Addr):List (Key×V):=[(.inr "reaches",.ref p),(.inr "rows",.ref q),(.inr "single",.ref sg),(.inr "grounds",.ref gl),(.inr "leaps",.ref ll)]
theorem xo {k:Key}{v:V}{r:List (Key×V)}:jZ ((k,v)::r) k=some v:=by
 unfold jZ
 rw [ib (p:=λkv:Key×V=>decide (kv.1=k)) (a:=(k,v)) (decide_eq_true rfl)]
 rfl
theorem jw {k k':Key}{v:V}{r:List (Key×V)}(h:k'≠k):jZ ((k',v)::r) k=jZ r k:=by
 unfold jZ
 rw [ic (p:=λkv:Key×V=>decide (kv.1=k)) (a:=(k',v)) (λz=>h (of_decide_eq_true z))]
theorem Zg (p q sg gl ll:Addr):jZ (scK p q sg gl ll) (.inr "reaches")=some (.ref p):=xo
theorem QD (p q sg gl ll:Addr):jZ (scK p q sg gl ll) (.inr "rows")=some (.ref q):=(jw (show (br (ak "reaches"):Key)≠br (ak "rows") by decide +kernel)).trans (xo)
theorem yf (p q sg gl ll:Addr):jZ (scK p q sg gl ll) (.inr "single")=some (.ref sg):=(jw (show (br (ak "reaches"):Key)≠br (ak "single") by decide +kernel)).trans ((jw (show (br (ak "rows"):Key)≠br (ak "single") by decide +kernel)).trans (xo))
theorem qU (p q sg gl ll:Addr):jZ (scK p q sg gl ll) (.inr "grounds")=some (.ref gl):=(jw (show (br (ak "reaches"):Key)≠br (ak "grounds") by decide +kernel)).trans ((jw (show (br (ak "rows"):Key)≠br (ak "grounds") by decide +kernel)).trans ((jw (show (br (ak "single"):Key)≠br (ak "grounds") by decide +kernel)).trans (xo)))
theorem gq (p q sg gl ll:Addr):jZ (scK p q sg gl ll) (.inr "leaps")=some (.ref ll):=(jw (show (br (ak "reaches"):Key)≠br (ak "leaps") by decide +kernel)).trans ((jw (show (br (ak "rows"):Key)≠br (ak "leaps") by decide +kernel)).trans ((jw (show (br (ak "single"):Key)≠br (ak "leaps") by decide +kernel)).trans ((jw (show (br (ak "grounds"):Key)≠br (ak "leaps") by decide +kernel)).trans (xo))))
noncomputable def FrM (M:Addr->Prop) (H H':Hp):Prop:=∀c o,H c=some o->H' c=some o\/(M c/\∃ob kvs,o = .dK kvs/\H' c=some (.frz ob (.dK kvs)))
theorem FrM.of_same (s:jj H H'):FrM M H H':=λc o h=>.inl (s c o h)
theorem FrM.trans (a:FrM M H H1) (b:FrM M H1 H2):FrM M H H2:=λc o h=>by
 rcases a c o h with h1 | ⟨m,ob,kvs,e,h1⟩
 ·exact b c o h1
 ·rcases b c _ h1 with h2 | ⟨_,_,_,e2,_⟩
  ·exact .inr ⟨m,ob,kvs,e,h2⟩
  ·cases e2
theorem FrM.at (f:FrM M H H') (h:H c=some o) (n:∀kvs,o≠.dK kvs):H' c=some o:=by
 rcases f c o h with h1 | ⟨_,ob,kvs,e,_⟩
 ·exact h1
 ·exact absurd e (n kvs)
theorem FrM.rd (f:FrM M H H') {kvs:List (Key×V)}(h:Rd H c (.dK kvs)):Rd H' c (.dK kvs):=by
 rcases h with h | ⟨o,h⟩
 ·rcases f c _ h with h1 | ⟨_,ob,kvs',e,h1⟩
  ·exact .inl h1
  ·cases e
   exact .inr ⟨ob,h1⟩
 ·exact .inr ⟨o,f.at h (by walk_at "w")⟩
noncomputable def jg (ns:List (Int×Int)) (y:Int):Int:=((ns.filter λq=>decide (q.1<=y)).map (·.2)).sum
theorem wd:∀{ns:List (Int×Int)},(ns.map (·.1)).Nodup->∀{z:Int×Int},z∈ns->qZ ns z.1=z.2
 | [],_,z,h=>by cases h
 | q::r,nd,z,h=>by
  rw [aM] at nd
  obtain ⟨h1,h2⟩:=List.nodup_cons.mp nd
  unfold qZ
  rcases List.mem_cons.mp h with e | e
  ·rw [e,if_pos rfl]
  ·have ne:¬q.1=z.1:=λw=>h1 (by rw [w];exact bK e)
   rw [if_neg ne]
   exact wd h2 e
theorem Ur {ns:List (Int×Int)}{i:Nat}(h:(ns.map kvI)[i]? = some q):∃z,ns[i]? = some z/\q=kvI z:=by
 rw [aA] at h
 cases e:ns[i]? with
 | none=>rw [e] at h;cases h
 | some z=>rw [e] at h;cases h;exact ⟨z,rfl,rfl⟩
theorem JE {ns:List (Int×Int)}{y:Int}{H:Hp}{R:Hp->Prop}(h:H a=some (.frz o (.dK (ns.map kvI)))) (nd:(ns.map (·.1)).Nodup) (hl:ns.length<=100) (hacc:H acc=none)
  (fin:∀H',H' acc=some (.lst (((ns.filter λq=>decide (q.1<=y)).map (·.2)).map V.int))->jj H H'->R H') :
  ∃W:Nat->Nat->L2.St->Hp->Prop,(∃m,W 0 m [none,some (.ref a),some (.int y)] (upd H acc (.lst [])))/\∀i m σ' H',W i m σ' H' ->
   ((Itd a o (ns.map kvI)).stop i H'/\R H')\/((Itd a o (ns.map kvI)).go i H'/\∃NX:L2.St->Hp->Prop,(∀σ2 H2,NX σ2 H2->∃m',m'<m/\W (i+1) m' σ2 H2) /\
    ∀x H2,(Itd a o (ns.map kvI)).yld i H' x H2->uu 0 x σ' H2 λσ3 H3=>Xg (tOp (rI0 λi j=>V.bl (decide (i<=j))) (Jl 0) (Jl 2)) σ3 H3 λok H4=>if ok=true then GE (Jl 1) (Jl 0) σ3 H4 λv H5=>∃ys,H5 acc=some (.lst ys)/\ys.length<sizeLine/\NX σ3 (upd H5 acc (.lst (ys++[v]))) else NX σ3 H4):=by
 refine VB (a:=a) (acc:=acc) (o:=o) (kvs:=ns.map kvI) (λi σ H'=>∃x:Option V,σ=[x,some (.ref a),some (.int y)]/\H' acc=some (.lst ((((ns.take i).filter λq=>decide (q.1<=y)).map (·.2)).map V.int))/\Ext acc H H') ⟨none,rfl,j6,Ext.put⟩ ?_ ?_ ?_
 ·rintro i σ H' hi ⟨x,rfl,h3,e3⟩
  exact e3 _ _ h (j1 h hacc)
 ·rintro i q σ H' hq ⟨x,rfl,h3,e3⟩
  obtain ⟨z,hz,rfl⟩:=Ur hq
  have hm:=az hz
  have hi:i<ns.length:=(List.getElem?_eq_some_iff.mp hz).1
  have hl2:((((ns.take i).filter λq=>decide (q.1<=y)).map (·.2)).map V.int).length<=100:=by
   rw [ah,ah]
   exact aH (bY _ _) (by rw [aK];right)
  have ha:=e3 _ _ h (j1 h hacc)
  show uu 0 (V.int z.1) _ _ _
  left
  refine qr (λle=>?_) (λle=>?_)
  ·refine ⟨_,rfl,_,rfl,a,V.int z.2,rfl,?_,_,h3,bV hl2 ⋯,_,rfl,?_,e3.trans Ext.put⟩
   ·have:=vG ns z.1 (bK hm)
    rw [wd nd hm] at this
    rw [<- this]
    exact .inl ⟨_,.inl z.1,.inr ⟨o,ha⟩,rfl,rfl⟩
   ·rw [j6,bS,hz,dz,cq,fO (by rw [decide_eq_true le]),aG,aG]
    rfl
  ·refine ⟨_,rfl,?_,e3⟩
   rw [bS,hz,dz,cq,fN (by rw [decide_eq_false le];exact au),sF,aN]
   exact h3
 ·rintro σ H' ⟨x,rfl,h3,e3⟩
  rw [ah,aY] at h3
  exact fin H' h3 λc u hc=>e3 c u hc (j1 hc hacc)
noncomputable def Zq:Sp:=λvs H Q _=>∃(M:Addr->Prop) (sd p q sg gl ll a:Addr) (lds:List Addr) (l y:Int) (ns:List (Int×Int)),vs=[.ref sd,.int l,.int y]/\H sd=some (.dK (scK p q sg gl ll))/\H ll=some (.lst (lds.map V.ref))/\0<=l/\lds[l.toNat]? = some a/\Rd H a (.dK (ns.map kvI))/\M a/\¬M sd/\ns.length<=100/\(ns.map (·.1)).Nodup/\(∀q∈ns,0<=q.2/\q.2<=9) /\
 ∀H',FrM M H H'->Q (.int (y+jg ns y)) H'
theorem wJ:FnScope ["_law_scene_here","_law_lane","_law_year_here","_law_leaps"] ["_law_scene_here","_law_lane","_law_year_here"] (j8 yL):=by walk_at "s"
theorem WI (nb:Nb2 mg) (F:Fun K "_law_ride" "_law_ride" yL f fd):FnOk P w K mg base CX0 1 f fd ["_law_scene_here","_law_lane","_law_year_here"] Zq:=by
 refine F.ok wJ (λvs H Q E h=>?_) (λcdv A outer s H vs Q E hr h=>?_)
 ·obtain ⟨M,sd,p,q,sg,gl,ll,a,lds,l,y,ns,rfl,_⟩:=h
  rfl
 ·obtain ⟨M,sd,p,q,sg,gl,ll,a,lds,l,y,ns,rfl,hsd,hll,l0,ha,hra,hM,nsd,h100,nd,h9,k⟩:=h
  refine ⟨_,(j4 (yI (i:=3) wJ.nd rfl (iM rfl) (js (jd K) (jH (jO hr) (pv 0) jt (λ_ _=>rfl)) (pv 1) (λ_ _=>rfl)))
   (j9 (jk (jo jT (pv 2) (jc (kQ K rfl) rfl nb.b_sum AV (j0 (qa (osc:=(j8 yL)) (ON:=["_law_scene_here","_law_lane","_law_year_here","_law_leaps"]) (N:=["_law_when","_law_leaps","_law_year_here"]) (own:=1) (caps:=[3,2]) ⟨rfl,∅,∅,∅,rfl,∅⟩ rfl rfl rfl (k9 (pv 3)) (λ_ _ _ _ _=>(ja (i:=0) (show bu (["_law_when","_law_leaps","_law_year_here"]:List Str) by decide +kernel) rfl (aQ rfl))) (λ_ _ _ _ _=>(vp (jA qq (pv 0) (pv 2) (jD _)))) (λ_ _ _ _ _=>(jH (jO hr) (pv 1) (pv 0) (λ_ _=>rfl)))) j2)))))),?_⟩
  left
  refine ⟨sd,.ref ll,rfl,by rw [<- gq p q sg gl ll];exact qR.k (k:=.inr "leaps") hsd,?_⟩
  left
  refine ⟨_,_,_,_,rfl,rfl,SqL.of hll,qQ l0 (v:=V.ref a) (by rw [aA,ha];rfl),?_⟩
  left
  have fin:∀(H1:Hp),FrM M H H1->∀acc H2,H2 acc=some (.lst (((ns.filter λq=>decide (q.1<=y)).map (·.2)).map V.int))->jj H1 H2->Vg [some (.ref sd),some (.int l),some (.int y),some (.ref a)] H2 λxs H3=>(∃(p:Addr) (ms:List Int),V.ref acc::xs=[V.ref p]/\SqL K H3 p (ms.map V.int)/\ms.length<=1000/\(∀n∈ms,0<=n/\n<=2 ^ 20)/\rI0 (λi j=>V.int (i+j)) (V.int y) (V.int ms.sum) H3 Q):=λH1 f1 acc H2 h2 s2=>by
   refine ⟨acc,_,rfl,SqL.of h2,?_,λn hn=>?_,?_⟩
   ·rw [ah]
    exact aH (bY _ _) ()
   ·obtain ⟨z,hz,rfl⟩:=List.mem_map.mp hn
    have:=h9 z (List.mem_filter.mp hz).1
    exact ⟨this.1,pZ this.2 ⋯⟩
   ·exact ⟨_,_,rfl,rfl,k H2 (f1.trans (FrM.of_same s2))⟩
  rcases hra with h | ⟨o,h⟩
  ·refine ⟨a,_,rfl,.inl ⟨h,λo acc hacc=>?_⟩⟩
   have f1:FrM M H (upd H a (.frz o (.dK (ns.map kvI)))):=λc u hc=>by
    by_cases e:c=a
    ·subst e
     rw [h] at hc
     cases hc
     exact .inr ⟨hM,o,_,rfl,j6⟩
    ·exact .inl (by rw [j7 e];exact hc)
   exact JE (a:=a) (o:=o) j6 nd h100 hacc λH2 h2 s2=>fin _ f1 acc H2 h2 s2
  ·refine ⟨a,_,rfl,.inr ⟨o,h,λacc hacc=>?_⟩⟩
   exact JE (a:=a) (o:=o) h nd h100 hacc λH2 h2 s2=>fin _ (FrM.of_same (jj.refl H)) acc H2 h2 s2
theorem YN (y:Int):jg [] y=0:=rfl
theorem qe (q:Int×Int) (r:List (Int×Int)) (y:Int):jg (q::r) y=(if q.1<=y then q.2 else 0)+jg r y:=by
 unfold jg
 rw [List.filter_cons]
 by_cases h:q.1<=y
 ·rw [decide_eq_true h,if_pos rfl,if_pos h,aM,oE]
 ·rw [decide_eq_false h,if_neg au,if_neg h,eE]
theorem yy {ms:List (Int×Int)}(p:ms.Perm ns) (y:Int):jg ms y=jg ns y:=by
 induction p with
 | nil=>rfl
 | cons q _ ih=>rw [qe,qe,ih]
 | swap a b r=>rw [qe,qe,qe,qe];right
 | trans _ _ a b=>rw [a,b]
theorem Q9 {ns:List (Int×Int)}(h:∀q∈ns,0<=q.2) (y:Int):0<=jg ns y:=by
 induction ns with
 | nil=>exact iJ _
 | cons q r ih =>
  rw [qe]
  have:=h q (aB ..)
  have:=ih λz hz=>h z (aF _ hz)
  by_cases e:q.1<=y
  ·rw [if_pos e];right
  ·rw [if_neg e];right
theorem XY {ns:List (Int×Int)}{y:Int}(h:∀q∈ns,y<q.1):jg ns y=0:=by
 induction ns with
 | nil=>rfl
 | cons q r ih =>
  have a:=h q (aB ..)
  rw [qe,if_neg (),ih λz hz=>h z (aF _ hz)]
  rfl
theorem gS:∀(ms:List (Int×Int)) (st ad goal:Int),(∀q∈ms,st<=q.1)->(ms.map (·.1)).Pairwise (· <= ·)->st<=jq st ad ms goal
 | [],st,ad,goal,_,_=>by unfold jq;split <;> right
 | q::r,st,ad,goal,h,p=>by
  unfold jq
  have a:=h q (aB ..)
  rw [aM,fH] at p
  by_cases e:goal-ad<q.1
  ·rw [if_pos e];split <;> right
  ·rw [if_neg e]
   have:=gS r q.1 (ad+q.2) goal (λz hz=>p.1 _ (bK hz)) p.2
   right
theorem JY:∀(ms:List (Int×Int)) (st ad goal y:Int),(∀q∈ms,st<=q.1/\0<=q.2)->(ms.map (·.1)).Pairwise (· < ·)->st<=y->(goal<=y+ad+jg ms y↔jq st ad ms goal<=y)
 | [],st,ad,goal,y,_,_,hy=>by rw [YN];unfold jq;split <;> right
 | q::r,st,ad,goal,y,h,p,hy=>by
  have a:=h q (aB ..)
  have hr:∀z∈r,0<=z.2:=λz hz=>(h z (aF _ hz)).2
  rw [aM,fH] at p
  have gt:∀z∈r,q.1<z.1:=λz hz=>p.1 _ (bK hz)
  have sn:=Q9 hr y
  rw [qe]
  unfold jq
  by_cases hq:q.1<=y
  ·rw [if_pos hq]
   by_cases e:goal-ad<q.1
   ·rw [if_pos e];split <;> right
   ·rw [if_neg e]
    have ih:=JY r q.1 (ad+q.2) goal y (λz hz=>⟨r9 (gt z hz),hr z hz⟩) p.2 hq
    constructor
    ·intro z;exact ih.mp ()
    ·intro z;have:=ih.mpr z;right
  ·rw [if_neg hq,XY λz hz=>by have:=gt z hz;right]
   by_cases e:goal-ad<q.1
   ·rw [if_pos e];split <;> right
   ·rw [if_neg e]
    have g:=gS r q.1 (ad+q.2) goal (λz hz=>r9 (gt z hz)) (p.2.imp λh=>r9 h)
    right
theorem xA:∀{l:List Int},l.Pairwise (· <= ·)->l.Nodup->l.Pairwise (· < ·)
 | [],_,_=>.nil
 | x::r,p,n=>by
  rw [fH] at p ⊢
  obtain ⟨n1,n2⟩:=List.nodup_cons.mp n
  refine ⟨λy hy=>?_,xA p.2 n2⟩
  have:=p.1 y hy
  have:x≠y:=λe=>n1 (e ▸ hy)
  right
noncomputable def uG (CY:Addr):Sp:=λvs H Q E=>∃y:Int,vs=[.int y]/\(0<=y->y<=10 ^ 40->Q .non H)/\(y<0\/10 ^ 40<y->E (.ref CY) none H)
theorem gY:FnScope ["year"] ["year"] (j8 yc):=by walk_at "s"
theorem J6 (g_LAST_ASKED:mg "LAST_ASKED" = some (.int 10000000000000000000000000000000000000000 u0)) (e_BadYear:mg "BadYear" = some (.ref CY)) (x_BadYear:di K CY [.type "ValueError",.type "Exception",.type "BaseException",.type "object"] "ValueError.__new__" = true) (F:Fun K "check_asked" "check_asked" yc f fd):FnOk P w K mg base (CX1 P w) 1 f fd ["year"] (uG CY):=by
 refine Fun.okX F gY (λvs H Q E h=>?_) (λcdv A outer s H vs Q E hr h=>?_)
 ·obtain ⟨y,rfl,_⟩:=h
  rfl
 ·obtain ⟨y,rfl,k,kx⟩:=h
  refine ⟨_,(j9 (jS (x4 (qY qq qq j5 (pv 0) (qH (v:=V.int 10000000000000000000000000000000000000000) rfl g_LAST_ASKED ⟨_,rfl⟩))) (j9 (xI bH x_BadYear e_BadYear rfl zq rfl (j0 jt j2))) jx)),?_⟩
  left
  refine qr (λh0=>?_) (λh0=>?_)
  ·left
   refine zo (λh1=>?_) (λh1=>?_)
   ·left
    exact ⟨by show 1<=sizeLine;decide,kx (.inr ())⟩
   ·left
    exact k h0 h1
  ·left
   refine ve ?_
   left
   exact ⟨by show 1<=sizeLine;decide,kx (.inl ())⟩
noncomputable def Jd:Sp:=λvs H Q _=>∃(p:Addr) (out:List V) (ms:List (Int×Int)) (y:Int),vs=[.ref p,.int y]/\H p=some (.lst out)/\gU H out ms/\ms.length<=100/\(∀q∈ms,0<=q.2/\q.2<=9)/\∀H',jj H H'->Q (.int (y+jg ms y)) H'
theorem Zw:FnScope ["surges","year"] ["surges","year"] (j8 vB):=by walk_at "s"
theorem Zm (nb:Nb2 mg) (F:Fun K "ride_by" "ride_by" vB f fd):FnOk P w K mg base CX0 1 f fd ["surges","year"] Jd:=by
 refine F.ok Zw (λvs H Q E h=>?_) (λcdv A outer s H vs Q E hr h=>?_)
 ·obtain ⟨p,out,ms,y,rfl,_⟩:=h
  rfl
 ·obtain ⟨p,out,ms,y,rfl,hp,hq,h100,h9,k⟩:=h
  have hlen:out.length=ms.length:=aT hq
  refine ⟨_,(j9 (jk (jo jT (pv 1) (jc (kQ K rfl) rfl nb.b_sum AV (j0 (qa (osc:=(j8 vB)) (ON:=["surges","year"]) (N:=["when","many","year"]) (own:=2) (caps:=[1]) ⟨rfl,∅,∅,∅,rfl,∅⟩ rfl rfl rfl (qc K (pv 0)) (λ_ _ _ _ _=>(qj (n:=2) K rfl (jm (ja (i:=0) (show bu (["when","many","year"]:List Str) by decide +kernel) rfl (aQ rfl)) (jm (ja (i:=1) (show bu (["when","many","year"]:List Str) by decide +kernel) rfl (aQ rfl)) qh)))) (λ_ _ _ _ _=>(vp (jA qq (pv 0) (pv 2) (jD _)))) (λ_ _ _ _ _=>(pv 1))) j2))))),?_⟩
  left
  refine ⟨⟨_,SqL.of hp⟩,λacc hacc=>?_⟩
  refine qz (K:=K) (a:=p) (xs:=out) (acc:=acc) (λi σ H2=>∃x x2:Option V,σ=[x,x2,some (.int y)]/\H2 acc=some (.lst ((((ms.take i).filter λq=>decide (q.1<=y)).map (·.2)).map V.int))/\Ext acc H H2) ?_ ?_ ?_ ?_
  ·exact ⟨none,none,rfl,j6,Ext.put⟩
  ·rintro i σ H2 hi ⟨x,x2,rfl,h2,e2⟩
   exact SqL.of (e2 _ _ hp (j1 hp hacc))
  ·rintro i v σ H2 hv ⟨x,x2,rfl,h2,e2⟩
   obtain ⟨m,hm,b,rfl,hb⟩:=Paired.get hq hv
   have hi:=(List.getElem?_eq_some_iff.mp hm).1
   have hl2:((((ms.take i).filter λq=>decide (q.1<=y)).map (·.2)).map V.int).length<=100:=by
    rw [ah,ah]
    exact aH (bY _ _) (by rw [aK];right)
   left
   refine ⟨b,_,rfl,SqT.of (e2 _ _ hb (j1 hb hacc)),rfl,?_⟩
   refine ⟨_,_,rfl,_,_,rfl,rfl,?_⟩
   left
   refine qr (λle=>?_) (λle=>?_)
   ·left
    refine ⟨_,h2,bV hl2 ⋯,_,_,rfl,?_,e2.trans Ext.put⟩
    rw [j6,bS,hm,dz,cq,fO (by rw [decide_eq_true le]),aG,aG]
    rfl
   ·refine ⟨_,_,rfl,?_,e2⟩
    rw [bS,hm,dz,cq,fN (by rw [decide_eq_false le];exact au),sF,aN]
    exact h2
  ·rintro σ H2 ⟨x,x2,rfl,h2,e2⟩
   rw [hlen,aY] at h2
   left
   refine ⟨acc,_,rfl,SqL.of h2,?_,λn hn=>?_,?_⟩
   ·rw [ah]
    exact aH (bY _ _) ()
   ·obtain ⟨z,hz,rfl⟩:=List.mem_map.mp hn
    have:=h9 z (List.mem_filter.mp hz).1
    exact ⟨this.1,pZ this.2 ⋯⟩
   ·exact ⟨_,_,rfl,rfl,k H2 λc o hc=>e2 c o hc (j1 hc hacc)⟩
noncomputable def V1 (g:IceG) (l:Int) (ns:List (Int×Int)):Prop:=0<=l/\l<(g.slopes.length:Int)/\(∃a,g.lds[l.toNat]? = some (a,ns.map kvI))/\(ns.map (·.1)).Nodup/\ns.length<64/\∀q∈ns,0<=q.2/\q.2<=9
noncomputable def XQ (C CN CY:Addr):Sp:=λvs H Q E=>∃(p:Addr) (g:IceG) (l y:Int),vs=[.ref p,.int l,.int y]/\IceAt C H p g/\g.lds.length=g.slopes.length/\(l<0\/(g.slopes.length:Int)<=l->E (.ref CN) none H) /\
 (0<=l->l<(g.slopes.length:Int)->∃ns,V1 g l ns/\(∀H',jj H H'->y<0\/10 ^ 40<y->E (.ref CY) none H')/\∀H',jj H H'->0<=y->y<=10 ^ 40->Q (.int (y+jg ns y)) H')
theorem JZ:FnScope ["ice","lane","year","surges"] ["ice","lane","year"] (j8 gL):=by walk_at "s"
theorem YA (cl_Ice:Cls K C) (c_Ice__surges:CalMX P w K mg base 2 C "surges" ["self","lane"] (vE C CN)) (c_check_asked:CalX P w K mg base 1 "check_asked" ["year"] (uG CY)) (c_ride_by:Cal P w K mg base 1 "ride_by" ["surges","year"] Jd) (F:Fun K "ridden" "ridden" gL f fd):FnOk P w K mg base (CX1 P w) 3 f fd ["ice","lane","year"] (XQ C CN CY):=by
 refine Fun.okX F JZ (λvs H Q E h=>?_) (λcdv A outer s H vs Q E hr h=>?_)
 ·obtain ⟨p,g,l,y,rfl,_⟩:=h
  rfl
 ·obtain ⟨p,g,l,y,rfl,I,hll,kx,k⟩:=h
  refine ⟨_,(j4 (jr 3 JZ.nd (yk (pv 0) cl_Ice c_Ice__surges (hr.mono ⋯) qL (j0 (pv 1) j2)))
   (j4 (jP (xY c_check_asked (hr.mono ⋯) qL rfl (j0 (pv 2) j2)))
   (j9 (jk (je c_ride_by (hr.mono ⋯) rfl (j0 (pv 3) (j0 (pv 2) j2))))))),?_⟩
  left
  refine ⟨p,g.dx,_,rfl,I.ob,qS ∅,?_⟩
  left
  refine ⟨p,g,l,rfl,I,hll,λhb=>kx hb,λl0 l1=>?_⟩
  obtain ⟨ns,⟨_,_,⟨a,ha⟩,nd,h64,h9⟩,ky,k⟩:=k l0 l1
  refine ⟨a,ns,ha,nd,h64,λo H1 out ms ho ho1 hq s1 hp hs=>?_⟩
  left
  refine ⟨λy0 y1=>?_,λhb=>ky H1 s1 hb⟩
  left
  refine ⟨o,out,ms,y,rfl,ho1,hq,(by rw [hp.length_eq];right),λq hq'=>h9 q (hp.mem_iff.mp hq'),λH2 s2=>?_⟩
  rw [yy hp]
  exact k H2 (s1.trans s2) y0 y1
noncomputable def kvA (z:Int×Addr):Key×V:=(.inl z.1,.ref z.2)
noncomputable def xR {α:Type}(l:List (Int×α)) (y:Int) (a:α):List (Int×α):=if (l.any λz=>decide (z.1=y))=true then l.map (λz=>if z.1=y then (z.1,a) else z) else l++[(y,a)]
theorem gz {α:Type}(f:α->V) (l:List (Int×α)) (y:Int) (a:α):qC (l.map λz=>((.inl z.1,f z.2):Key×V)) (.inl y) (f a)=(xR l y a).map λz=>((.inl z.1,f z.2):Key×V):=by
 have e:∀z:Int,decide ((dY z:Key)=dY y)=decide (z=y):=λz=>decide_eq_decide.mpr ⟨λh=>dW h,λh=>by rw [h]⟩
 have e1:((l.map λz=>((.inl z.1,f z.2):Key×V)).any λkv=>decide (kv.1=(dY y:Key)))=l.any λz=>decide (z.1=y):=by
  rw [List.any_map]
  congr 1
  funext z
  exact e z.1
 unfold qC xR
 rw [e1]
 by_cases h:(l.any λz=>decide (z.1=y))=true
 ·rw [if_pos h,if_pos h,bZ,bZ]
  refine dM λz _=>?_
  show (if (dY z.1:Key)=dY y then _ else _)=_
  by_cases hz:z.1=y
  ·rw [if_pos (by rw [hz])]
   show _=(λz:Int×α=>((.inl z.1,f z.2):Key×V)) (if z.1=y then (z.1,a) else z)
   rw [if_pos hz]
  ·rw [if_neg (λw=>hz (dW w))]
   show _=(λz:Int×α=>((.inl z.1,f z.2):Key×V)) (if z.1=y then (z.1,a) else z)
   rw [if_neg hz]
 ·rw [if_neg h,if_neg h,aG]
  rfl
theorem kD {α:Type}{l:List (Int×α)}{y:Int}{a:α}{z:Int×α}(h:z∈xR l y a):z∈l\/z=(y,a):=by
 unfold xR at h
 by_cases c:(l.any λz=>decide (z.1=y))=true
 ·rw [if_pos c] at h
  obtain ⟨u,hu,e⟩:=List.mem_map.mp h
  by_cases q:u.1=y
  ·rw [if_pos q,q] at e
   exact .inr e.symm
  ·rw [if_neg q] at e
   exact .inl (e ▸ hu)
 ·rw [if_neg c] at h
  rcases List.mem_append.mp h with q | q
  ·exact .inl q
  ·exact .inr (by simpa using q)
theorem ux {α:Type}(l:List (Int×α)) (y:Int) (a:α):(xR l y a).length<=l.length+1:=by
 unfold xR
 split
 ·rw [ah];right
 ·rw [aq];exact ar _
theorem gm {α:Type}{l:List (Int×α)}{y:Int}{a:α}(h:(l.map (·.1)).Nodup):((xR l y a).map (·.1)).Nodup:=by
 unfold xR
 by_cases c:(l.any λz=>decide (z.1=y))=true
 ·rw [if_pos c,bZ]
  have:(l.map ((λx=>x.1) ∘ λz=>if z.1=y then (z.1,a) else z))=l.map (·.1):=dM λz _=>by
   show (if z.1=y then (z.1,a) else z).1=z.1
   split <;> rfl
  rw [this]
  exact h
 ·rw [if_neg c,aG]
  refine ki h λz=>c ?_
  obtain ⟨u,hu,e⟩:=List.mem_map.mp z
  exact List.any_eq_true.mpr ⟨u,hu,decide_eq_true e⟩
structure ScN where
 p:Addr
 q:Addr
 sg:Addr
 gl:Addr
 ll:Addr
 xs:List V
 ys:List V
 zs:List V
 rs:List Rch
 ts:List T3
 ws:List (List Int)
 sk:List (Int×Addr)
 lds:List (Addr×List (Int×Int))
structure ScAt (H:Hp) (sd:Addr) (c:ScN):Prop where
 sd:H sd=some (.dK (scK c.p c.q c.sg c.gl c.ll))
 p:H c.p=some (.lst c.xs)
 rv:qd H c.xs c.rs
 q:H c.q=some (.lst c.ys)
 r3:jp H c.ys c.ts
 gl:H c.gl=some (.lst c.zs)
 gi:yR H c.zs (c.ws.map (jb c.rs))
 ll:H c.ll=some (.lst (c.lds.map λx=>V.ref x.1))
 sg:Rd H c.sg (.dK (c.sk.map kvA))
 sk:∀z∈c.sk,∃t,H z.2=some (yt t)/\good t=true
 ld:∀x∈c.lds,Rd H x.1 (.dK (x.2.map kvI))
structure ScOk (b:Addr) (c:ScN):Prop where
 gr:Grown c.rs
 l1:1<=c.rs.length
 l8:c.rs.length<=8
 t1:1<=c.ts.length
 t2:c.ts.length<=12
 tg:c.ts.all good=true
 ro:qg c.rs c.ws
 ldl:c.lds.length=c.ws.length
 nd:(c.lds.map (·.1)).Nodup
 ns:∀x∈c.lds,x.1≠c.sg
 pb:c.p≠b
 qb:c.q≠b
 gb:c.gl≠b
 lb:c.ll≠b
 zb:V.ref b∉c.zs
 k1:(c.sk.map (·.1)).Nodup
 k2:∀z∈c.sk,0<=z.1/\z.1<=99
 k3:c.sk.length<=10
 m1:∀x∈c.lds,(x.2.map (·.1)).Nodup
 m2:∀x∈c.lds,∀z∈x.2,0<=z.1/\z.1<=99/\1<=z.2/\z.2<=9
 m3:∀x∈c.lds,x.2.length<=10
noncomputable def Fr3 (N M:Addr->Prop) (H H':Hp):Prop:=∀c o,H c=some o->¬N c->H' c=some o\/(M c/\∃ob kvs,o = .dK kvs/\H' c=some (.frz ob (.dK kvs)))
theorem Fr3.at {N:Addr->Prop}(f:Fr3 N M H H') (h:H c=some o) (n:¬N c) (d:∀kvs,o≠.dK kvs):H' c=some o:=by
 rcases f c o h n with h1 | ⟨_,ob,kvs,e,_⟩
 ·exact h1
 ·exact absurd e (d kvs)
theorem Fr3.rd {N:Addr->Prop}(f:Fr3 N M H H') {kvs:List (Key×V)}(n:¬N c) (h:Rd H c (.dK kvs)):Rd H' c (.dK kvs):=by
 rcases h with h | ⟨o,h⟩
 ·rcases f c _ h n with h1 | ⟨_,ob,kvs',e,h1⟩
  ·exact .inl h1
  ·cases e
   exact .inr ⟨ob,h1⟩
 ·exact .inr ⟨o,f.at h n (by walk_at "w")⟩
theorem pmM {α β:Type}{F G:α->β->Prop}:∀{l₁:List α}{l₂:List β},d0 F l₁ l₂->(∀v∈l₁,∀w,F v w->G v w)->d0 G l₁ l₂
 | _,_,.nil,_=>.nil
 | _,_,.cons q r,h=>.cons (h _ (aB ..) _ q) (pmM r λv hv=>h v (aF _ hv))
theorem ScAt.keep {N:Addr->Prop}{sd:Addr}{c:ScN}(S:ScAt H sd c) (f:Fr3 N M H H') (nT:∀a xs,H a=some (.tup xs)->¬N a) (nsd:¬N sd) (msd:¬M sd) (np:¬N c.p) (nq:¬N c.q) (ng:¬N c.gl) (nl:¬N c.ll) (nz:∀a,V.ref a∈c.zs->¬N a) (ns:¬N c.sg) (nd:∀x∈c.lds,¬N x.1):ScAt H' sd c:=by
 have t:∀a xs,H a=some (.tup xs)->H' a=some (.tup xs):=λa xs h=>f.at h (nT a xs h) (by walk_at "w")
 refine ⟨?_,f.at S.p np (by walk_at "w"),S.rv.keep t,f.at S.q nq (by walk_at "w"),S.r3.imp λ_ _ h=>t _ _ h,f.at S.gl ng (by walk_at "w"),pmM S.gi λv hv w ⟨a,ea,q⟩=>⟨a,ea,f.at q (nz a (ea ▸ hv)) (by walk_at "w")⟩,f.at S.ll nl (by walk_at "w"),f.rd ns S.sg,λz hz=>?_,λx hx=>f.rd (nd x hx) (S.ld x hx)⟩
 ·rcases f _ _ S.sd nsd with z | ⟨z,_⟩
  ·exact z
  ·exact absurd z msd
 ·obtain ⟨u,hu,g⟩:=S.sk z hz
  exact ⟨u,t _ _ hu,g⟩
theorem ScAt.same {sd:Addr}(S:ScAt H sd c) (s:jj H H'):ScAt H' sd c :=
 S.keep (N:=λ_=>False) (M:=λ_=>False) (λc o h _=>.inl (s c o h)) (λ_ _ _ z=>z) id id id id id id (λ_ _=>id) id (λ_ _=>id)
theorem ScAt.ext {b:Addr}{sd:Addr}(S:ScAt H sd c) (O:ScOk b c) (B:jU L H b) (e:Ext b H H'):ScAt H' sd c:=by
 obtain ⟨_,_,_,_,_,hb,_⟩:=B
 have nr:∀{a:Addr} {kvs:List (Key×V)},Rd H a (.dK kvs)->¬a=b:=λh z=>by
  rcases h with h | ⟨o,h⟩
  ·exact absurd z (jn h hb (by walk_at "z"))
  ·exact absurd z (jn h hb (by walk_at "z"))
 exact S.keep (N:=λa=>a=b) (M:=λ_=>False) (λc o h n=>.inl (e c o h n)) (λa xs h z=>absurd z (jn h hb (by walk_at "z"))) (jn S.sd hb (by walk_at "z")) id O.pb O.qb O.gb O.lb (λa h z=>O.zb (z ▸ h)) (nr S.sg) λx hx=>nr (S.ld x hx)
noncomputable def ScN.D (c:ScN) (a:Addr):Prop:=a=c.sg\/∃x∈c.lds,x.1=a
theorem ED {p q sg gl ll:Addr}{α:Type}{f:α->V}{l:List (Int×α)}:scK p q sg gl ll≠l.map λz=>((.inl z.1,f z.2):Key×V):=λz=>by
 cases l with
 | nil=>cases z
 | cons u r =>
  have:=congrArg (λl=>l.head?.map (·.1)) z
  cases this
theorem Y0 {H:Hp}{sd a p q sg gl ll:Addr}{α:Type}{f:α->V}{l:List (Int×α)}(h:H sd=some (.dK (scK p q sg gl ll))) (r:Rd H a (.dK (l.map λz=>((.inl z.1,f z.2):Key×V)))):a≠sd:=λz=>by
 subst z
 rcases r with r | ⟨o,r⟩
 ·rw [r] at h
  have e:l.map (λz=>((.inl z.1,f z.2):Key×V))=scK p q sg gl ll:=by injection h with h;injection h
  exact ED e.symm
 ·rw [r] at h
  cases h
theorem ScAt.nD {sd:Addr}(S:ScAt H sd c):¬c.D sd:=λz=>by
 rcases z with z | ⟨x,hx,e⟩
 ·exact Y0 (f:=V.ref) S.sd S.sg z.symm
 ·exact Y0 (f:=V.int) S.sd (S.ld x hx) e
structure ScB (L b:Addr) (H H2:Hp) (sd:Addr) (c:ScN):Prop where
 S:ScAt H2 sd c
 O:ScOk b c
 r1:H2 c.sg=some (.dK (c.sk.map kvA))
 r2:∀x∈c.lds,H2 x.1=some (.dK (x.2.map kvI))
 B:jU L H2 b
 X:Ext b H H2
 f1:H c.sg=none
 f2:∀x∈c.lds,H x.1=none
theorem ScB.take {b:Addr}{sd:Addr}(S:ScB L b H H2 sd c) (B:jU L H3 b) (X:Ext b H2 H3):ScB L b H H3 sd c:=by
 have hb:∃xs,H2 b=some (.lst xs):=by
  obtain ⟨_,_,_,_,_,hb,_⟩:=S.B
  exact ⟨_,hb⟩
 obtain ⟨_,hb⟩:=hb
 exact ⟨S.S.ext S.O S.B X,S.O,X _ _ S.r1 (jn S.r1 hb (by walk_at "z")),λx hx=>X _ _ (S.r2 x hx) (jn (S.r2 x hx) hb (by walk_at "z")),B,S.X.trans X,S.f1,S.f2⟩
theorem ScB.same {b:Addr}{sd:Addr}(S:ScB L b H H2 sd c) (s:jj H2 H3):ScB L b H H3 sd c:=S.take (S.B.same s) (Ext.of_same s)
theorem xw (B:jU L Ha b) (e:Ext b Ha Hb):ji Ha Hb:=by
 obtain ⟨ns,a,r,c,d,h1,_⟩:=B
 exact ji.lst e h1
theorem ScB.single {b:Addr}{sd t:Addr}{y:Int}(S:ScB L b H H2 sd c) (y0:0<=y) (y1:y<=99) (ht:H2 t=some (yt r)) (hg:good r=true) (hl:c.sk.length+1<=10) :
  ScB L b H (upd H2 c.sg (.dK (qC (c.sk.map kvA) (.inl y) (.ref t)))) sd { c with sk:=xR c.sk y t }:=by
 have e:qC (c.sk.map kvA) (.inl y) (.ref t)=(xR c.sk y t).map kvA:=gz V.ref c.sk y t
 rw [e]
 have nT:∀{a:Addr} {o:HO},H2 a=some o->(∀kvs,o≠.dK kvs)->(upd H2 c.sg (.dK ((xR c.sk y t).map kvA))) a=some o:=λh n=>by rw [j7 (jn h S.r1 (n _))];exact h
 have sdn:sd≠c.sg:=(Y0 (f:=V.ref) S.S.sd S.S.sg).symm
 have hb:∃xs,H2 b=some (.lst xs):=by
  obtain ⟨_,_,_,_,_,hb,_⟩:=S.B
  exact ⟨_,hb⟩
 obtain ⟨_,hb⟩:=hb
 have hL:∃xs,H2 L=some (.lst xs):=by
  obtain ⟨_,_,_,_,_,_,_,hL,_⟩:=S.B
  exact ⟨_,hL⟩
 obtain ⟨_,hL⟩:=hL
 refine ⟨⟨by rw [j7 sdn];exact S.S.sd,nT S.S.p (by walk_at "w"),S.S.rv.keep λ_ _ h=>nT h (by walk_at "w"),nT S.S.q (by walk_at "w"),S.S.r3.imp λ_ _ h=>nT h (by walk_at "w"),nT S.S.gl (by walk_at "w"),pmM S.S.gi λv hv w ⟨a,ea,q⟩=>⟨a,ea,nT q (by walk_at "w")⟩,nT S.S.ll (by walk_at "w"),.inl j6,λz hz=>?_,λx hx=>.inl (by rw [j7 (S.O.ns x hx)];exact S.r2 x hx)⟩,?_,j6,λx hx=>by rw [j7 (S.O.ns x hx)];exact S.r2 x hx,S.B.put (jn S.r1 hb (by walk_at "z")) (jn S.r1 hL (by walk_at "z")),λd o hd n=>?_,S.f1,S.f2⟩
 ·rcases kD hz with z | z
  ·obtain ⟨u,hu,g⟩:=S.S.sk _ z
   exact ⟨u,nT hu (by walk_at "w"),g⟩
  ·subst z
   exact ⟨r,nT ht (by walk_at "w"),hg⟩
 ·have O:=S.O
  exact ⟨O.gr,O.l1,O.l8,O.t1,O.t2,O.tg,O.ro,O.ldl,O.nd,O.ns,O.pb,O.qb,O.gb,O.lb,O.zb,gm O.k1,λz hz=>by
   rcases kD hz with q | q
   ·exact O.k2 z q
   ·subst q;exact ⟨y0,y1⟩,aH (ux _ _ _) hl,O.m1,O.m2,O.m3⟩
 ·rw [j7 (j1 hd S.f1)]
  exact S.X d o hd n
theorem uI {α β:Type}{l:List (α×β)}{n:Nat}{a:α}{u v:β}(nd:(l.map (·.1)).Nodup) (hn:l[n]? = some (a,u)) {x:α×β}(hx:x∈l.set n (a,v)):x=(a,v)\/(x∈l/\x.1≠a):=by
 obtain ⟨i,hi,e⟩:=List.mem_iff_getElem.mp hx
 have hi':i<l.length:=by rw [iL] at hi;exact hi
 obtain ⟨hn1,hn2⟩:=List.getElem?_eq_some_iff.mp hn
 by_cases q:n=i
 ·subst q
  rw [List.getElem_set_self] at e
  exact .inl e.symm
 ·rw [List.getElem_set_ne q] at e
  refine .inr ⟨e ▸ c8 hi',λz=>q ?_⟩
  have h1:(l.map (·.1))[n]'(by rw [ah];exact hn1)=(l.map (·.1))[i]'(by rw [ah];exact hi'):=by
   rw [dS,dS,hn2,e,z]
  rcases Nat.lt_trichotomy n i with g | g | g
  ·exact absurd h1 (List.pairwise_iff_getElem.mp nd n i _ _ g)
  ·exact g
  ·exact absurd h1.symm (List.pairwise_iff_getElem.mp nd i n _ _ g)
theorem Yi {α β:Type}{l:List (α×β)}{n:Nat}{a:α}{u v:β}(hn:l[n]? = some (a,u)):(l.set n (a,v)).map (·.1)=l.map (·.1):=by
 obtain ⟨hn1,hn2⟩:=List.getElem?_eq_some_iff.mp hn
 rw [List.map_set]
 refine lP λi=>?_
 rw [ia]
 by_cases q:n=i
 ·subst q
  rw [if_pos rfl,if_pos (by rw [ah];exact hn1),aA,hn]
  rfl
 ·rw [if_neg q]
theorem ScB.leap {b:Addr}{sd a:Addr}{n:Nat}{y m:Int}{ns:List (Int×Int)}(S:ScB L b H H2 sd c) (hn:c.lds[n]? = some (a,ns)) (y0:0<=y) (y1:y<=99) (m0:1<=m) (m1:m<=9) (hl:ns.length+1<=10) :
  ScB L b H (upd H2 a (.dK (qC (ns.map kvI) (.inl y) (.int m)))) sd { c with lds:=c.lds.set n (a,xR ns y m) }:=by
 have e:qC (ns.map kvI) (.inl y) (.int m)=(xR ns y m).map kvI:=gz V.int ns y m
 rw [e]
 have hm:=az hn
 have ra:=S.r2 _ hm
 have nT:∀{d:Addr} {o:HO},H2 d=some o->(∀kvs,o≠.dK kvs)->(upd H2 a (.dK ((xR ns y m).map kvI))) d=some o:=λh n=>by rw [j7 (jn h ra (n _))];exact h
 have sdn:sd≠a:=(Y0 (f:=V.int) S.S.sd (S.S.ld _ hm)).symm
 have hb:∃xs,H2 b=some (.lst xs):=by
  obtain ⟨_,_,_,_,_,hb,_⟩:=S.B
  exact ⟨_,hb⟩
 obtain ⟨_,hb⟩:=hb
 have hL:∃xs,H2 L=some (.lst xs):=by
  obtain ⟨_,_,_,_,_,_,_,hL,_⟩:=S.B
  exact ⟨_,hL⟩
 obtain ⟨_,hL⟩:=hL
 have fs:=Yi (v:=xR ns y m) hn
 have fs2:(c.lds.set n (a,xR ns y m)).map (λx=>V.ref x.1)=c.lds.map λx=>V.ref x.1:=by
  have:=congrArg (tj V.ref) fs
  rw [bZ,bZ] at this
  exact this
 have sg:c.sg≠a:=(S.O.ns _ hm).symm
 have r2:∀x∈c.lds.set n (a,xR ns y m),(upd H2 a (.dK ((xR ns y m).map kvI))) x.1=some (.dK (x.2.map kvI)):=λx hx=>by
  rcases uI S.O.nd hn hx with z | ⟨z,w⟩
  ·subst z
   exact j6
  ·rw [j7 w]
   exact S.r2 x z
 have mem:∀x∈c.lds.set n (a,xR ns y m),∃x'∈c.lds,x'.1=x.1:=λx hx=>by
  have:x.1∈(c.lds.set n (a,xR ns y m)).map (·.1):=bK hx
  rw [fs] at this
  exact List.mem_map.mp this
 have O:=S.O
 refine ⟨⟨by rw [j7 sdn];exact S.S.sd,nT S.S.p (by walk_at "w"),S.S.rv.keep λ_ _ h=>nT h (by walk_at "w"),nT S.S.q (by walk_at "w"),S.S.r3.imp λ_ _ h=>nT h (by walk_at "w"),nT S.S.gl (by walk_at "w"),pmM S.S.gi λv hv w ⟨a,ea,q⟩=>⟨a,ea,nT q (by walk_at "w")⟩,?_,.inl (by show upd _ _ _ c.sg=_;rw [j7 sg];exact S.r1),λz hz=>?_,λx hx=>.inl (r2 x hx)⟩,⟨O.gr,O.l1,O.l8,O.t1,O.t2,O.tg,O.ro,?_,?_,?_,O.pb,O.qb,O.gb,O.lb,O.zb,O.k1,O.k2,O.k3,?_,?_,?_⟩,(by show upd _ _ _ c.sg=_;rw [j7 sg];exact S.r1),r2,S.B.put (jn ra hb (by walk_at "z")) (jn ra hL (by walk_at "z")),λd o hd n=>?_,S.f1,?_⟩
 ·show _=some (HO.lst ((c.lds.set n (a,xR ns y m)).map λx=>V.ref x.1))
  rw [fs2]
  exact nT S.S.ll (by walk_at "w")
 ·obtain ⟨u,hu,g⟩:=S.S.sk _ hz
  exact ⟨u,nT hu (by walk_at "w"),g⟩
 ·show (c.lds.set n (a,xR ns y m)).length=_
  rw [iL]
  exact O.ldl
 ·show ((c.lds.set n (a,xR ns y m)).map (·.1)).Nodup
  rw [fs]
  exact O.nd
 ·intro x hx
  obtain ⟨x',h1,h2⟩:=mem x hx
  rw [<- h2]
  exact O.ns x' h1
 ·intro x hx
  rcases uI S.O.nd hn hx with z | ⟨z,w⟩
  ·subst z;exact gm (O.m1 _ hm)
  ·exact O.m1 x z
 ·intro x hx
  rcases uI S.O.nd hn hx with z | ⟨z,w⟩
  ·subst z
   intro u hu
   rcases kD hu with q | q
   ·exact O.m2 _ hm u q
   ·subst q;exact ⟨y0,y1,m0,m1⟩
  ·exact O.m2 x z
 ·intro x hx
  rcases uI S.O.nd hn hx with z | ⟨z,w⟩
  ·subst z;exact aH (ux _ _ _) hl
  ·exact O.m3 x z
 ·rw [j7 (j1 hd (S.f2 _ hm))]
  exact S.X d o hd n
 ·intro x hx
  obtain ⟨x',h1,h2⟩:=mem x hx
  rw [<- h2]
  exact S.f2 x' h1
theorem put4 :qC (xk [] [(.inr "reaches",.ref p),(.inr "rows",.ref q),(.inr "single",.ref sg)]) (.inr "grounds") (.ref gl)=[((.inr "reaches",.ref p):Key×V),(.inr "rows",.ref q),(.inr "single",.ref sg),(.inr "grounds",.ref gl)]:=by
 have e1:(qC [] (.inr "reaches") (.ref p):List (Key×V))=[(.inr "reaches",.ref p)]:=yj _ vg
 have e2:qC [((.inr "reaches",.ref p):Key×V)] (.inr "rows") (.ref q)=[(.inr "reaches",.ref p),(.inr "rows",.ref q)]:=yj _ ((jw (show (br (ak "reaches"):Key)≠br (ak "rows") by decide +kernel)).trans vg)
 have e3:qC [((.inr "reaches",.ref p):Key×V),(.inr "rows",.ref q)] (.inr "single") (.ref sg)=[(.inr "reaches",.ref p),(.inr "rows",.ref q),(.inr "single",.ref sg)]:=yj _ ((jw (show (br (ak "reaches"):Key)≠br (ak "single") by decide +kernel)).trans ((jw (show (br (ak "rows"):Key)≠br (ak "single") by decide +kernel)).trans vg))
 have e4:qC [((.inr "reaches",.ref p):Key×V),(.inr "rows",.ref q),(.inr "single",.ref sg)] (.inr "grounds") (.ref gl)=[((.inr "reaches",.ref p):Key×V),(.inr "rows",.ref q),(.inr "single",.ref sg),(.inr "grounds",.ref gl)]:=yj _ ((jw (show (br (ak "reaches"):Key)≠br (ak "grounds") by decide +kernel)).trans ((jw (show (br (ak "rows"):Key)≠br (ak "grounds") by decide +kernel)).trans ((jw (show (br (ak "single"):Key)≠br (ak "grounds") by decide +kernel)).trans vg)))
 have e:xk [] [((.inr "reaches",.ref p):Key×V),(.inr "rows",.ref q),(.inr "single",.ref sg)]=[(.inr "reaches",.ref p),(.inr "rows",.ref q),(.inr "single",.ref sg)]:=by
  show qC (qC (qC ([]:List (Key×V)) (.inr "reaches") (.ref p)) (.inr "rows") (.ref q)) (.inr "single") (.ref sg)=_
  rw [e1,e2,e3]
 rw [e,e4]
theorem put5 :qC [((.inr "reaches",.ref p):Key×V),(.inr "rows",.ref q),(.inr "single",.ref sg),(.inr "grounds",.ref gl)] (.inr "leaps") (.ref ll)=scK p q sg gl ll :=
 yj _ ((jw (show (br (ak "reaches"):Key)≠br (ak "leaps") by decide +kernel)).trans ((jw (show (br (ak "rows"):Key)≠br (ak "leaps") by decide +kernel)).trans ((jw (show (br (ak "single"):Key)≠br (ak "leaps") by decide +kernel)).trans ((jw (show (br (ak "grounds"):Key)≠br (ak "leaps") by decide +kernel)).trans vg))))
theorem Xe (p q sg gl:Addr):jZ [((.inr "reaches",.ref p):Key×V),(.inr "rows",.ref q),(.inr "single",.ref sg),(.inr "grounds",.ref gl)] (.inr "grounds")=some (.ref gl):=(jw (show (br (ak "reaches"):Key)≠br (ak "grounds") by decide +kernel)).trans ((jw (show (br (ak "rows"):Key)≠br (ak "grounds") by decide +kernel)).trans ((jw (show (br (ak "single"):Key)≠br (ak "grounds") by decide +kernel)).trans xo))
theorem Yr {rs:List Rch}(G:Grown rs):∀r∈rs,r.2.length<=12:=λr hr=>by
 obtain ⟨i,hi,e⟩:=List.mem_iff_getElem.mp hr
 have:=Qv G.ok (af hi)
 rw [e] at this
 unfold okR at this
 rw [bb,bb] at this
 have:=of_decide_eq_true this.1.2
 right
theorem Gm {v:Int}(a:0<=v) (b:v<3):∃n,atI [V.int 1,V.int 4,V.int 9] v=some (V.int n)/\0<n/\n<=9:=by
 have h:v=0\/v=1\/v=2:=()
 rcases h with rfl | rfl | rfl
 ·exact ⟨1,rfl,(),()⟩
 ·exact ⟨4,rfl,(),()⟩
 ·exact ⟨9,rfl,(),()⟩
theorem WW {v:Int}(a:0<=v) (b:v<3):∃n,atI [V.int 1,V.int 3,V.int 7] v=some (V.int n)/\0<n/\n<=7:=by
 have h:v=0\/v=1\/v=2:=()
 rcases h with rfl | rfl | rfl
 ·exact ⟨1,rfl,(),()⟩
 ·exact ⟨3,rfl,(),()⟩
 ·exact ⟨7,rfl,(),()⟩
theorem Ai {v:Int}(a:0<=v) (b:v<2):∃n,atI [V.int 2,V.int 9] v=some (V.int n)/\0<n/\n<=9:=by
 have h:v=0\/v=1:=()
 rcases h with rfl | rfl
 ·exact ⟨2,rfl,(),()⟩
 ·exact ⟨9,rfl,(),()⟩
theorem JL (L:xy rs) (h:1<=rs.length):1<=(jv rs).length:=by
 have:(rs.length-1)∈jv rs:=by
  refine List.mem_filter.mpr ⟨List.mem_range.mpr (),?_⟩
  unfold jR
  rw [decide_eq_false]
  ·rfl
  ·intro z
   have:=Zn L z
   right
 exact i6 this
noncomputable def Y6:Sp:=λvs H Q _=>∃(L b:Addr),vs=[.ref b]/\jU L H b/\∀sd H' c,jU L H' b->Ext b H H'->ScAt H' sd c->ScOk b c->Q (.ref sd) H'
theorem x5:FnScope ["_law_box_here","_law_reaches_here","_law_scene_here","_law_turn","_law_lane"] ["_law_box_here"] (j8 ze):=by walk_at "s"
theorem Ub (nb:Nb2 mg) (c_law_take:Cal P w K mg base 2 "_law_take" ["_law_box_here","_law_size"] xH) (c_law_reaches:Cal P w K mg base 4 "_law_reaches" ["_law_box_here"] kI) (c_law_round:Cal P w K mg base 4 "_law_round" ["_law_box_here"] wQ) (c_law_ground:Cal P w K mg base 1 "_law_ground" ["_law_reaches_here","_law_road"] (XJ K)) (c_law_roads:Cal P w K mg base 1 "_law_roads" ["_law_reaches_here"] (Xp K)) (c_law_year:Cal P w K mg base 3 "_law_year" ["_law_box_here"] UL) (c_law_weather:Cal P w K mg base 3 "_law_weather" ["_law_box_here"] wk)
  (F:Fun K "_law_scene" "_law_scene" ze f fd):FnOk P w K mg base CX0 5 f fd ["_law_box_here"] Y6:=by
 refine F.ok x5 (λvs H Q E h=>?_) (λcdv A outer s H vs Q E hr h=>?_)
 ·obtain ⟨L,b,rfl,_⟩:=h
  rfl
 ·obtain ⟨L,b,rfl,B,k⟩:=h
  refine ⟨_,(j4 (yI (i:=1) x5.nd rfl (iM rfl) (je c_law_reaches (hr.mono ⋯) rfl (j0 (pv 0) j2)))
   (j4 (jr 2 x5.nd (Wy (hW jt (pv 1) (hW jt (je c_law_round (hr.mono ⋯) rfl (j0 (pv 0) j2)) (hW jt yq Gq))) rfl rfl (λz=>by cases z) ⋯))
   (j4 (zp (jO hr) (pv 2) jt (qa (osc:=(j8 ze)) (ON:=["_law_box_here","_law_reaches_here","_law_scene_here","_law_turn","_law_lane"]) (N:=["_law_road","_law_reaches_here"]) (own:=1) (caps:=[1]) ⟨rfl,∅,∅,∅,rfl,∅⟩ rfl rfl rfl (qc K (je c_law_roads (hr.mono ⋯) rfl (j0 (pv 1) j2))) (λ_ _ _ _ _=>(ja (i:=0) (show bu (["_law_road","_law_reaches_here"]:List Str) by decide +kernel) rfl (aQ rfl))) (λ_ _ _ _ _=>jN) (λ_ _ _ _ _=>(je c_law_ground (hr.mono ⋯) rfl (j0 (pv 1) (j0 (pv 0) j2))))) rfl)
   (yK (zp (jO hr) (pv 2) jt (qa (osc:=(j8 ze)) (ON:=["_law_box_here","_law_reaches_here","_law_scene_here","_law_turn","_law_lane"]) (N:=["_law_ground_here"]) (own:=1) (caps:=[]) ⟨rfl,∅,∅,∅,rfl,∅⟩ rfl rfl rfl (qc K (jH (jO hr) (pv 2) jt (λ_ _=>rfl))) (λ_ _ _ _ _=>(ja (i:=0) (show bu (["_law_ground_here"]:List Str) by decide +kernel) rfl (aQ rfl))) (λ_ _ _ _ _=>jN) (λ_ _ _ _ _=>yq)) rfl)
   (yK (qw aX rfl (qi rfl nb.b_range (j0 (je c_law_take (hr.mono ⋯) rfl (j0 (pv 0) (j0 (js (jd K) (jC (j0 j5 (j0 j5 (j0 j5 j2)))) (je c_law_take (hr.mono ⋯) rfl (j0 (pv 0) (j0 j5 j2))) (λ_ _=>rfl)) j2))) j2)) (ja (i:=3) x5.nd rfl (aQ rfl)) (j9 (zp (jO hr) (jH (jO hr) (pv 2) jt (λ_ _=>rfl)) (je c_law_year (hr.mono ⋯) rfl (j0 (pv 0) j2)) (je c_law_weather (hr.mono ⋯) rfl (j0 (pv 0) j2)) rfl)))
   (j4 (qw aX rfl (qi rfl nb.b_range (j0 (je c_law_take (hr.mono ⋯) rfl (j0 (pv 0) (j0 (js (jd K) (jC (j0 j5 (j0 j5 (j0 j5 j2)))) (je c_law_take (hr.mono ⋯) rfl (j0 (pv 0) (j0 j5 j2))) (λ_ _=>rfl)) j2))) j2)) (ja (i:=3) x5.nd rfl (aQ rfl)) (j4 (jr 4 x5.nd (je c_law_take (hr.mono ⋯) rfl (j0 (pv 0) (j0 (jc (jf K) rfl nb.b_len aR (j0 (jH (jO hr) (pv 2) jt (λ_ _=>rfl)) j2)) j2))))
   (j9 (zp (jO hr) (js (jd K) (jH (jO hr) (pv 2) jt (λ_ _=>rfl)) (pv 4) (λ_ _=>rfl)) (je c_law_year (hr.mono ⋯) rfl (j0 (pv 0) j2)) (jo jT j5 (je c_law_take (hr.mono ⋯) rfl (j0 (pv 0) (j0 (js (jd K) (jC (j0 j5 (j0 j5 j2))) (je c_law_take (hr.mono ⋯) rfl (j0 (pv 0) (j0 j5 j2))) (λ_ _=>rfl)) j2)))) rfl))))
   (j9 (jk (pv 2))))))))),?_⟩
  left
  refine ⟨L,b,rfl,B,λp H1 xs rs B1 X1 hp hp1 r1 g1 l1 l8=>?_⟩
  have pb:p≠b:=B.ne hp
  left
  intro sd hsd
  have sdb:sd≠b:=B1.ne hsd
  have sd0:H sd=none:=X1.free hsd sdb
  left
  have Ba:jU L (upd H1 sd (.dK [])) b:=B1.put sdb (B1.neL hsd)
  refine ⟨L,b,rfl,Ba,λq Hb ys ts Bb Xb hq hqb r3b ht12 htg=>?_⟩
  have qb:q≠b:=Ba.ne hq
  have qsd:q≠sd:=λz=>by rw [z,j6] at hq;cases hq
  have sdB:Hb sd=some (.dK []):=Xb _ _ j6 sdb
  have pB:Hb p=some (.lst xs):=Xb _ _ (by rw [j7 (j1 hp1 hsd)];exact hp1) pb
  have rB:qd Hb xs rs:=(r1.keep (ji.same (jj.new hsd))).keep (xw Ba Xb)
  have XB:Ext b H Hb:=(X1.trans (Ext.new hsd)).trans Xb
  left
  intro sg hsg
  have sgb:sg≠b:=Bb.ne hsg
  have sg0:H sg=none:=XB.free hsg sgb
  have sgsd:sg≠sd:=(j1 sdB hsg).symm
  left
  refine ⟨by rw [j7 sgsd.symm];exact sdB,[(.inr "reaches",.ref p),(.inr "rows",.ref q),(.inr "single",.ref sg)],rfl,by show 3<=15;decide,?_⟩
  have sC:jj Hb (upd Hb sg (.dK [])):=jj.new hsg
  have nD:∀{a:Addr} {o:HO},Hb a=some o->a≠sd->(upd (upd Hb sg (.dK [])) sd (.dK (xk [] [(.inr "reaches",.ref p),(.inr "rows",.ref q),(.inr "single",.ref sg)]))) a=some o:=λh n=>by rw [j7 n];exact sC _ _ h
  have dD:(upd (upd Hb sg (.dK [])) sd (.dK (xk [] [(.inr "reaches",.ref p),(.inr "rows",.ref q),(.inr "single",.ref sg)]))) sd=some (.dK (xk [] [(.inr "reaches",.ref p),(.inr "rows",.ref q),(.inr "single",.ref sg)])):=j6
  have pD:=nD pB (jn pB sdB (by walk_at "z"))
  have rD:qd (upd (upd Hb sg (.dK [])) sd (.dK (xk [] [(.inr "reaches",.ref p),(.inr "rows",.ref q),(.inr "single",.ref sg)]))) xs rs:=rB.keep λ_ _ h=>nD h (jn h sdB (by walk_at "z"))
  have qD:=nD hqb qsd
  have r3D:jp (upd (upd Hb sg (.dK [])) sd (.dK (xk [] [(.inr "reaches",.ref p),(.inr "rows",.ref q),(.inr "single",.ref sg)]))) ys ts:=r3b.imp λ_ _ h=>nD h (jn h sdB (by walk_at "z"))
  have sgD:(upd (upd Hb sg (.dK [])) sd (.dK (xk [] [(.inr "reaches",.ref p),(.inr "rows",.ref q),(.inr "single",.ref sg)]))) sg=some (.dK []):=by rw [j7 sgsd];exact j6
  have BD:jU L (upd (upd Hb sg (.dK [])) sd (.dK (xk [] [(.inr "reaches",.ref p),(.inr "rows",.ref q),(.inr "single",.ref sg)]))) b:=(Bb.same sC).put sdb (B1.neL hsd)
  have XD:Ext b H (upd (upd Hb sg (.dK [])) sd (.dK (xk [] [(.inr "reaches",.ref p),(.inr "rows",.ref q),(.inr "single",.ref sg)]))):=λc o h n=>nD (XB c o h n) (j1 h sd0)
  clear nD sC hsg sdB pB rB XB hqb r3b Bb Xb hq Ba
  generalize (upd (upd Hb sg (.dK [])) sd (.dK (xk [] [(.inr "reaches",.ref p),(.inr "rows",.ref q),(.inr "single",.ref sg)])))=Hd at *
  have Ld:=qk g1.ok
  left
  refine ⟨p,xs,rs,rfl,pD,rD,Ld,(),λl He out ws hl hle w1 hR s1=>?_⟩
  left
  refine ⟨⟨_,SqL.of hle⟩,λgl hgl=>?_⟩
  have hlw:out.length=ws.length:=aT w1
  have hws:ws.length<=6:=by rw [hR.length];exact g1.heads
  have h100:∀r∈rs,r.2.length<=100:=λr hr=>aH (Yr g1 r hr) ⋯
  have BE:=BD.same s1
  have glb:gl≠b:=BE.ne hgl
  refine qz (K:=K) (a:=l) (xs:=out) (acc:=gl) (λi σ H2=>∃(x:Option V) (zs:List V),σ=[x,some (.ref p)]/\H2 gl=some (.lst zs)/\zs.length=i/\d0 (λv (w:List Int)=>∃a,v=V.ref a/\H2 a=some (.lst (w.map V.int))/\He a=none/\a≠gl) zs ((ws.take i).map (jb rs))/\Ext gl He H2) ?_ ?_ ?_ ?_
  ·exact ⟨none,[],rfl,j6,rfl,.nil,Ext.put⟩
  ·rintro i σ H2 hi ⟨x,zs,rfl,h2,hz,r2,e2⟩
   exact SqL.of (e2 _ _ hle (j1 hle hgl))
  ·rintro i v σ H2 hv ⟨x,zs,rfl,h2,hz,r2,e2⟩
   obtain ⟨wy,hwy,a,rfl,ha1⟩:=Paired.get w1 hv
   have hi:=(List.getElem?_eq_some_iff.mp hwy).1
   obtain ⟨x',hx',ewy⟩:=hR.mem (az hwy)
   have ha2:=e2 _ _ ha1 (j1 ha1 hgl)
   have hr1:=s1 _ _ pD
   have hl':=uB Ld x' (xz hx')
   have:=xz hx'
   left
   refine ⟨p,a,xs,rs,wy,rfl,e2 _ _ hr1 (j1 hr1 hgl),(rD.keep (ji.same s1)).keep (ji.new e2 hgl),h100,ha2,by rw [ewy];exact zg Ld x' (xz hx'),by rw [ewy];right,λt H3 ht ht3 s3=>?_⟩
   have ta:t≠gl:=(j1 h2 ht).symm
   refine ⟨zs,s3 _ _ h2,jh (),some (.ref a),zs++[.ref t],rfl,j6,by rw [aq,hz];rfl,?_,λc o hc n=>by rw [j7 n];exact s3 _ _ (e2 c o hc n)⟩
   rw [qI (jb rs) ws i wy hwy]
   exact d5 (Paired.mapP r2 λv wy ⟨a,e,ha,h0,na⟩=>⟨a,e,by rw [j7 na];exact s3 _ _ ha,h0,na⟩) ⟨t,rfl,by rw [j7 ta];exact ht3,e2.free ht ta,ta⟩
  rintro σ H2 ⟨x,zs,rfl,h2,hz,r2,e2⟩
  rw [hlw,aY] at r2
  have gi2:yR H2 zs (ws.map (jb rs)):=Paired.mapP r2 λv wy ⟨a,e,ha,h0,na⟩=>⟨a,e,ha⟩
  have zb:V.ref b∉zs:=λz=>by
   obtain ⟨_,a,e,_,h0,_⟩:=pm r2 _ z
   cases e
   exact absurd rfl (BE.ne h0)
  have s2:jj Hd H2:=λc o hc=>e2 _ _ (s1 _ _ hc) (j1 (s1 _ _ hc) hgl)
  have gl0:Hd gl=none:=s1.free hgl
  left
  refine ⟨sd,_,rfl,vY.k (k:=.inr "grounds") (s2 _ _ dD) (jh (aH (yb _ _) (by show 0+3<=1000;decide))),?_⟩
  rw [put4]
  have nF:∀{a:Addr} {o:HO},H2 a=some o->(∀kvs,o≠.dK kvs)->(upd H2 sd (.dK [((.inr "reaches",.ref p):Key×V),(.inr "rows",.ref q),(.inr "single",.ref sg),(.inr "grounds",.ref gl)])) a=some o:=λh n=>by rw [j7 (jn h (s2 _ _ dD) (n _))];exact h
  have dF:(upd H2 sd (.dK [((.inr "reaches",.ref p):Key×V),(.inr "rows",.ref q),(.inr "single",.ref sg),(.inr "grounds",.ref gl)])) sd=some (.dK [((.inr "reaches",.ref p):Key×V),(.inr "rows",.ref q),(.inr "single",.ref sg),(.inr "grounds",.ref gl)]):=j6
  have pF:=nF (s2 _ _ pD) (by walk_at "w")
  have qF:=nF (s2 _ _ qD) (by walk_at "w")
  have rF:qd (upd H2 sd (.dK [((.inr "reaches",.ref p):Key×V),(.inr "rows",.ref q),(.inr "single",.ref sg),(.inr "grounds",.ref gl)])) xs rs:=rD.keep λ_ _ h=>nF (s2 _ _ h) (by walk_at "w")
  have r3F:jp (upd H2 sd (.dK [((.inr "reaches",.ref p):Key×V),(.inr "rows",.ref q),(.inr "single",.ref sg),(.inr "grounds",.ref gl)])) ys ts:=r3D.imp λ_ _ h=>nF (s2 _ _ h) (by walk_at "w")
  have gF:=nF h2 (by walk_at "w")
  have giF:yR (upd H2 sd (.dK [((.inr "reaches",.ref p):Key×V),(.inr "rows",.ref q),(.inr "single",.ref sg),(.inr "grounds",.ref gl)])) zs (ws.map (jb rs)):=Paired.mapP gi2 λv wy ⟨a,e,ha⟩=>⟨a,e,nF ha (by walk_at "w")⟩
  have sgF:(upd H2 sd (.dK [((.inr "reaches",.ref p):Key×V),(.inr "rows",.ref q),(.inr "single",.ref sg),(.inr "grounds",.ref gl)])) sg=some (.dK []):=by rw [j7 sgsd];exact s2 _ _ sgD
  have BF:jU L (upd H2 sd (.dK [((.inr "reaches",.ref p):Key×V),(.inr "rows",.ref q),(.inr "single",.ref sg),(.inr "grounds",.ref gl)])) b:=(BD.same s2).put sdb (B1.neL hsd)
  have XF:Ext b H (upd H2 sd (.dK [((.inr "reaches",.ref p):Key×V),(.inr "rows",.ref q),(.inr "single",.ref sg),(.inr "grounds",.ref gl)])):=λc o h n=>by rw [j7 (j1 h sd0)];exact s2 _ _ (XD c o h n)
  clear nF gi2 s2 h2 r2 e2 BE hgl s1 w1 hle hl pD rD qD r3D sgD BD XD dD h100
  generalize (upd H2 sd (.dK [((.inr "reaches",.ref p):Key×V),(.inr "rows",.ref q),(.inr "single",.ref sg),(.inr "grounds",.ref gl)]))=Hf at *
  have hzw:zs.length<=6:=()
  refine ⟨λσ H5=>∃c,σ=[some (.ref b),some (.ref p),some (.ref sd),none,none]/\ScB L b H H5 sd c/\c.sk=[]/\∀x∈c.lds,x.2=[],?_,?_⟩
  ·left
   refine ⟨sd,.ref gl,rfl,by rw [<- Xe p q sg gl];exact qR.k (k:=.inr "grounds") dF,?_⟩
   left
   refine ⟨⟨_,SqL.of gF⟩,λle hle=>?_⟩
   have leb:le≠b:=BF.ne hle
   refine qz (K:=K) (a:=gl) (xs:=zs) (acc:=le) (λi σ He=>∃(x:Option V) (lds:List (Addr×List (Int×Int))),σ=[x]/\He le=some (.lst (lds.map λx=>V.ref x.1))/\lds.length=i/\(∀x∈lds,He x.1=some (.dK [])/\x.2=[]/\Hf x.1=none/\x.1≠le)/\(lds.map (·.1)).Nodup/\Ext le Hf He) ?_ ?_ ?_ ?_
   ·exact ⟨none,[],rfl,j6,rfl,(λx z=>by cases z),i8,Ext.put⟩
   ·rintro i σ He hi ⟨x,lds,rfl,he,hl,hd,nn,e⟩
    exact SqL.of (e _ _ gF (j1 gF hle))
   ·rintro i v σ He hv ⟨x,lds,rfl,he,hl,hd,nn,e⟩
    have hi:=(List.getElem?_eq_some_iff.mp hv).1
    left
    intro d hd0
    have dl:d≠le:=(j1 he hd0).symm
    refine ⟨_,(by rw [j7 (cF dl)];exact he),by rw [ah];exact jh (),some v,lds++[(d,[])],rfl,(by rw [j6,aG];rfl),(by rw [aq,hl];rfl),λy hy=>?_,?_,λc o hc n=>?_⟩
    ·rcases List.mem_append.mp hy with z | z
     ·obtain ⟨h1,h2,h3,h4⟩:=hd y z
      exact ⟨by rw [j7 h4,j7 (j1 h1 hd0)];exact h1,h2,h3,h4⟩
     ·obtain rfl:y=(d,[]):=by simpa using z
      exact ⟨by rw [j7 dl];exact j6,rfl,e.free hd0 dl,dl⟩
    ·rw [aG]
     refine ki nn λz=>?_
     obtain ⟨y,hy,ey⟩:=List.mem_map.mp z
     have:=(hd y hy).1
     rw [ey,hd0] at this
     cases this
    ·rw [j7 n,j7 (j1 (e c o hc n) hd0)]
     exact e c o hc n
   ·rintro σ He ⟨x,lds,rfl,he,hl,hd,nn,e⟩
    have sE:jj Hf He:=λc o h=>e c o h (j1 h hle)
    left
    refine ⟨sd,_,rfl,vY.k (k:=.inr "leaps") (sE _ _ dF) (by show 4<sizeLine;decide),?_⟩
    rw [put5]
    have nG:∀{a:Addr} {o:HO},He a=some o->(∀kvs,o≠.dK kvs)->(upd He sd (.dK (scK p q sg gl le))) a=some o:=λh n=>by rw [j7 (jn h (sE _ _ dF) (n _))];exact h
    have lG:∀x∈lds,(upd He sd (.dK (scK p q sg gl le))) x.1=some (.dK (x.2.map kvI)):=λx hx=>by
     obtain ⟨h1,h2,h3,h4⟩:=hd x hx
     rw [j7 (j1 dF h3).symm,h2]
     exact h1
    have sgG:(upd He sd (.dK (scK p q sg gl le))) sg=some (.dK []):=by rw [j7 sgsd];exact sE _ _ sgF
    refine ⟨⟨p,q,sg,gl,le,xs,ys,zs,rs,ts,ws,[],lds⟩,rfl,⟨⟨j6,nG (sE _ _ pF) (by walk_at "w"),rF.keep λ_ _ h=>nG (sE _ _ h) (by walk_at "w"),nG (sE _ _ qF) (by walk_at "w"),r3F.imp λ_ _ h=>nG (sE _ _ h) (by walk_at "w"),nG (sE _ _ gF) (by walk_at "w"),Paired.mapP giF λv wy ⟨a,e,ha⟩=>⟨a,e,nG (sE _ _ ha) (by walk_at "w")⟩,nG he (by walk_at "w"),.inl sgG,(λz hz=>by cases hz),λx hx=>.inl (lG x hx)⟩,
     ⟨g1,l1,l8,ht12.1,ht12.2,htg,hR,hl.trans (hz.trans hlw),nn,λx hx=>(j1 sgF (hd x hx).2.2.1).symm,pb,qb,glb,leb,zb,i8,(λz hz=>by cases hz),aJ _,(λx hx=>by rw [(hd x hx).2.1];exact i8),(λx hx=>by rw [(hd x hx).2.1];intro z hz;cases hz),(λx hx=>by rw [(hd x hx).2.1];exact aJ _)⟩,sgG,lG,(BF.same sE).put sdb (B1.neL hsd),λc o h n=>?_,sg0,λx hx=>?_⟩,rfl,λx hx=>(hd x hx).2.1⟩
    ·rw [j7 (j1 h sd0)]
     exact sE _ _ (XF c o h n)
    ·exact XF.free (hd x hx).2.2.1 (BF.ne (hd x hx).2.2.1)
  rintro σ H5 ⟨c,rfl,S5,k5,l5⟩
  clear dF pF qF rF r3F gF giF sgF BF XF zb hlw hws hz hzw
  refine ⟨λσ H6=>∃(x:Option V) (c:ScN),σ=[some (.ref b),some (.ref p),some (.ref sd),x,none]/\ScB L b H H6 sd c/\∀x∈c.lds,x.2=[],?_,?_⟩
  ·left
   refine ⟨by show 3<=sizeLine;decide,λl6 H6 hl6 hl66 s6=>?_⟩
   have S6:=S5.same s6
   have l6b:l6≠b:=S5.B.ne hl6
   left
   refine ⟨L,b,_,rfl,S6.B,⟨⋯,⋯⟩,λv7 H7 p7 q7 B7 X7=>?_⟩
   have S7:=S6.take B7 X7
   obtain ⟨n,hn,n0,n1⟩:=Gm p7 q7
   refine ⟨_,_,_,_,rfl,rfl,SqL.of (X7 _ _ hl66 l6b),hn,?_⟩
   left
   refine ⟨L,b,_,rfl,S7.B,⟨n0,()⟩,λv8 H8 p8 q8 B8 X8=>?_⟩
   have S8:=S7.take B8 X8
   left
   refine ⟨(),(),?_⟩
   refine xu (λi σ H2=>∃(x:Option V) (c:ScN),σ=[some (.ref b),some (.ref p),some (.ref sd),x,none]/\ScB L b H H2 sd c/\c.sk.length<=i/\∀x∈c.lds,x.2=[]) ?_ ?_ ?_
   ·exact ⟨none,c,rfl,S8,by rw [k5];exact ar _,l5⟩
   ·rintro i σ H2 hi ⟨x,c,rfl,S,hk,hl⟩
    left
    refine ⟨L,b,rfl,S.B,λt H9 r B9 X9 ht hg=>?_⟩
    have S9:=S.take B9 X9
    left
    refine ⟨sd,.ref c.sg,rfl,by rw [<- yf c.p c.q c.sg c.gl c.ll];exact qR.k (k:=.inr "single") S9.S.sd,?_⟩
    left
    refine ⟨L,b,rfl,S9.B,λy H10 y0 y1 B10 X10=>?_⟩
    have S10:=S9.take B10 X10
    refine ⟨c.sg,_,rfl,vY.k (k:=.inl y) S10.r1 (by rw [ah];exact jh (by have:=S10.O.k3;right)),?_⟩
    exact ⟨_,{ c with sk:=xR c.sk y t },rfl,S10.single y0 y1 (X10 _ _ ht (S9.B.ne_tup ht)) hg (),aH (ux _ _ _) (),hl⟩
   ·rintro σ H2 ⟨x,c,rfl,S,hk,hl⟩
    exact ⟨x,c,rfl,S,hl⟩
  clear S5 k5 l5
  rintro σ H6 ⟨x,c,rfl,S6,l6⟩
  left
  refine ⟨by show 3<=sizeLine;decide,λl7 H7 hl7 hl77 s7=>?_⟩
  have S7:=S6.same s7
  have l7b:l7≠b:=S6.B.ne hl7
  left
  refine ⟨L,b,_,rfl,S7.B,⟨⋯,⋯⟩,λv8 H8 p8 q8 B8 X8=>?_⟩
  have S8:=S7.take B8 X8
  obtain ⟨n,hn,n0,n1⟩:=WW p8 q8
  refine ⟨_,_,_,_,rfl,rfl,SqL.of (X8 _ _ hl77 l7b),hn,?_⟩
  left
  refine ⟨L,b,_,rfl,S8.B,⟨n0,()⟩,λv9 H9 p9 q9 B9 X9=>?_⟩
  have S9:=S8.take B9 X9
  left
  refine ⟨(),(),?_⟩
  refine xu (λi σ H2=>∃(x y:Option V) (c:ScN),σ=[some (.ref b),some (.ref p),some (.ref sd),x,y]/\ScB L b H H2 sd c/\∀x∈c.lds,x.2.length<=i) ?_ ?_ ?_
  ·exact ⟨x,none,c,rfl,S9,λx hx=>by rw [l6 x hx];exact ar _⟩
  ·rintro i σ H2 hi ⟨x,y',c,rfl,S,hl⟩
   have hw1:1<=c.ws.length:=by
    rw [S.O.ro.length]
    exact JL (qk S.O.gr.ok) S.O.l1
   have hzl:c.zs.length=c.ws.length:=(aT S.S.gi).trans (ah _)
   have hw6:c.ws.length<=6:=by rw [S.O.ro.length];exact S.O.gr.heads
   left
   refine ⟨sd,.ref c.gl,rfl,by rw [<- qU c.p c.q c.sg c.gl c.ll];exact qR.k (k:=.inr "grounds") S.S.sd,?_⟩
   left
   refine ⟨c.gl,_,rfl,.inl (SqL.of S.S.gl),?_⟩
   left
   refine ⟨L,b,_,rfl,S.B,⟨(),()⟩,λln H10 ln0 ln1 B10 X10=>?_⟩
   have S10:=S.take B10 X10
   left
   refine ⟨by show 2<=sizeLine;decide,λl11 H11 hl11 hl11' s11=>?_⟩
   have S11:=S10.same s11
   have l11b:l11≠b:=S10.B.ne hl11
   left
   refine ⟨L,b,_,rfl,S11.B,⟨⋯,⋯⟩,λv12 H12 p12 q12 B12 X12=>?_⟩
   have S12:=S11.take B12 X12
   obtain ⟨n,hn,n0,n1⟩:=Ai p12 q12
   refine ⟨_,_,_,_,rfl,rfl,SqL.of (X12 _ _ hl11' l11b),hn,?_⟩
   left
   refine ⟨L,b,_,rfl,S12.B,⟨n0,()⟩,λv13 H13 p13 q13 B13 X13=>?_⟩
   have S13:=S12.take B13 X13
   left
   have hll:ln.toNat<c.lds.length:=by rw [S.O.ldl];right
   obtain ⟨⟨a,ns⟩,ha⟩:∃z,c.lds[ln.toNat]? = some z:=⟨_,af hll⟩
   refine ⟨sd,.ref c.ll,rfl,by rw [<- gq c.p c.q c.sg c.gl c.ll];exact qR.k (k:=.inr "leaps") S13.S.sd,?_⟩
   left
   refine ⟨_,_,_,_,rfl,rfl,SqL.of S13.S.ll,qQ ln0 (v:=V.ref a) (by rw [aA,ha];rfl),?_⟩
   left
   refine ⟨L,b,rfl,S13.B,λy H14 y0 y1 B14 X14=>?_⟩
   have S14:=S13.take B14 X14
   have hns:=hl _ (az ha)
   refine ⟨a,_,rfl,vY.k (k:=.inl y) (S14.r2 _ (az ha)) (by rw [ah];exact jh (by have:ns.length<=i:=hns;right)),?_⟩
   have hns:ns.length<=i:=hns
   refine ⟨_,_,{ c with lds:=c.lds.set ln.toNat (a,xR ns y (1+v13)) },rfl,S14.leap ha y0 y1 () () (),λx hx=>?_⟩
   rcases uI S.O.nd ha hx with z | ⟨z,_⟩
   ·subst z
    exact aH (ux _ _ _) ()
   ·exact Nat.le_succ_of_le (hl x z)
  ·rintro σ H2 ⟨x,y',c,rfl,S,hl⟩
   left
   exact k sd H2 c S.B S.X S.S S.O
theorem IceNew.made {p dx:Addr}{H:Hp}(hp:H p=none) (hd:H dx=none) (I:IceNew C Pt (upd (upd H dx o) p o') H' p g):IceNew C Pt H H' p g:=by
 have s:jj H (upd (upd H dx o) p o'):=λc u h=>by rw [j7 (j1 h hp),j7 (j1 h hd)];exact h
 exact ⟨I.at_,λc u h n m=>I.keep c u (s c u h) n m,s.free I.va,s.free I.cy,s.free I.sl,s.free I.ye,s.free I.le,λa z=>s.free (I.zs a z),I.kvs,λx hx=>⟨s.free (I.lds x hx).1,(I.lds x hx).2⟩,I.ll,I.nd,I.ny,I.sl2⟩
structure IceFr (H:Hp) (p:Addr) (g:IceG):Prop where
 p:H p=none
 va:H g.va=none
 cy:H g.cy=none
 sl:H g.sl=none
 ye:H g.ye=none
 le:H g.le=none
 zs:∀a,V.ref a∈g.zs->H a=none
 lds:∀x∈g.lds,H x.1=none
theorem IceAt.stay {p:Addr}{H3:Hp}(I:IceAt C H2 p g) (F:IceFr H p g) (f:∀a o,H2 a=some o->H a=none->H3 a=some o) (t:ji H2 H3):IceAt C H3 p g :=
 ⟨f _ _ I.ob F.p,f _ _ I.va F.va,I.rs.keep t,f _ _ I.cy F.cy,I.rows.imp λ_ _ q=>t _ _ q,f _ _ I.sl F.sl,pmM I.slopes λv hv w ⟨a,ea,q⟩=>⟨a,ea,f _ _ q (F.zs a (ea ▸ hv))⟩,f _ _ I.ye F.ye,f _ _ I.le F.le,λx hx=>f _ _ (I.lds x hx) (F.lds x hx)⟩
theorem Fr3.ext {N:Addr->Prop}(f:Fr3 N M H H2) (e:Ext a H2 H3) (ha:H a=none):Fr3 N M H H3:=λc o h n=>by
 have ca:c≠a:=j1 h ha
 rcases f c o h n with q | ⟨m,ob,kvs,eo,q⟩
 ·exact .inl (e _ _ q ca)
 ·exact .inr ⟨m,ob,kvs,eo,e _ _ q ca⟩
theorem Fr3.same {N:Addr->Prop}(f:Fr3 N M H H2) (e:jj H2 H3):Fr3 N M H H3:=λc o h n=>by
 rcases f c o h n with q | ⟨m,ob,kvs,eo,q⟩
 ·exact .inl (e _ _ q)
 ·exact .inr ⟨m,ob,kvs,eo,e _ _ q⟩
theorem Fr3.frz {N:Addr->Prop}{ob:Obj}{kvs:List (Key×V)}(f:Fr3 N M H H2) (h:H2 a=some (.dK kvs)) (m:M a):Fr3 N M H (upd H2 a (.frz ob (.dK kvs))):=λc o hc n=>by
 by_cases e:c=a
 ·subst e
  rcases f c o hc n with q | ⟨_,ob',kvs',eo,q⟩
  ·rw [h] at q
   cases q
   exact .inr ⟨m,ob,kvs,rfl,j6⟩
  ·rw [h] at q
   cases q
 ·rw [j7 e]
  exact f c o hc n
theorem Ve {H:Hp}(h:H a=some (.dK kvs)):ji H (upd H a (.frz ob (.dK kvs))):=λc xs q=>by rw [j7 (jn q h (by walk_at "z"))];exact q
theorem WS (T:qJ H Pt) (h:H a=some (.dK kvs)):qJ (upd H a (.frz ob (.dK kvs))) Pt:=by
 rcases T with q | ⟨c,q,q'⟩
 ·exact .inl (by rw [j7 (jn q h (by walk_at "z"))];exact q)
 ·exact .inr ⟨c,by rw [j7 (jn q h (by walk_at "z"))];exact q,by rw [j7 (jn q' h (by walk_at "z"))];exact q'⟩
theorem QX (T:qJ H Pt) (h:H a=some (.dK kvs)) (e:Ext a H H'):qJ H' Pt:=by
 rcases T with q | ⟨c,q,q'⟩
 ·exact .inl (e _ _ q (jn q h (by walk_at "z")))
 ·exact .inr ⟨c,e _ _ q (jn q h (by walk_at "z")),e _ _ q' (jn q' h (by walk_at "z"))⟩
theorem ES {ns:List (Int×Addr)}{i:Nat}(h:(ns.map kvA)[i]? = some q):∃z,ns[i]? = some z/\q=kvA z:=by
 rw [aA] at h
 cases e:ns[i]? with
 | none=>rw [e] at h;cases h
 | some z=>rw [e] at h;cases h;exact ⟨z,rfl,rfl⟩
theorem vD:∀{ns:List (Int×Addr)},(ns.map (·.1)).Nodup->∀{z:Int×Addr},z∈ns->jZ (ns.map kvA) (.inl z.1)=some (.ref z.2)
 | [],_,z,h=>by cases h
 | q::r,nd,z,h=>by
  rw [aM] at nd
  obtain ⟨h1,h2⟩:=List.nodup_cons.mp nd
  rw [aM]
  rcases List.mem_cons.mp h with e | e
  ·subst e
   exact xo
  ·have ne:¬q.1=z.1:=λw=>h1 (by rw [w];exact bK e)
   show jZ ((.inl q.1,.ref q.2)::r.map kvA) (.inl z.1)=_
   rw [jw (λw=>ne (dW w))]
   exact vD h2 e
theorem We {α:Type}{l:List (Int×α)}{y:Int}{a:α}(h:y∉l.map (·.1)):xR l y a=l++[(y,a)]:=by
 unfold xR
 rw [if_neg]
 intro z
 obtain ⟨u,hu,e⟩:=List.any_eq_true.mp z
 exact h (of_decide_eq_true e ▸ bK hu)
theorem Zp {α:Type}{l:List (Int×α)}(nd:(l.map (·.1)).Nodup) {i:Nat}{z:Int×α}(h:l[i]? = some z):z.1∉(l.take i).map (·.1):=λm=>by
 obtain ⟨hi,e⟩:=List.getElem?_eq_some_iff.mp h
 obtain ⟨u,hu,eu⟩:=List.mem_map.mp m
 obtain ⟨j,hj,ej⟩:=List.mem_iff_getElem.mp hu
 rw [aK] at hj
 rw [pV] at ej
 have h1:(l.map (·.1))[j]'(by rw [ah];right)=(l.map (·.1))[i]'(by rw [ah];exact hi):=by rw [dS,dS,ej,e,eu]
 exact absurd h1 (List.pairwise_iff_getElem.mp nd j i _ _ ())
theorem X0 {α:Type}{f:α->V}{l:List (Int×α)}(nd:(l.map (·.1)).Nodup) {i:Nat}{z:Int×α}(h:l[i]? = some z):qC ((l.take i).map λz=>((.inl z.1,f z.2):Key×V)) (.inl z.1) (f z.2)=(l.take (i+1)).map λz=>((.inl z.1,f z.2):Key×V):=by
 rw [gz f,We (Zp nd h),bS,h]
 rfl
structure LdN (g0:List (Addr×List (Key×V))) (cl:List (Addr×List (Int×Int))) (i n:Nat) (lds:List (Addr×List (Key×V))):Prop where
 fst:lds.map (·.1)=g0.map (·.1)
 at_:∀j x,lds[j]? = some x->∃y,cl[j]? = some y/\x.2=(if j<i then y.2 else if j=i then y.2.take n else []).map kvI
theorem LdN.len {lds:List (Addr×List (Key×V))}{cl:List (Addr×List (Int×Int))}{i n:Nat}(h:LdN g0 cl i n lds):lds.length=g0.length:=by
 have:=congrArg fI h.fst
 rwa [ah,ah] at this
theorem LdN.next {lds:List (Addr×List (Key×V))}{cl:List (Addr×List (Int×Int))}{i n:Nat}(h:LdN g0 cl i n lds) (hy:cl[i]? = some y) (hn:y.2.length<=n):LdN g0 cl (i+1) 0 lds:=⟨h.fst,λj x hx=>by
 obtain ⟨u,hu,e⟩:=h.at_ j x hx
 refine ⟨u,hu,?_⟩
 rw [e]
 by_cases a:j<i
 ·rw [if_pos a,if_pos ()]
 ·rw [if_neg a]
  by_cases b:j=i
  ·subst b
   rw [hy] at hu
   cases hu
   rw [if_pos rfl,if_pos (),cR hn]
  ·rw [if_neg b,if_neg ()]
   split
   ·rfl
   ·rfl⟩
theorem LdN.put {lds:List (Addr×List (Key×V))}{cl:List (Addr×List (Int×Int))}{i n:Nat}{a:Addr}{kvs:List (Key×V)}(h:LdN g0 cl i n lds) (hy:cl[i]? = some y) (nd:(y.2.map (·.1)).Nodup) (hz:y.2[n]? = some z) (ha:lds[i]? = some (a,kvs)):LdN g0 cl i (n+1) (vc lds i (qC kvs (.inl z.1) (.int z.2))):=by
 obtain ⟨u,hu,e⟩:=h.at_ i _ ha
 rw [hy] at hu
 cases hu
 rw [if_neg (cK i),if_pos rfl] at e
 have e2:qC kvs (.inl z.1) (.int z.2)=(y.2.take (n+1)).map kvI:=by
  rw [show kvs=(y.2.take n).map kvI from e]
  exact X0 (f:=V.int) nd hz
 refine ⟨?_,λj x hx=>?_⟩
 ·rw [<- h.fst]
  unfold vc
  rw [ao,ha]
  exact Yi ha
 ·unfold vc at hx
  rw [ia] at hx
  by_cases b:i=j
  ·subst b
   rw [if_pos rfl,if_pos (List.getElem?_eq_some_iff.mp ha).1] at hx
   cases hx
   exact ⟨y,hy,by rw [if_neg (cK i),if_pos rfl];exact e2⟩
  ·rw [if_neg b] at hx
   obtain ⟨u,hu,e⟩:=h.at_ j x hx
   refine ⟨u,hu,?_⟩
   rw [e]
   by_cases c:j<i
   ·rw [if_pos c,if_pos c]
   ·rw [if_neg c,if_neg c,if_neg (λq=>b q.symm),if_neg (λq=>b q.symm)]
theorem ScAt.fr {Pt sd:Addr}{H H':Hp}{c:ScN}(S:ScAt H sd c) (T:qJ H Pt) (f:Fr3 (λa=>a=Pt) c.D H H'):ScAt H' sd c:=by
 obtain ⟨ps,hP⟩:=T.ne
 have n:∀{a:Addr} {o:HO},H a=some o->(∀ps,o≠.tbl ps)->¬a=Pt:=λh q=>jn h hP (q _)
 have nr:∀{a:Addr} {kvs:List (Key×V)},Rd H a (.dK kvs)->¬a=Pt:=λh=>by
  rcases h with h | ⟨o,h⟩
  ·exact n h (by walk_at "w")
  ·exact n h (by walk_at "w")
 exact S.keep f (λa xs h=>n h (by walk_at "w")) (n S.sd (by walk_at "w")) S.nD (n S.p (by walk_at "w")) (n S.q (by walk_at "w")) (n S.gl (by walk_at "w")) (n S.ll (by walk_at "w")) (λa h=>by
  obtain ⟨w,a',e,q⟩:=pm S.gi _ h
  cases e
  exact n q (by walk_at "w")) (nr S.sg) λx hx=>nr (S.ld x hx)
theorem ScAt.inD {sd:Addr}(S:ScAt H sd c) (h:c.D a):∃o,H a=some o:=by
 have r:∃kvs,Rd H a (.dK kvs):=by
  rcases h with h | ⟨x,hx,e⟩
  ·exact ⟨_,h ▸ S.sg⟩
  ·exact ⟨_,e ▸ S.ld x hx⟩
 obtain ⟨_,r | ⟨o,r⟩⟩:=r
 ·exact ⟨_,r⟩
 ·exact ⟨_,r⟩
theorem W0 (f:Fz a kvs o H H4):ji H H4:=λc xs q=>by
 rcases f.2 with rfl | ⟨h,rfl⟩
 ·exact q
 ·exact Ve h c xs q
theorem Ae (f:Fz a kvs o H2 H4) (r:Fr3 N M H H2) (m:M a):Fr3 N M H H4:=by
 rcases f.2 with rfl | ⟨h,rfl⟩
 ·exact r
 ·exact r.frz h m
theorem Ev (f:Fz a kvs o H H4) (T:qJ H Pt):qJ H4 Pt:=by
 rcases f.2 with rfl | ⟨h,rfl⟩
 ·exact T
 ·exact WS T h
structure MdI (C Pt p:Addr) (c:ScN) (H H2:Hp) (g:IceG):Prop where
 I:IceAt C H2 p g
 F:IceFr H p g
 R:Fr3 (λa=>a=Pt) c.D H H2
 T:qJ H2 Pt
theorem MdI.frz {p sd:Addr}{kvs:List (Key×V)}(M:MdI C Pt p c H H2 g) (S:ScAt H sd c) (h:c.D a) (f:Fz a kvs o H2 H4):MdI C Pt p c H H4 g:=by
 obtain ⟨_,ha⟩:=S.inD h
 exact ⟨M.I.stay M.F (λb u hb n=>f.at hb (j1 ha n).symm) (W0 f),M.F,Ae f M.R h,Ev f M.T⟩
theorem MdI.same {p:Addr}(M:MdI C Pt p c H H2 g) (s:jj H2 H4):MdI C Pt p c H H4 g:=⟨M.I.same s,M.F,M.R.same s,M.T.same s⟩
theorem LdN.mem {g0 lds:List (Addr×List (Key×V))}{cl:List (Addr×List (Int×Int))}{i n:Nat}(h:LdN g0 cl i n lds) {x:Addr×List (Key×V)}(hx:x∈lds):∃y∈g0,y.1=x.1:=by
 have:x.1∈g0.map (·.1):=h.fst ▸ bK hx
 obtain ⟨y,hy,e⟩:=List.mem_map.mp this
 exact ⟨y,hy,e⟩
noncomputable def UP (C Pt:Addr):Sp:=λvs H Q _=>∃(sd b:Addr) (c:ScN),vs=[.ref sd]/\ScAt H sd c/\ScOk b c/\qJ H Pt /\
 ∀p H' g,IceAt C H' p g->IceFr H p g->Fr3 (λa=>a=Pt) c.D H H'->qJ H' Pt->g.rs=c.rs->g.rows=c.ts->g.slopes=c.ws.map (jb c.rs)->g.kvs=c.sk.map kvA->g.lds.length=c.lds.length->(∀(l:Nat) x,g.lds[l]? = some x->∃y,c.lds[l]? = some y/\x.2=y.2.map kvI)->(∀x∈g.lds,x.1≠g.ye)->(g.lds.map (·.1)).Nodup->Q (.ref p) H'
theorem xx:FnScope ["_law_scene_here","_law_ice","_law_year_here","_law_lane","_law_leaps"] ["_law_scene_here"] (j8 ur):=by walk_at "s"
theorem Go {CR:Addr}(nb:Nb2 mg) (cl_Ice:Cls K C) (c_Ice:MakX P w K mg base 8 C "Ice" ["self","reaches","rows"] (Wd C CV CR Pt)) (c_Ice__tell:CalMX P w K mg base 2 C "tell" ["self","year","row"] (UA C CY CW)) (c_Ice__surge:CalMX P w K mg base 2 C "surge" ["self","lane","year","many"] (Yx C CN CY CS)) (F:Fun K "_law_made" "_law_made" ur f fd):FnOk P w K mg base CX0 10 f fd ["_law_scene_here"] (UP C Pt):=by
 refine F.ok xx (λvs H Q E h=>?_) (λcdv A outer s H vs Q E hr h=>?_)
 ·obtain ⟨sd,b,c,rfl,_⟩:=h
  rfl
 ·obtain ⟨sd,b,c,rfl,S,O,T,k⟩:=h
  refine ⟨_,(j4 (jr 1 xx.nd (WU c_Ice (hr.mono ⋯) Qw rfl (j0 (qA (qu K) rfl nb.b_list bT (j0 (jH (jO hr) (pv 0) jt (λ_ _=>rfl)) j2)) (j0 (qA (qu K) rfl nb.b_list bT (j0 (jH (jO hr) (pv 0) jt (λ_ _=>rfl)) j2)) j2))))
   (j4 (qw aX rfl (k9 (jH (jO hr) (pv 0) jt (λ_ _=>rfl))) (ja (i:=2) xx.nd rfl (aQ rfl)) (j9 (jP (yk (pv 1) cl_Ice c_Ice__tell (hr.mono ⋯) Qw (j0 (pv 2) (j0 (jH (jO hr) (jH (jO hr) (pv 0) jt (λ_ _=>rfl)) (pv 2) (λ_ _=>rfl)) j2))))))
   (j4 (qw aX rfl (km K rfl nb.b_enumerate (j0 (jH (jO hr) (pv 0) jt (λ_ _=>rfl)) j2)) (qj (n:=2) K rfl (jm (ja (i:=3) xx.nd rfl (aQ rfl)) (jm (ja (i:=4) xx.nd rfl (aQ rfl)) qh))) (j9 (qw aX rfl (k9 (pv 4)) (ja (i:=2) xx.nd rfl (aQ rfl)) (j9 (jP (yk (pv 1) cl_Ice c_Ice__surge (hr.mono ⋯) Qw (j0 (pv 3) (j0 (pv 2) (j0 (jH (jO hr) (pv 4) (pv 2) (λ_ _=>rfl)) j2)))))))))
   (j9 (jk (pv 1)))))),?_⟩
  left
  refine ⟨sd,.ref c.p,rfl,by rw [<- Zg c.p c.q c.sg c.gl c.ll];exact qR.k (k:=.inr "reaches") S.sd,?_⟩
  refine ⟨_,_,rfl,.inl (SqL.of S.p),λl1 H1 hl1 hl11 s1=>?_⟩
  have S1:=S.same s1
  left
  refine ⟨sd,.ref c.q,rfl,by rw [<- QD c.p c.q c.sg c.gl c.ll];exact qR.k (k:=.inr "rows") S1.sd,?_⟩
  refine ⟨_,_,rfl,.inl (SqL.of S1.q),λl2 H2 hl2 hl22 s2=>?_⟩
  have S2:=S1.same s2
  have s12:=s1.trans s2
  left
  intro p dx hp hd hdp
  have s3:jj H2 (upd (upd H2 dx (.own p)) p (.ins C dx [])):=λc u h=>by rw [j7 (j1 h hp),j7 (j1 h hd)];exact h
  have S3:=S2.same s3
  have egr:gr c.ts=true:=by
   have:=O.t1
   have:=O.t2
   unfold gr
   rw [decide_eq_true (),O.tg]
   rfl
  have eg:=O.gr.good O.l1 O.l8
  refine ⟨p,dx,l1,l2,c.xs,c.ys,c.rs,c.ts,rfl,j6,s3 _ _ (s2 _ _ hl11),S3.rv,s3 _ _ hl22,S3.r3,λr hr=>aH (Yr O.gr r hr) ⋯,aH O.l8 ⋯,aH O.t2 ⋯,(T.same s12).same s3,λH4 g _ _ I e1 e2 e3 e4 T4=>?_,(λH' z _ _=>by rw [eg] at z;cases z),(λH' _ z _ _=>by rw [egr] at z;cases z)⟩
  have I:=I.made hp hd
  obtain ⟨ws,hR,esl⟩:=I.sl2
  rw [e1] at hR esl
  obtain rfl:=hR.unique O.ro
  have F4:IceFr H p g:=⟨s12.free hp,s12.free I.va,s12.free I.cy,s12.free I.sl,s12.free I.ye,s12.free I.le,λa z=>s12.free (I.zs a z),λx hx=>s12.free (I.lds x hx).1⟩
  have M4:MdI C Pt p c H H4 g:=⟨I.at_,F4,λa o h n=>.inl (I.keep a o (s12 _ _ h) (j1 h F4.p) n),T4⟩
  have ll4:g.lds.length=c.lds.length:=by rw [I.ll,esl,ah,O.ldl]
  have nd4:=I.nd
  have ny4:=I.ny
  have kv4:=I.kvs
  have ld4:∀x∈g.lds,x.2=[]:=λx hx=>(I.lds x hx).2
  clear I S3 s3 S2 hl22 hl11 S1 T4
  refine ⟨rfl,?_⟩
  have S4:=S.fr T M4.R
  left
  refine ⟨sd,.ref c.sg,rfl,by rw [<- yf c.p c.q c.sg c.gl c.ll];exact qR.k (k:=.inr "single") S4.sd,?_⟩
  have hsgD:c.D c.sg:=.inl rfl
  refine wv (kvs:=c.sk.map kvA) S4.sg (λo i σ H5=>∃x:Option V,σ=[some (.ref sd),some (.ref p),x,none,none]/\H5 c.sg=some (.frz o (.dK (c.sk.map kvA)))/\MdI C Pt p c H H5 { g with kvs:=(c.sk.take i).map kvA }) ?_ ?_ ?_ ?_
  ·intro o H5 f5
   refine ⟨none,rfl,f5.1,?_⟩
   have:=M4.frz S hsgD f5
   have e:g={ g with kvs:=(c.sk.take 0).map kvA }:=by
    show g={ g with kvs:=[] }
    rw [<- kv4]
   rw [<- e]
   exact this
  ·rintro o i σ H5 hi ⟨x,rfl,h5,M5⟩
   exact h5
  ·rintro o i u σ H5 hq ⟨x,rfl,h5,M5⟩
   obtain ⟨z,hz,rfl⟩:=ES hq
   have hm:=az hz
   have hi:i<c.sk.length:=(List.getElem?_eq_some_iff.mp hz).1
   have h10:=O.k3
   have S5:=S.fr T M5.R
   obtain ⟨r,hr3,hgr⟩:=S5.sk z hm
   obtain ⟨y0,y1⟩:=O.k2 z hm
   show uu 2 (V.int z.1) _ _ _
   left
   refine ⟨p,g.dx,_,rfl,M5.I.ob,qS ∅,?_⟩
   left
   refine ⟨sd,.ref c.sg,rfl,by rw [<- yf c.p c.q c.sg c.gl c.ll];exact qR.k (k:=.inr "single") S5.sd,?_⟩
   left
   refine ⟨c.sg,.ref z.2,rfl,(by rw [<- vD O.k1 hm];exact .inl ⟨_,.inl z.1,.inr ⟨o,h5⟩,rfl,rfl⟩),?_⟩
   refine ⟨p,z.2,_,z.1,r,rfl,M5.I,ny4,hr3,(by rw [ah,aK];right),λH6 _ _ _ X6 I6=>?_,λhb=>absurd hb (),λ_ _ hb=>by rw [hgr] at hb;cases hb⟩
   have e:qC ((c.sk.take i).map kvA) (.inl z.1) (.ref z.2)=(c.sk.take (i+1)).map kvA:=X0 (f:=V.ref) O.k1 hz
   obtain ⟨_,hsg0⟩:=S.inD hsgD
   refine ⟨_,rfl,X6 _ _ h5 (j1 hsg0 F4.ye),?_⟩
   rw [<- e]
   exact ⟨I6,⟨F4.p,F4.va,F4.cy,F4.sl,F4.ye,F4.le,F4.zs,F4.lds⟩,M5.R.ext X6 F4.ye,QX M5.T M5.I.ye X6⟩
  ·rintro o σ H5 ⟨x,rfl,h5,M5⟩
   rw [ah,aY] at M5
   have S5:=S.fr T M5.R
   left
   refine ⟨sd,.ref c.ll,rfl,by rw [<- gq c.p c.q c.sg c.gl c.ll];exact qR.k (k:=.inr "leaps") S5.sd,?_⟩
   left
   refine ⟨⟨_,SqL.of S5.ll⟩,?_⟩
   refine kO (K:=K) (a:=c.ll) (xs:=c.lds.map λx=>V.ref x.1) (λi σ H6=>∃(x y z:Option V) (lds:List (Addr×List (Key×V))),σ=[some (.ref sd),some (.ref p),x,y,z]/\MdI C Pt p c H H6 { g with kvs:=c.sk.map kvA,lds:=lds }/\LdN g.lds c.lds i 0 lds) ?_ ?_ ?_ ?_
   ·refine ⟨x,none,none,g.lds,rfl,M5,rfl,λj x hx=>?_⟩
    have hj:=(List.getElem?_eq_some_iff.mp hx).1
    obtain ⟨y,hy⟩:∃y,c.lds[j]? = some y:=⟨_,af ()⟩
    refine ⟨y,hy,?_⟩
    rw [ld4 x (az hx),if_neg (sv _)]
    split <;> rfl
   ·rintro i σ H6 hi ⟨x,y,z,lds,rfl,M6,L6⟩
    exact SqL.of (S.fr T M6.R).ll
   ·rintro i v σ H6 t hv ⟨x,y,z,lds,rfl,M6,L6⟩ ht
    rw [aA] at hv
    obtain ⟨⟨a,ns⟩,hy,ev⟩:=Option.map_eq_some_iff.mp hv
    subst ev
    have M7:=M6.same (jj.new (o:=.tup [.int i,.ref a]) ht)
    left
    refine ⟨t,_,rfl,SqT.of j6,rfl,?_⟩
    refine ⟨_,_,rfl,_,_,rfl,rfl,?_⟩
    left
    clear M6
    generalize upd H6 t (.tup [.int i,.ref a])=H7 at *
    have S7:=S.fr T M7.R
    have hm:=az hy
    have haD:c.D a:=.inr ⟨_,hm,rfl⟩
    obtain ⟨_,ha0⟩:=S.inD haD
    refine wv (kvs:=ns.map kvI) (S7.ld _ hm) (λo n σ H8=>∃(x:Option V) (lds:List (Addr×List (Key×V))),σ=[some (.ref sd),some (.ref p),x,some (.int i),some (.ref a)]/\H8 a=some (.frz o (.dK (ns.map kvI)))/\MdI C Pt p c H H8 { g with kvs:=c.sk.map kvA,lds:=lds }/\LdN g.lds c.lds i n lds) ?_ ?_ ?_ ?_
    ·intro o H8 f8
     exact ⟨x,lds,rfl,f8.1,M7.frz S haD f8,L6⟩
    ·rintro o n σ H8 hn ⟨x,lds,rfl,h8,M8,L8⟩
     exact h8
    ·clear L6 M7 S7
     rintro o n u σ H8 hq ⟨x,lds,rfl,h8,M8,L8⟩
     obtain ⟨z,hz,rfl⟩:=Ur hq
     have hzm:=az hz
     obtain ⟨y0,y1,m0,m1⟩:=O.m2 _ hm z hzm
     have hl8:=L8.len
     have hi8:i<lds.length:=by
      have:=(List.getElem?_eq_some_iff.mp hy).1
      right
     have hsl:g.slopes.length=lds.length:=by rw [esl,ah,hl8,ll4,O.ldl]
     show uu 2 (V.int z.1) _ _ _
     left
     refine ⟨p,g.dx,_,rfl,M8.I.ob,qS ∅,?_⟩
     left
     refine ⟨a,.int z.2,rfl,(by rw [<- wd (O.m1 _ hm) hzm,<- vG ns z.1 (bK hzm)];exact .inl ⟨_,.inl z.1,.inr ⟨o,h8⟩,rfl,rfl⟩),?_⟩
     refine ⟨p,_,(i:Int),z.1,z.2,rfl,M8.I,hsl.symm,(λx hx=>by obtain ⟨y,hy,e⟩:=L8.mem hx;rw [<- e];exact ny4 y hy),(by show (lds.map (·.1)).Nodup;rw [L8.fst];exact nd4),(λx hx=>?_),λH9 a9 kvs9 _ _ _ _ _ _ ha9 X9 I9=>?_,(λhb=>absurd hb (by show ¬((i:Int)<0\/(g.slopes.length:Int)<=i);right)),(λ_ _ hb=>absurd hb ()),λ_ _ _ _ hb=>absurd hb ()⟩
     ·obtain ⟨j,hj,ex⟩:=List.mem_iff_getElem.mp hx
      obtain ⟨y,hy,e⟩:=L8.at_ j x (by rw [af hj,ex])
      have h10:=O.m3 y (az hy)
      rw [e,ah]
      split
      ·right
      ·split
       ·rw [aK];right
       ·exact aJ _
     ·have ha9:lds[i]? = some (a9,kvs9):=ha9
      have L9:=L8.put hy (O.m1 _ hm) hz ha9
      have a90:H a9=none:=M8.F.lds _ (az ha9)
      refine ⟨_,_,rfl,X9 _ _ h8 (j1 ha0 a90),⟨I9,⟨F4.p,F4.va,F4.cy,F4.sl,F4.ye,F4.le,F4.zs,λx hx=>?_⟩,M8.R.ext X9 a90,QX M8.T (M8.I.lds _ (az ha9)) X9⟩,L9⟩
      obtain ⟨y,hy,e⟩:=L9.mem hx
      rw [<- e]
      exact F4.lds y hy
    ·rintro o σ H8 ⟨x,lds,rfl,h8,M8,L8⟩
     exact ⟨x,_,_,lds,rfl,M8,L8.next hy (by rw [ah];exact ar _)⟩
   ·rintro σ H6 ⟨x,y,z,lds,rfl,M6,L6⟩
    left
    refine k p H6 _ M6.I M6.F M6.R M6.T e1 e2 esl rfl (L6.len.trans ll4) (λl x hx=>?_) (λx hx=>?_) (by show (lds.map (·.1)).Nodup;rw [L6.fst];exact nd4)
    ·obtain ⟨y,hy,e⟩:=L6.at_ l x hx
     refine ⟨y,hy,?_⟩
     rw [e,if_pos (by rw [ah];exact (List.getElem?_eq_some_iff.mp hy).1)]
    ·obtain ⟨y,hy,e⟩:=L6.mem hx
     rw [<- e]
     exact ny4 y hy
theorem wO (h:zK rs=true):1<=rs.length/\rs.length<=8/\wf rs=true/\∀ws,qg rs ws->∀w∈ws,(jb rs w).length<=30:=by
 unfold zK at h
 rw [bb,bb,bb] at h
 obtain ⟨h1,h2,_,h4⟩:=h
 have h1:=of_decide_eq_true h1
 refine ⟨(),(),h2,λws hR w hw=>?_⟩
 obtain ⟨x,hx,e⟩:=hR.mem hw
 have:=of_decide_eq_true (List.all_eq_true.mp h4 x hx)
 have g:=J9 rs w
 rw [<- e] at this
 right
theorem kK (G:Grown rs) {ws:List (List Int)}(R:qg rs ws) {w:List Int}(hw:w∈ws):1<=(jb rs w).length:=by
 obtain ⟨x,hx,e⟩:=R.mem hw
 have hl:=xz hx
 have o:=Qv G.ok (af hl)
 unfold okR at o
 rw [bb,bb] at o
 have o:=of_decide_eq_true o.1.2
 have eh:y3 rs ((x:Int)).toNat=(rs[x]'hl).2:=by
  unfold y3
  rw [bF,ao,af hl]
  rfl
 rw [e,zQ (qk G.ok) hl]
 unfold jb
 rw [aM,lQ,aq,eh]
 right
theorem Gp (B:jU L Ha b) (e:Ext b Ha Hb) (T:qJ Ha Pt):qJ Hb Pt:=by
 obtain ⟨ns,a,r,c,d,h1,_⟩:=B
 exact T.ext h1 e
structure Lw (C L b sd p:Addr) (c:ScN) (g:IceG) (H0 H:Hp):Prop where
 B:jU L H b
 S:ScAt H sd c
 I:IceAt C H p g
 O:ScOk b c
 F:IceFr H0 p g
 B0:jU L H0 b
 S0:ScAt H0 sd c
theorem Lw.same {b sd p:Addr}(W:Lw C L b sd p c g H0 H) (s:jj H H'):Lw C L b sd p c g H0 H':=⟨W.B.same s,W.S.same s,W.I.same s,W.O,W.F,W.B0,W.S0⟩
theorem Lw.take {b sd p:Addr}(W:Lw C L b sd p c g H0 H) (B:jU L H' b) (X:Ext b H H'):Lw C L b sd p c g H0 H' :=
 ⟨B,W.S.ext W.O W.B X,W.I.stay W.F (λa o h n=>X a o h (W.B0.ne n)) (xw W.B X),W.O,W.F,W.B0,W.S0⟩
theorem Lw.fr {b sd p:Addr}(W:Lw C L b sd p c g H0 H) (f:FrM c.D H H'):Lw C L b sd p c g H0 H':=by
 refine ⟨?_,?_,W.I.stay W.F (λa o h n=>?_) (λa xs h=>f.at h (by walk_at "w")),W.O,W.F,W.B0,W.S0⟩
 ·obtain ⟨ns,a,r,c,d,h1,h2,h3,h4⟩:=W.B
  exact ⟨ns,a,r,c,d,f.at h1 (by walk_at "w"),h2,f.at h3 (by walk_at "w"),h4⟩
 ·exact W.S.keep (N:=λ_=>False) (λc o h _=>f c o h) (λ_ _ _ z=>z) id W.S.nD id id id id (λ_ _=>id) id (λ_ _=>id)
 ·rcases f a o h with z | ⟨m,_⟩
  ·exact z
  ·obtain ⟨_,q⟩:=W.S0.inD m
   rw [n] at q
   cases q
theorem Lw.start {C L b sd p Pt:Addr}{c:ScN}{g:IceG}{H2 H3:Hp}(S2:ScAt H2 sd c) (O:ScOk b c) (B2:jU L H2 b) (T2:qJ H2 Pt) (I3:IceAt C H3 p g) (F3:IceFr H2 p g) (R3:Fr3 (λa=>a=Pt) c.D H2 H3):Lw C L b sd p c g H2 H3:=by
 refine ⟨?_,S2.fr T2 R3,I3,O,F3,B2,S2⟩
 obtain ⟨ps,hP⟩:=T2.ne
 obtain ⟨ns,a,r,c,d,h1,h2,h3,h4⟩:=B2
 exact ⟨ns,a,r,c,d,R3.at h1 (jn h1 hP (by walk_at "z")) (by walk_at "w"),h2,R3.at h3 (jn h3 hP (by walk_at "z")) (by walk_at "w"),h4⟩
structure Lk (c:ScN) (g:IceG):Prop where
 rs:g.rs=c.rs
 rows:g.rows=c.ts
 sl:g.slopes=c.ws.map (jb c.rs)
 kv:g.kvs=c.sk.map kvA
 ll:g.lds.length=c.lds.length
 ld:∀(l:Nat) x,g.lds[l]? = some x->∃y,c.lds[l]? = some y/\x.2=y.2.map kvI
 ny:∀x∈g.lds,x.1≠g.ye
 nd:(g.lds.map (·.1)).Nodup
structure LaneF (c:ScN) (g:IceG) (ln:Int) (wy:List Int) (da:Addr) (dn:List (Int×Int)):Prop where
 way:c.ws[ln.toNat]? = some wy
 sl:g.slopes.getD ln.toNat []=jb c.rs wy
 g1:1<=(jb c.rs wy).length
 g30:(jb c.rs wy).length<=30
 cd:c.lds[ln.toNat]? = some (da,dn)
 D:c.D da
 nd:(dn.map (·.1)).Nodup
 b:∀q∈dn,0<=q.1/\q.1<=99/\1<=q.2/\q.2<=9
 l10:dn.length<=10
 at_:V1 g ln dn
 l0:0<=ln
 l1:ln<(g.slopes.length:Int)
theorem Lk.lane {b:Addr}(k:Lk c g) (O:ScOk b c) {ln:Int}(h0:0<=ln) (h1:ln<(c.ws.length:Int)):∃wy da dn,LaneF c g ln wy da dn:=by
 have hi:ln.toNat<c.ws.length:=()
 have hwy:=af hi
 have hgs:g.slopes[ln.toNat]? = some (jb c.rs (c.ws[ln.toNat]'hi)):=by rw [k.sl,aA,hwy];rfl
 have hl:g.slopes.length=c.ws.length:=by rw [k.sl,ah]
 obtain ⟨⟨da,dn⟩,hda⟩:∃z,c.lds[ln.toNat]? = some z:=⟨_,af (by rw [O.ldl];right)⟩
 have hdm:=az hda
 obtain ⟨⟨da2,dk⟩,hda2⟩:∃z,g.lds[ln.toNat]? = some z:=⟨_,af (by rw [k.ll,O.ldl];right)⟩
 obtain ⟨_,q1,q2⟩:=k.ld _ _ hda2
 rw [hda] at q1
 cases q1
 obtain rfl:dk=dn.map kvI:=q2
 have hm:=c8 hi
 have h10:dn.length<=10:=O.m3 _ hdm
 exact ⟨_,da,dn,hwy,by rw [ao,hgs];rfl,kK O.gr O.ro hm,(wO (O.gr.good O.l1 O.l8)).2.2.2 c.ws O.ro _ hm,hda,.inr ⟨_,hdm,rfl⟩,O.m1 _ hdm,O.m2 _ hdm,h10,⟨h0,(),⟨da2,hda2⟩,O.m1 _ hdm,(),λq hq=>by have:=O.m2 _ hdm q hq;right⟩,h0,()⟩
theorem LaneF.pos {ln:Int}{dn:List (Int×Int)}(L:LaneF c g ln wy da dn):∀q∈dn,0<=q.1/\0<=q.2:=λq hq=>by have:=L.b q hq;right
theorem XZ {ns:List (Int×Int)}(h:∀q∈ns,0<=q.2) {y z:Int}(yz:y<=z):jg ns y<=jg ns z:=by
 induction ns with
 | nil=>exact iJ _
 | cons q r ih =>
  rw [qe,qe]
  have a:=h q (aB ..)
  have b:=ih λz hz=>h z (aF _ hz)
  by_cases e:q.1<=y
  ·rw [if_pos e,if_pos ()];right
  ·rw [if_neg e]
   split <;> right
theorem zS {ns ms:List (Int×Int)}(p:ms.Perm ns) (s:(ms.map (·.1)).Pairwise (· <= ·)) (nd:(ns.map (·.1)).Nodup) (h:∀q∈ns,0<=q.1/\0<=q.2) (one len y:Int) (hy:0<=y):(0<=y+jg ns y-one/\y+jg ns y-one<len)↔(jq 0 0 ms one<=y/\y<jq 0 0 ms (one+len)):=by
 have hm:∀q∈ms,0<=q.1/\0<=q.2:=λq hq=>h q (p.mem_iff.mp hq)
 have ndm:(ms.map (·.1)).Nodup:=(p.map (·.1)).nodup_iff.mpr nd
 have st:=xA s ndm
 have key:∀goal:Int,(goal<=y+jg ns y↔jq 0 0 ms goal<=y):=λgoal=>by
  have:=JY ms 0 0 goal y hm st hy
  rw [yy p,Int.add_zero] at this
  exact this
 have a:=key one
 have b:=key (one+len)
 constructor
 ·rintro ⟨c,d⟩
  refine ⟨a.mp (),?_⟩
  have:=mt b.mpr ()
  right
 ·rintro ⟨c,d⟩
  have a':=a.mpr c
  have b':=mt b.mp ()
  right
theorem zR {ns ms:List (Int×Int)}(p:ms.Perm ns) (s:(ms.map (·.1)).Pairwise (· <= ·)) (h:∀q∈ns,0<=q.1/\0<=q.2) (goal:Int):0<=jq 0 0 ms goal:=gS ms 0 0 goal (λq hq=>(h q (p.mem_iff.mp hq)).1) s
theorem Ye {ns ms:List (Int×Int)}(p:ms.Perm ns) (s:(ms.map (·.1)).Pairwise (· <= ·)) (nd:(ns.map (·.1)).Nodup) (h:∀q∈ns,0<=q.1/\0<=q.2) (one len:Int) (hl:jq 0 0 ms one<jq 0 0 ms (one+len)):jq 0 0 ms (one+len)-1-jq 0 0 ms one<len:=by
 have f0:=zR p s h one
 have a:=(zS p s nd h one len _ f0).mpr ⟨iJ _,hl⟩
 have b:=(zS p s nd h one len (jq 0 0 ms (one+len)-1) ()).mpr ⟨(),()⟩
 have m:=XZ (λq hq=>(h q hq).2) (y:=jq 0 0 ms one) (z:=jq 0 0 ms (one+len)-1) ()
 right
noncomputable def Uk:Sp:=λvs H Q _=>∃(L b sd:Addr) (c:ScN),vs=[.ref b,.ref sd]/\jU L H b/\ScAt H sd c/\ScOk b c/\1<=c.ws.length/\c.ws.length<=6/\(∀w∈c.ws,1<=(jb c.rs w).length/\(jb c.rs w).length<=30) /\
 ∀(ln n:Int) (w:List Int) (t:Addr) (H':Hp),0<=ln->ln<(c.ws.length:Int)->c.ws[ln.toNat]? = some w->0<=n->n<((jb c.rs w).length:Int)->jU L H' b->Ext b H H'->H t=none->H' t=some (.tup [.int ln,.int n])->Q (.ref t) H'
theorem wD:FnScope ["_law_box_here","_law_scene_here","_law_lane"] ["_law_box_here","_law_scene_here"] (j8 ua):=by walk_at "s"
theorem WC (nb:Nb2 mg) (c_law_take:Cal P w K mg base 2 "_law_take" ["_law_box_here","_law_size"] xH) (F:Fun K "_law_spot" "_law_spot" ua f fd):FnOk P w K mg base CX0 3 f fd ["_law_box_here","_law_scene_here"] Uk:=by
 refine F.ok wD (λvs H Q E h=>?_) (λcdv A outer s H vs Q E hr h=>?_)
 ·obtain ⟨L,b,sd,c,rfl,_⟩:=h
  rfl
 ·obtain ⟨L,b,sd,c,rfl,B,S,O,hw1,hw6,hg,k⟩:=h
  have hzl:c.zs.length=c.ws.length:=(aT S.gi).trans (ah _)
  refine ⟨_,(j4 (jr 2 wD.nd (je c_law_take (hr.mono ⋯) rfl (j0 (pv 0) (j0 (jc (jf K) rfl nb.b_len aR (j0 (jH (jO hr) (pv 1) jt (λ_ _=>rfl)) j2)) j2))))
   (j9 (jk (jI (j0 (pv 2) (j0 (je c_law_take (hr.mono ⋯) rfl (j0 (pv 0) (j0 (jc (jf K) rfl nb.b_len aR (j0 (js (jd K) (jH (jO hr) (pv 1) jt (λ_ _=>rfl)) (pv 2) (λ_ _=>rfl)) j2)) j2))) j2)))))),?_⟩
  left
  refine ⟨sd,.ref c.gl,rfl,by rw [<- qU c.p c.q c.sg c.gl c.ll];exact qR.k (k:=.inr "grounds") S.sd,?_⟩
  left
  refine ⟨c.gl,_,rfl,.inl (SqL.of S.gl),?_⟩
  left
  refine ⟨L,b,_,rfl,B,⟨(),()⟩,λln H1 ln0 ln1 B1 X1=>?_⟩
  have S1:=S.ext O B X1
  have hi:ln.toNat<c.zs.length:=()
  obtain ⟨gw,hgw,ga,ega,hga⟩:=Paired.get S1.gi (af hi)
  rw [aA] at hgw
  obtain ⟨wy,hwy,rfl⟩:=Option.map_eq_some_iff.mp hgw
  have hgb:=hg wy (az hwy)
  left
  refine ⟨sd,.ref c.gl,rfl,by rw [<- qU c.p c.q c.sg c.gl c.ll];exact qR.k (k:=.inr "grounds") S1.sd,?_⟩
  left
  refine ⟨_,_,_,_,rfl,rfl,SqL.of S1.gl,qQ ln0 (v:=V.ref ga) (by rw [af hi,ega]),?_⟩
  left
  refine ⟨ga,_,rfl,.inl (SqL.of hga),?_⟩
  rw [ah]
  left
  refine ⟨L,b,_,rfl,B1,⟨(),()⟩,λn H2 n0 n1 B2 X2=>?_⟩
  left
  refine ⟨by show 2<=sizeLine;decide,λt H3 ht ht3 s3=>?_⟩
  have tb:t≠b:=B2.ne ht
  exact k ln n wy t H3 ln0 () hwy n0 n1 (B2.same s3) ((X1.trans X2).trans (Ext.of_same s3)) (X1.free (X2.free ht tb) tb) ht3
noncomputable def chg (t:T3) (h:Int):Int:=if t.1<=h then t.2.1 else-t.2.2
noncomputable def XH:Sp:=λvs H Q _=>∃(p:Addr) (t:T3) (h:Int),vs=[.ref p,.int h]/\H p=some (yt t)/\Q (.int (chg t h)) H
theorem vI:FnScope ["row","height","line","snow","sun"] ["row","height"] (j8 kT):=by walk_at "s"
theorem Vb (F:Fun K "change" "change" kT f fd):FnOk P w K mg base CX0 1 f fd ["row","height"] XH:=by
 refine F.ok vI (λvs H Q E h=>?_) (λcdv A outer s H vs Q E hr h=>?_)
 ·obtain ⟨p,t,h,rfl,_⟩:=h
  rfl
 ·obtain ⟨p,t,h,rfl,hp,k⟩:=h
  unfold chg at k
  refine ⟨_,(j4 (xF (pv 0) (qj (n:=3) K rfl (jm (ja (i:=2) vI.nd rfl (aQ rfl)) (jm (ja (i:=3) vI.nd rfl (aQ rfl)) (jm (ja (i:=4) vI.nd rfl (aQ rfl)) qh)))))
   (j4 (jS (jA VH (pv 1) (pv 2) (jD _)) (j9 (jk (pv 3))) jx)
   (j9 (jk (vP y7 (pv 4)))))),?_⟩
  left
  refine ⟨p,_,rfl,SqT.of hp,rfl,?_⟩
  refine ⟨_,_,rfl,_,_,rfl,_,_,rfl,rfl,?_⟩
  left
  refine qr (λh1=>?_) (λh1=>?_)
  ·left
   rw [if_pos h1] at k
   exact k
  ·left
   rw [if_neg h1] at k
   exact k
noncomputable def Uo:Sp:=λvs H Q _=>∃(p:Addr) (t:T3) (h:Int),vs=[.ref p,.int h]/\H p=some (yt t)/\Q (.int (chg t h)) H
theorem Xx:FnScope ["_law_row_here","_law_height"] ["_law_row_here","_law_height"] (j8 um):=by walk_at "s"
theorem G5 (F:Fun K "_law_wish" "_law_wish" um f fd):FnOk P w K mg base CX0 1 f fd ["_law_row_here","_law_height"] Uo:=by
 refine F.ok Xx (λvs H Q E h=>?_) (λcdv A outer s H vs Q E hr h=>?_)
 ·obtain ⟨p,t,h,rfl,_⟩:=h
  rfl
 ·obtain ⟨p,t,h,rfl,hp,k⟩:=h
  unfold chg at k
  have hp:H p=some (.tup [.int t.1,.int t.2.1,.int t.2.2]):=hp
  refine ⟨_,(j4 (jS (jA yQ (pv 1) (js (xb K) (pv 0) j5 (λ_ _=>rfl)) (jD _)) (j9 (jk (jo qx j5 (js (xb K) (pv 0) j5 (λ_ _=>rfl))))) jx)
   (j9 (jk (js (xb K) (pv 0) j5 (λ_ _=>rfl))))),?_⟩
  left
  refine qr (λh1=>?_) (λh1=>?_)
  ·left
   rw [if_neg (),show-t.2.2=0-t.2.2 by right] at k
   exact k
  ·left
   rw [if_pos ()] at k
   exact k
noncomputable def zG (H:Hp) (sk:List (Int×Addr)) (wr:List (Int×T3)):Prop:=d0 (λ(z:Int×Addr) (q:Int×T3)=>z.1=q.1/\H z.2=some (yt q.2)) sk wr
theorem zG.keep {sk:List (Int×Addr)}(h:zG H sk wr) (t:ji H H'):zG H' sk wr:=Paired.mapP h λ_ _ ⟨e,q⟩=>⟨e,t _ _ q⟩
theorem zG.of {H:Hp}:∀{sk:List (Int×Addr)},(∀z∈sk,∃t,H z.2=some (yt t)/\good t=true)->∃wr,zG H sk wr
 | [],_=>⟨[],.nil⟩
 | z::r,h=>by
  obtain ⟨t,ht,_⟩:=h z (aB ..)
  obtain ⟨wr,hw⟩:=zG.of (sk:=r) λu hu=>h u (aF _ hu)
  exact ⟨(z.1,t)::wr,.cons ⟨rfl,ht⟩ hw⟩
noncomputable def zu (wr:List (Int×T3)) (ts:List T3) (y:Int):T3 :=
 match wr.find? λq=>decide (q.1=y) with
 | some q=>q.2
 | none=>ts.getD (y % (ts.length:Int)).toNat (0,0,0)
theorem gy {H:Hp}:∀{sk:List (Int×Addr)}{wr:List (Int×T3)},zG H sk wr->∀y:Int,
  (∃a q,jZ (sk.map kvA) (.inl y)=some (.ref a)/\(wr.find? λq=>decide (q.1=y))=some q/\H a=some (yt q.2))\/(jZ (sk.map kvA) (.inl y)=none/\(wr.find? λq=>decide (q.1=y))=none)
 | _,_,.nil,y=>.inr ⟨rfl,rfl⟩
 | z::sk,q::wr,.cons ⟨e,h⟩ r,y=>by
  rw [aM]
  by_cases c:z.1=y
  ·subst c
   exact .inl ⟨z.2,q,xo,by rw [ib (by rw [decide_eq_true e.symm])],h⟩
  ·have e1:jZ (kvA z::sk.map kvA) (.inl y)=jZ (sk.map kvA) (.inl y):=jw λw=>c (dW w)
   have e2:((q::wr).find? λq=>decide (q.1=y))=wr.find? λq=>decide (q.1=y):=ic (by rw [decide_eq_false (by rw [<- e];exact c)];exact au)
   rw [e1,e2]
   exact gy r y
theorem UM (r:jp H ys ts) (h1:1<=ts.length) (y:Int):∃a,atI ys (y % (ys.length:Int))=some (.ref a)/\H a=some (yt (ts.getD (y % (ts.length:Int)).toNat (0,0,0))):=by
 have hl:ys.length=ts.length:=r.length
 have n0:(0:Int)<ts.length:=()
 have m0:=eJ y (show (ts.length:Int)≠0 by right)
 have m1:=dw y n0
 have hi:(y % (ts.length:Int)).toNat<ys.length:=()
 obtain ⟨t,ht,a,ea,ha⟩:=r.get (af hi)
 refine ⟨a,?_,?_⟩
 ·rw [hl]
  exact qQ m0 (by rw [af hi,ea])
 ·rw [ao,ht]
  exact ha
noncomputable def Gy (C:Addr):Sp:=λvs H Q _=>∃(p:Addr) (g:IceG) (y:Int) (sk:List (Int×Addr)) (wr:List (Int×T3)),vs=[.ref p,.int y]/\IceAt C H p g/\g.kvs=sk.map kvA/\zG H sk wr/\1<=g.rows.length/\g.rows.length<=1000/\∀t,H t=some (yt (zu wr g.rows y))->Q (.ref t) H
theorem QQ:FnScope ["self","year"] ["self","year"] (j8 vW):=by walk_at "s"
theorem Xn (nb:Nb2 mg) (T:IceC K C) (F:Fun K "sky" "Ice.sky" vW f fd):FnOk P w K mg base CX0 1 f fd ["self","year"] (Gy C):=by
 refine F.ok QQ (λvs H Q E h=>?_) (λcdv A outer s H vs Q E hr h=>?_)
 ·obtain ⟨p,g,y,sk,wr,rfl,_⟩:=h
  rfl
 ·obtain ⟨p,g,y,sk,wr,rfl,I,ek,hw,h1,h2,k⟩:=h
  have hye:H g.ye=some (.dK (sk.map kvA)):=by rw [<- ek];exact I.ye
  obtain ⟨ra,hra,hrow⟩:=UM I.rows h1 y
  refine ⟨_,(j9 (jk (gg (jO hr) (xq K (pv 0)) (pv 1) (js (jd K) (xq K (pv 0)) (jo zk (pv 1) (jc (jf K) rfl nb.b_len aR (j0 (xq K (pv 0)) j2))) (λ_ _=>rfl)) ⟨rfl,rfl,rfl,rfl⟩))),?_⟩
  left
  refine ⟨p,C,g.dx,_,_,rfl,I.ob,T.cl,T.nY,kW _ _ _ _ _,?_⟩
  left
  refine ⟨.inl ⟨_,.inl hye⟩,?_⟩
  left
  refine ⟨p,C,g.dx,_,_,rfl,I.ob,T.cl,T.nC,gQ _ _ _ _ _,?_⟩
  left
  refine ⟨p,C,g.dx,_,_,rfl,I.ob,T.cl,T.nC,gQ _ _ _ _ _,?_⟩
  left
  refine ⟨g.cy,_,rfl,.inl (SqL.of I.cy),?_⟩
  have hl:g.ys.length=g.rows.length:=I.rows.length
  left
  refine ⟨_,_,_,_,rfl,rfl,SqL.of I.cy,hra,?_⟩
  rcases gy hw y with ⟨a,q,e1,e2,h⟩ | ⟨e1,e2⟩
  ·refine ⟨some (.ref a),by rw [<- e1];exact qR.k (k:=.inl y) hye,?_⟩
   exact k a (by unfold zu;rw [e2];exact h)
  ·refine ⟨none,by rw [<- e1];exact qR.k (k:=.inl y) hye,?_⟩
   exact k ra (by unfold zu;rw [e2];exact hrow)
noncomputable def UZ:Sp:=λvs H Q _=>∃(sd:Addr) (c:ScN) (y:Int) (wr:List (Int×T3)),vs=[.ref sd,.int y]/\ScAt H sd c/\zG H c.sk wr/\1<=c.ts.length/\c.ts.length<=1000/\∀t,H t=some (yt (zu wr c.ts y))->Q (.ref t) H
theorem Zr:FnScope ["_law_scene_here","_law_year_here"] ["_law_scene_here","_law_year_here"] (j8 wj):=by walk_at "s"
theorem EY (nb:Nb2 mg) (F:Fun K "_law_row" "_law_row" wj f fd):FnOk P w K mg base CX0 1 f fd ["_law_scene_here","_law_year_here"] UZ:=by
 refine F.ok Zr (λvs H Q E h=>?_) (λcdv A outer s H vs Q E hr h=>?_)
 ·obtain ⟨sd,c,y,wr,rfl,_⟩:=h
  rfl
 ·obtain ⟨sd,c,y,wr,rfl,S,hw,h1,h2,k⟩:=h
  refine ⟨_,(j4 (jS (Eu (EV (jO hr) (pv 1) (jH (jO hr) (pv 0) jt (λ_ _=>rfl))) (by with_unfolding_all rfl)) (j9 (jk (jH (jO hr) (jH (jO hr) (pv 0) jt (λ_ _=>rfl)) (pv 1) (λ_ _=>rfl)))) jx)
   (j9 (jk (js (jd K) (jH (jO hr) (pv 0) jt (λ_ _=>rfl)) (jo zk (pv 1) (jc (jf K) rfl nb.b_len aR (j0 (jH (jO hr) (pv 0) jt (λ_ _=>rfl)) j2))) (λ_ _=>rfl))))),?_⟩
  obtain ⟨ra,hra,hrow⟩:=UM S.r3 h1 y
  left
  refine ⟨sd,.ref c.sg,rfl,by rw [<- yf c.p c.q c.sg c.gl c.ll];exact qR.k (k:=.inr "single") S.sd,?_⟩
  rcases gy hw y with ⟨a,q,e1,e2,h⟩ | ⟨e1,e2⟩
  ·refine ⟨c.sg,some (.ref a),rfl,.inl ⟨_,.inl y,S.sg,rfl,e1.symm⟩,?_⟩
   left
   refine ⟨sd,.ref c.sg,rfl,by rw [<- yf c.p c.q c.sg c.gl c.ll];exact qR.k (k:=.inr "single") S.sd,?_⟩
   left
   refine ⟨c.sg,.ref a,rfl,.inl ⟨_,.inl y,S.sg,rfl,e1.symm⟩,?_⟩
   exact k a (by unfold zu;rw [e2];exact h)
  ·refine ⟨c.sg,none,rfl,.inl ⟨_,.inl y,S.sg,rfl,e1.symm⟩,?_⟩
   have hl:c.ys.length=c.ts.length:=S.r3.length
   left
   refine ⟨sd,.ref c.q,rfl,by rw [<- QD c.p c.q c.sg c.gl c.ll];exact qR.k (k:=.inr "rows") S.sd,?_⟩
   left
   refine ⟨sd,.ref c.q,rfl,by rw [<- QD c.p c.q c.sg c.gl c.ll];exact qR.k (k:=.inr "rows") S.sd,?_⟩
   left
   refine ⟨c.q,_,rfl,.inl (SqL.of S.q),?_⟩
   left
   refine ⟨_,_,_,_,rfl,rfl,SqL.of S.q,hra,?_⟩
   exact k ra (by unfold zu;rw [e2];exact hrow)
noncomputable abbrev Q4:=Int×Int×Int×Int
noncomputable abbrev tup4 (q:Q4):HO:=.tup [.int q.1,.int q.2.1,.int q.2.2.1,.int q.2.2.2]
noncomputable def yT (H:Hp) (out:List V) (qs:List Q4):Prop:=d0 (λv (q:Q4)=>∃b,v=V.ref b/\H b=some (tup4 q)) out qs
theorem yT.keep {out:List V}(h:yT H out qs) (t:ji H H'):yT H' out qs:=Paired.mapP h λ_ _ ⟨b,e,q⟩=>⟨b,e,t _ _ q⟩
noncomputable def plc (ns:List (Int×Int)) (m y:Int):Int:=y+jg ns y-m
noncomputable def xN (ns:List (Int×Int)) (gd:List Int) (wr:List (Int×T3)) (ts:List T3) (m y:Int):Int:=chg (zu wr ts y) (gd.getD (plc ns m y).toNat 0)
noncomputable def uj (ns:List (Int×Int)) (gd:List Int) (wr:List (Int×T3)) (ts:List T3) (m fst:Int):Nat->Int
 | 0=>0
 | i+1=>uj ns gd wr ts m fst i+(if xN ns gd wr ts m (fst+(i:Int)) > - uj ns gd wr ts m fst i then xN ns gd wr ts m (fst+(i:Int)) else-uj ns gd wr ts m fst i)
noncomputable def zL (ns:List (Int×Int)) (gd:List Int) (wr:List (Int×T3)) (ts:List T3) (m fst:Int) (i:Nat):Q4 :=
 (fst+(i:Int),plc ns m (fst+(i:Int)),(if xN ns gd wr ts m (fst+(i:Int)) > - uj ns gd wr ts m fst i then xN ns gd wr ts m (fst+(i:Int)) else-uj ns gd wr ts m fst i),uj ns gd wr ts m fst (i+1))
noncomputable def wG (ns:List (Int×Int)) (gd:List Int) (wr:List (Int×T3)) (ts:List T3) (m fst:Int) (n:Nat):List Q4:=(aI n).map (zL ns gd wr ts m fst)
noncomputable def xj (ms:List (Int×Int)) (gd:List Int) (wr:List (Int×T3)) (ts:List T3) (m:Int):List Q4:=wG ms gd wr ts m (jq 0 0 ms m) (jq 0 0 ms (m+(gd.length:Int))-jq 0 0 ms m).toNat
theorem ZH (ns:List (Int×Int)) (gd:List Int) (wr:List (Int×T3)) (ts:List T3) (m fst:Int) (n:Nat):wG ns gd wr ts m fst (n+1)=wG ns gd wr ts m fst n++[zL ns gd wr ts m fst n]:=by
 unfold wG
 rw [cG,aG]
 rfl
theorem wE:∀{xs ys:List (Int×Int)},xs.Perm ys->(xs.map (·.1)).Pairwise (· < ·)->(ys.map (·.1)).Pairwise (· < ·)->xs=ys
 | [],ys,p,_,_=>p.nil_eq
 | x::r,[],p,_,_=>absurd p.length_eq (by simp)
 | x::r,y::t,p,hx,hy=>by
  rw [aM,fH] at hx hy
  have e:x=y:=by
   rcases List.mem_cons.mp (p.mem_iff.mpr (aB (a:=y) (l:=t))) with e | e
   ·exact e.symm
   ·rcases List.mem_cons.mp (p.mem_iff.mp (aB (a:=x) (l:=r))) with e2 | e2
    ·exact e2
    ·have a:=hx.1 _ (bK e)
     have b:=hy.1 _ (bK e2)
     right
  subst e
  rw [wE (oX p) hx.2 hy.2]
theorem vU {ns ms os:List (Int×Int)}(nd:(ns.map (·.1)).Nodup) (p:ms.Perm ns) (s:(ms.map (·.1)).Pairwise (· <= ·)) (q:os.Perm ns) (t:(os.map (·.1)).Pairwise (· <= ·)):os=ms :=
 wE (q.trans p.symm) (xA t ((q.map (·.1)).nodup_iff.mpr nd)) (xA s ((p.map (·.1)).nodup_iff.mpr nd))
theorem kZ:∀{ns:List (Int×Int)},(ns.map (·.1)).Nodup->∀y:Int,jg ns (y+1)=jg ns y+qZ ns (y+1)
 | [],_,y=>rfl
 | q::r,nd,y=>by
  rw [aM] at nd
  obtain ⟨h1,h2⟩:=List.nodup_cons.mp nd
  have ih:=kZ h2 y
  rw [qe,qe]
  unfold qZ
  by_cases e:q.1=y+1
  ·have z:qZ r (y+1)=0:=by
    have:∀{l:List (Int×Int)} {y:Int},y∉l.map (·.1)->qZ l y=0:=λ{l}=>by
     induction l with
     | nil=>intro _ _;rfl
     | cons a t ih2 =>
      intro y hy
      rw [aM,eN,not_or] at hy
      unfold qZ
      rw [if_neg (λz=>hy.1 z.symm)]
      exact ih2 hy.2
    exact this (by rw [<- e];exact h1)
   rw [if_pos e,if_pos (),if_neg ()]
   right
  ·rw [if_neg e]
   by_cases l:q.1<=y
   ·rw [if_pos l,if_pos ()];right
   ·rw [if_neg l,if_neg ()];right
theorem JF:∀(ns:List (Int×Int)) (y:Int),(jZ (ns.map kvI) (.inl y)).getD (.int 0) = .int (qZ ns y)
 | [],y=>rfl
 | q::r,y=>by
  rw [aM]
  unfold qZ
  by_cases e:q.1=y
  ·subst e
   rw [if_pos rfl,show jZ (kvI q::r.map kvI) (.inl q.1)=some (.int q.2) from xo]
   rfl
  ·rw [if_neg e,show jZ (kvI q::r.map kvI) (.inl y)=jZ (r.map kvI) (.inl y) from jw λw=>e (dW w)]
   exact JF r y
noncomputable def VJ (C CN:Addr):Sp:=λvs H Q E=>∃(p:Addr) (g:IceG) (l m:Int) (sk:List (Int×Addr)) (wr:List (Int×T3)),vs=[.ref p,.int l,.int m]/\IceAt C H p g/\g.lds.length=g.slopes.length/\g.kvs=sk.map kvA/\zG H sk wr/\1<=g.rows.length/\g.rows.length<=1000 /\
 (∀H',jj H H'->l<0\/(g.slopes.length:Int)<=l->E (.ref CN) none H') /\
 (0<=l->l<(g.slopes.length:Int)->∃ns ms,V1 g l ns/\(∀q∈ns,0<=q.1)/\(g.slopes.getD l.toNat []).length<=100/\ms.Perm ns/\(ms.map (·.1)).Pairwise (· <= ·) /\
  ∀o H' out,H o=none->H' o=some (.lst out)->yT H' out (xj ms (g.slopes.getD l.toNat []) wr g.rows m)->jj H H'->Q (.ref o) H')
theorem xf:FnScope ["ice","lane","mark","years","first","last","surges","leaps","place","rows","lying","year","moved"] ["ice","lane","mark"] (j8 Z0):=by walk_at "s"
theorem Wv (nb:Nb2 mg) (b_dict:mg "dict" = none) (cl_Ice:Cls K C) (c_span:CalX P w K mg base 3 "span" ["ice","lane","mark"] (Ul C CN)) (c_Ice__surges:CalMX P w K mg base 2 C "surges" ["self","lane"] (vE C CN)) (c_ride_by:Cal P w K mg base 1 "ride_by" ["surges","year"] Jd)
  (c_change:Cal P w K mg base 1 "change" ["row","height"] XH) (c_Ice__sky:CalM P w K mg base 1 C "sky" ["self","year"] (Gy C)) (c_Ice__height:CalMX P w K mg base 3 C "height" ["self","lane","place"] (Q5 C CN CP))
  (F:Fun K "life" "life" Z0 f fd):FnOk P w K mg base (CX1 P w) 4 f fd ["ice","lane","mark"] (VJ C CN):=by
 refine Fun.okX F xf (λvs H Q E h=>?_) (λcdv A outer s H vs Q E hr h=>?_)
 ·obtain ⟨p,g,l,m,sk,wr,rfl,_⟩:=h
  rfl
 ·obtain ⟨p,g,l,m,sk,wr,rfl,I,hll,ek,hw,hr1,hr2,kx,k⟩:=h
  refine ⟨_,(j4 (jr 3 xf.nd (xY c_span (hr.mono ⋯) qL rfl (j0 (pv 0) (j0 (pv 1) (j0 (pv 2) j2)))))
   (j4 (jS (jA Ql (pv 3) ul (jD _)) (j9 (jk (jC j2))) jx)
   (j4 (xF (pv 3) (qj (n:=2) K rfl (jm (ja (i:=4) xf.nd rfl (aQ rfl)) (jm (ja (i:=5) xf.nd rfl (aQ rfl)) qh))))
   (j4 (jr 6 xf.nd (yk (pv 0) cl_Ice c_Ice__surges (hr.mono ⋯) qL (j0 (pv 1) j2)))
   (j4 (jr 7 xf.nd (qA (ZA K rfl) rfl b_dict PyProof.Rows.boot_dict (j0 (pv 6) j2)))
   (j4 (jr 8 xf.nd (jo qx (je c_ride_by (hr.mono ⋯) rfl (j0 (pv 6) (j0 (pv 4) j2))) (pv 2)))
   (j4 (jr 9 xf.nd (jC j2))
   (j4 (jr 10 xf.nd j5)
   (j4 (VM (qw aX rfl (Vx rfl nb.b_range (j0 (pv 4) (j0 (jo jT (pv 5) j5) j2))) (ja (i:=11) xf.nd rfl (aQ rfl)) (j4 (jr 12 xf.nd (jc (zx rfl) rfl nb.b_max nW (j0 (vP y7 (pv 10)) (j0 (je c_change (hr.mono ⋯) rfl (j0 (pe_m (pv 0) cl_Ice c_Ice__sky (hr.mono ⋯) (j0 (pv 11) j2)) (j0 (yk (pv 0) cl_Ice c_Ice__height (hr.mono ⋯) Qw (j0 (pv 1) (j0 (pv 8) j2))) j2))) j2))))
   (j4 (Qi (i:=10) xf.nd rfl (aQ rfl) (pv 12) Z2)
   (j4 (jP (xP K b7 bf bg jX (pv 9) (j0 (jI (j0 (pv 11) (j0 (pv 8) (j0 (pv 12) (j0 (pv 10) j2))))) j2)))
   (j9 (Qi (i:=8) xf.nd rfl (aQ rfl) (jo jT j5 (gg (jO hr) (pv 7) (jo jT (pv 11) j5) j5 ⟨rfl,rfl,rfl,rfl⟩)) Z2)))))))
   (j9 (jk (pv 9)))))))))))),?_⟩
  left
  refine ⟨p,g,l,m,rfl,I,hll,kx,λl0 l1=>?_⟩
  obtain ⟨ns,ms,⟨_,_,⟨a,ha⟩,nd,h64,h9⟩,hp0,g100,hp,hs,k⟩:=k l0 l1
  have hpos:∀q∈ns,0<=q.1/\0<=q.2:=λq hq=>⟨hp0 q hq,(h9 q hq).1⟩
  refine ⟨a,ns,ha,nd,h64,λos hos hss fst gon e1 e2=>?_⟩
  obtain rfl:=vU nd hp hs hos hss
  clear hos hss
  refine ⟨λhlt t H1 s1 ht1=>?_,λhlt H1 s1=>?_⟩
  ·have hn:(gon-1+1-fst).toNat=(gon-fst).toNat:=()
   have on:=λw hw=>zS hp hs nd hpos m (g.slopes.getD l.toNat []).length w hw
   have f0:=zR hp hs hpos m
   have spl:=Ye hp hs nd hpos m (g.slopes.getD l.toNat []).length (by rw [<- e1,<- e2];exact hlt)
   unfold xj at k
   rw [<- e1,<- e2] at k spl
   rw [<- e1] at f0
   rw [<- e1,<- e2] at on
   have sper:=λy=>yy hp y
   have ndm:(os.map (·.1)).Nodup:=(hp.map (·.1)).nodup_iff.mpr nd
   have h9m:∀q∈os,0<=q.2/\q.2<=9:=λq hq=>h9 q (hp.mem_iff.mp hq)
   have hlm:os.length<64:=by rw [hp.length_eq];exact h64
   clear e1 e2
   generalize hgd:g.slopes.getD l.toNat []=gd at *
   left
   refine ⟨t,_,rfl,SqT.of ht1,rfl,?_⟩
   refine ⟨_,_,rfl,_,_,rfl,rfl,?_⟩
   left
   refine ⟨p,g.dx,_,rfl,s1 _ _ I.ob,qS ∅,?_⟩
   left
   refine ⟨p,g,l,rfl,I.same s1,hll,(λhb=>absurd hb ()),λ_ _=>⟨a,ns,ha,nd,h64,λso H2 out ms2 hso hso2 hq2 s2 hp2 hs2=>?_⟩⟩
   obtain rfl:=vU nd hp hs hp2 hs2
   left
   refine ⟨so,out,ms2,rfl,SqL.of hso2,hq2,ndm,(),λd H3 hd hd3 s3=>?_⟩
   have hd3:H3 d=some (.dK (ms2.map kvI)):=hd3
   left
   refine ⟨so,out,ms2,fst,rfl,s3 _ _ hso2,gU.same hq2 s3,(),h9m,λH4 s4=>?_⟩
   left
   refine ⟨aJ _,λrw_ H5 hrw hrw5 s5=>?_⟩
   have S4:jj H H4:=((s1.trans s2).trans s3).trans s4
   have d4:=s4 _ _ hd3
   have rw0:H rw_=none:=S4.free hrw
   left
   refine ⟨_,_,rfl,?_⟩
   refine xu (λi σ H6=>∃(x y:Option V) (out6:List V),σ=[some (.ref p),some (.int l),some (.int m),some (.ref t),some (.int fst),some (.int (gon-1)),some (.ref so),some (.ref d),some (.int (plc ms2 m (fst+(i:Int)))),some (.ref rw_),some (.int (uj ms2 gd wr g.rows m fst i)),x,y]/\H6 rw_=some (.lst out6)/\out6.length=i/\yT H6 out6 (wG ms2 gd wr g.rows m fst i)/\Ext rw_ H4 H6) ?_ ?_ ?_
   ·refine ⟨none,none,[],?_,hrw5,rfl,.nil,λc o hc _=>s5 _ _ hc⟩
    rw [show fst+((0:Nat):Int)=fst by right]
    rfl
   ·rintro i σ H6 hi ⟨x,y,out6,rfl,h6,hl6,r6,e6⟩
    rw [hn] at hi
    have y0:0<=fst+(i:Int):=()
    have onp:=(on _ y0).mpr ⟨(),()⟩
    rw [<- sper] at onp
    have onp:0<=plc ms2 m (fst+(i:Int))/\plc ms2 m (fst+(i:Int))<(gd.length:Int):=onp
    have s6:jj H4 H6:=λc o hc=>e6 c o hc (j1 hc hrw)
    have I6:=I.same (S4.trans s6)
    have hw6:zG H6 sk wr:=hw.keep (ji.same (S4.trans s6))
    left
    refine ⟨p,g.dx,_,rfl,I6.ob,qS ∅,?_⟩
    left
    refine ⟨p,g,fst+(i:Int),sk,wr,rfl,I6,ek,hw6,hr1,hr2,λtr htr=>?_⟩
    left
    refine ⟨p,g.dx,_,rfl,I6.ob,qS ∅,?_⟩
    left
    refine ⟨p,g,l,plc ms2 m (fst+(i:Int)),rfl,I6,λ_ _ _ _=>?_,(λhb=>absurd hb ()),λ_ _ hb=>absurd hb (by rw [hgd];right)⟩
    rw [hgd]
    left
    refine ⟨tr,_,_,rfl,htr,?_⟩
    left
    refine ⟨_,_,rfl,?_⟩
    left
    refine ⟨.inl ⟨rfl,_,SqL.of h6⟩,?_⟩
    left
    refine ⟨by show 4<=sizeLine;decide,λtq H7 htq htq7 s7=>?_⟩
    refine ⟨_,_,_,rfl,rfl,s7 _ _ h6,jh (),?_⟩
    have d7:upd H7 rw_ (.lst (out6++[.ref tq])) d=some (.dK (ms2.map kvI)):=by rw [j7 (j1 d4 hrw)];exact s7 _ _ (s6 _ _ d4)
    have tqr:tq≠rw_:=(j1 h6 htq).symm
    left
    refine ⟨.inl ⟨_,.inl d7⟩,?_⟩
    left
    refine ⟨_,qR.k (k:=.inl (fst+(i:Int)+1)) d7,?_⟩
    rw [JF]
    left
    have epl:plc ms2 m (fst+((i+1:Nat):Int))=plc ms2 m (fst+(i:Int))+(1+qZ ms2 (fst+(i:Int)+1)):=by
     have:=kZ ndm (fst+(i:Int))
     rw [show fst+((i+1:Nat):Int)=fst+(i:Int)+1 by right]
     unfold plc
     right
    refine ⟨_,_,out6++[.ref tq],by rw [epl];rfl,j6,by rw [aq,hl6];rfl,?_,λc o hc n=>by rw [j7 n];exact s7 _ _ (e6 c o hc n)⟩
    rw [ZH]
    exact d5 (r6.keep λa xs q=>by rw [j7 (jn (s7 _ _ q) (s7 _ _ h6) (by walk_at "z"))];exact s7 _ _ q) ⟨tq,rfl,by rw [j7 tqr];exact htq7⟩
   ·rintro σ H6 ⟨x,y,out6,rfl,h6,hl6,r6,e6⟩
    rw [hn] at r6
    left
    exact k rw_ H6 out6 rw0 h6 r6 (S4.trans λc o hc=>e6 c o hc (j1 hc hrw))
  ·have hz:(gon-fst).toNat=0:=()
   unfold xj at k
   rw [<- e1,<- e2,hz] at k
   left
   refine ⟨aJ _,λo H2 ho ho2 s2=>?_⟩
   exact k o H2 [] (s1.free ho) ho2 .nil (s1.trans s2)
theorem Y3 (xs:List V) (k:Nat):wS xs none (some (k:Int))=xs.take k:=by
 unfold wS
 rw [HT.sIx_none,HT.sIx_nat,lA,mD]
 by_cases h:k<=xs.length
 ·rw [sG h]
 ·rw [rQ (),cR (ar _)]
  exact (cR ()).symm
theorem Vy (xs:List V) (k:Nat):wS xs (some (k:Int)) none=xs.drop k:=by
 unfold wS
 rw [HT.sIx_none,HT.sIx_nat]
 by_cases h:k<=xs.length
 ·rw [sG h]
  exact cR (by rw [ir];right)
 ·rw [rQ (),mF (ar _),List.take_nil]
  exact (mF ()).symm
theorem gX {gd:List Int}{m:Int}{i:Nat}(h:i<(jq 0 0 ms (m+(gd.length:Int))-jq 0 0 ms m).toNat):(xj ms gd wr ts m)[i]? = some (zL ms gd wr ts m (jq 0 0 ms m) i):=by
 unfold xj wG
 rw [aA,dN h]
 rfl
theorem kX (ms:List (Int×Int)) (gd:List Int) (wr:List (Int×T3)) (ts:List T3) (m:Int):(xj ms gd wr ts m).length=(jq 0 0 ms (m+(gd.length:Int))-jq 0 0 ms m).toNat:=by
 unfold xj wG
 rw [ah,bp]
noncomputable def XN (C CN CP CY:Addr):Sp:=λvs H Q E=>∃(p:Addr) (g:IceG) (l n y:Int) (sk:List (Int×Addr)) (wr:List (Int×T3)),vs=[.ref p,.int l,.int n,.int y]/\IceAt C H p g/\g.lds.length=g.slopes.length/\g.kvs=sk.map kvA/\zG H sk wr/\1<=g.rows.length/\g.rows.length<=1000 /\
 (l<0\/(g.slopes.length:Int)<=l->E (.ref CN) none H)/\(0<=l->l<(g.slopes.length:Int)->n<0\/((g.slopes.getD l.toNat []).length:Int)<=n->E (.ref CP) none H) /\
 (0<=l->l<(g.slopes.length:Int)->0<=n->n<((g.slopes.getD l.toNat []).length:Int)->∃ns ms,V1 g l ns/\(∀q∈ns,0<=q.1)/\(g.slopes.getD l.toNat []).length<=100/\ms.Perm ns/\(ms.map (·.1)).Pairwise (· <= ·)/\(∀H',jj H H'->y<0\/10 ^ 40<y->E (.ref CY) none H') /\
  (0<=y->y<=10 ^ 40->∀t a1 a2 out H',H t=none->H a1=none->H a2=none->H' t=some (.tup [.ref a1,.ref a2])->H' a1=some (.lst (out.take (y-jq 0 0 ms (y+jg ns y-n)).toNat))->H' a2=some (.lst (out.drop (y-jq 0 0 ms (y+jg ns y-n)).toNat))->yT H' out (xj ms (g.slopes.getD l.toNat []) wr g.rows (y+jg ns y-n))->jj H H'->Q (.ref t) H'))
theorem wg:FnScope ["ice","lane","place","year","rows","lived"] ["ice","lane","place","year"] (j8 kL):=by walk_at "s"
theorem YV (cl_Ice:Cls K C) (c_Ice__check_place:CalMX P w K mg base 2 C "check_place" ["self","lane","place"] (yM C CN CP)) (c_ridden:CalX P w K mg base 3 "ridden" ["ice","lane","year"] (XQ C CN CY)) (c_life:CalX P w K mg base 4 "life" ["ice","lane","mark"] (VJ C CN))
  (F:Fun K "parted" "parted" kL f fd):FnOk P w K mg base (CX1 P w) 5 f fd ["ice","lane","place","year"] (XN C CN CP CY):=by
 refine Fun.okX F wg (λvs H Q E h=>?_) (λcdv A outer s H vs Q E hr h=>?_)
 ·obtain ⟨p,g,l,n,y,sk,wr,rfl,_⟩:=h
  rfl
 ·obtain ⟨p,g,l,n,y,sk,wr,rfl,I,hll,ek,hw,hr1,hr2,kl,kp,k⟩:=h
  refine ⟨_,(j4 (jP (yk (pv 0) cl_Ice c_Ice__check_place (hr.mono ⋯) qL (j0 (pv 1) (j0 (pv 2) j2))))
   (j4 (jr 4 wg.nd (xY c_life (hr.mono ⋯) qL rfl (j0 (pv 0) (j0 (pv 1) (j0 (jo qx (xY c_ridden (hr.mono ⋯) qL rfl (j0 (pv 0) (j0 (pv 1) (j0 (pv 3) j2)))) (pv 2)) j2)))))
   (j4 (jr 5 wg.nd (jo qx (pv 3) (js (xb K) (js (jd K) (pv 4) j5 (λ_ _=>rfl)) j5 (λ_ _=>rfl))))
   (j9 (jk (jI (j0 (uA (ww K) (pv 4) kh (ke (pv 5))) (j0 (uA (ww K) (pv 4) (ke (pv 5)) kh) j2)))))))),?_⟩
  left
  refine ⟨p,g.dx,_,rfl,I.ob,qS ∅,?_⟩
  left
  refine ⟨p,g,l,n,rfl,I,λl0 l1 n0 n1=>?_,λhb=>kl hb,λl0 l1 hb=>kp l0 l1 hb⟩
  obtain ⟨ns,ms,hL,hp0,g100,hp,hs,ky,k⟩:=k l0 l1 n0 n1
  have hpos:∀q∈ns,0<=q.1/\0<=q.2:=λq hq=>⟨hp0 q hq,(hL.2.2.2.2.2 q hq).1⟩
  have nd:(ns.map (·.1)).Nodup:=hL.2.2.2.1
  left
  refine ⟨p,g,l,y,rfl,I,hll,(λhb=>absurd hb ()),λ_ _=>⟨ns,hL,ky,λH1 s1 y0 y1=>?_⟩⟩
  have k:=k y0 y1
  have e0:y+jg ns y-(y+jg ns y-n)=n:=()
  have onm:=(zS hp hs nd hpos (y+jg ns y-n) (g.slopes.getD l.toNat []).length y y0).mp (by rw [e0];exact ⟨n0,n1⟩)
  have hlo:=kX ms (g.slopes.getD l.toNat []) wr g.rows (y+jg ns y-n)
  have hg0:=gX (ms:=ms) (gd:=g.slopes.getD l.toNat []) (wr:=wr) (ts:=g.rows) (m:=y+jg ns y-n) (i:=0) ()
  obtain ⟨m,em⟩:∃m,y+jg ns y-n=m:=⟨_,rfl⟩
  rw [em] at k onm hlo hg0
  left
  refine ⟨p,g,l,m,sk,wr,by rw [<- em],I.same s1,hll,ek,hw.keep (ji.same s1),hr1,hr2,(λH' _ hb=>absurd hb ()),λ_ _=>⟨ns,ms,hL,hp0,g100,hp,hs,λo H2 out ho ho2 r2 s2=>?_⟩⟩
  have hol:out.length=(xj ms (g.slopes.getD l.toNat []) wr g.rows m).length:=aT r2
  have h0:0<out.length:=()
  obtain ⟨q0,hq0,b0,ev0,hb0⟩:=Paired.get r2 (af h0)
  rw [hg0] at hq0
  have eq0:q0.1=jq 0 0 ms m:=by
   cases hq0
   show jq 0 0 ms m+((0:Nat):Int)=_
   right
  have hb0:H2 b0=some (.tup [.int q0.1,.int q0.2.1,.int q0.2.2.1,.int q0.2.2.2]):=hb0
  left
  refine ⟨_,_,_,_,rfl,rfl,SqL.of ho2,qQ ⋯ (v:=V.ref b0) (by show out[0]? = _;rw [af h0,ev0]),?_⟩
  left
  have ek2:y-q0.1=(((y-jq 0 0 ms m).toNat:Nat):Int):=by rw [eq0];right
  refine ⟨_,_,rfl,SqL.of ho2,λa1 H3 ha1 ha13 s3=>?_⟩
  left
  refine ⟨_,_,rfl,SqL.of (s3 _ _ ho2),λa2 H4 ha2 ha24 s4=>?_⟩
  have ha13:H3 a1=some (.lst (out.take (y-jq 0 0 ms m).toNat)):=by rw [ha13,<- Y3,<- ek2]
  have ha24:H4 a2=some (.lst (out.drop (y-jq 0 0 ms m).toNat)):=by rw [ha24,<- Vy,<- ek2]
  left
  refine ⟨by show 2<=sizeLine;decide,λt H5 ht ht5 s5=>?_⟩
  have t2:=s1.trans s2
  have t3:=t2.trans s3
  exact k t a1 a2 out H5 ((t3.trans s4).free ht) (t2.free ha1) (t3.free ha2) ht5 (s5 _ _ (s4 _ _ ha13)) (s5 _ _ ha24) (r2.keep (ji.same (s3.trans (s4.trans s5)))) (t3.trans (s4.trans s5))
noncomputable def U6:Sp:=λvs H Q _=>∃(p:Addr) (xs:List V) (v:V),vs=[.ref p,v]/\H p=some (.lst xs)/\xs.length<=1000/\∀l H',H l=none->H' l=some (.lst (xs++[v]))->jj H H'->Q (.ref l) H'
theorem Wk:FnScope ["runs","run"] ["runs","run"] (j8 ZS):=by walk_at "s"
theorem Gs (nb:Nb2 mg) (F:Fun K "laid" "laid" ZS f fd):FnOk P w K mg base CX0 1 f fd ["runs","run"] U6:=by
 refine F.ok Wk (λvs H Q E h=>?_) (λcdv A outer s H vs Q E hr h=>?_)
 ·obtain ⟨p,xs,v,rfl,_⟩:=h
  rfl
 ·obtain ⟨p,xs,v,rfl,hp,hl,k⟩:=h
  refine ⟨_,(j9 (jk (jo vz (pv 0) (jC (j0 (pv 1) j2))))),?_⟩
  left
  refine ⟨by show 1<=sizeLine;decide,λq H1 hq hq1 s1=>?_⟩
  refine ⟨p,q,xs,[v],rfl,rfl,s1 _ _ hp,hq1,?_,λl H2 hl2 hl22 s2=>?_⟩
  ·have:=jh hl
   rw [ba];right
  ·exact k l H2 (s1.free hl2) hl22 (s1.trans s2)
theorem zt :∀{vs:List V}{v:V}{ts:List T3},jp H (vs++[v]) ts->∃ti t,ts=ti++[t]/\jp H vs ti/\G2 H v t
 | [],v,_,.cons r .nil=>⟨[],_,rfl,.nil,r⟩
 | x::vs,v,_,.cons r rs=>by
  obtain ⟨ti,t,e,a,b⟩:=zt rs
  exact ⟨_::ti,t,by rw [e];rfl,.cons r a,b⟩
theorem jp.same {ts:List T3}(r:jp H vs ts) (s:jj H H'):jp H' vs ts:=r.imp λ_ _ q=>s _ _ q
theorem jp.keep {ts:List T3}(r:jp H vs ts) (s:ji H H'):jp H' vs ts:=r.imp λ_ _ q=>s _ _ q
noncomputable def muM:L2.St->Hp->Nat:=λσ _=>match σ with | _::some (.int m)::_=>m.toNat | _=>0
noncomputable def Yc:Sp:=λvs H Q _=>∃(p:Addr) (xs:List V) (rs:List T3) (m:Int),vs=[.ref p,.int m]/\H p=some (.lst xs)/\jp H xs rs/\yh rs/\(jy rs).length<=900/\0<=m /\
 ∀t l o H' vl vo left off m',H l=none->H o=none->l≠o->H' t=some (.tup [.ref l,.ref o])->H' l=some (.lst vl)->jp H' vl left->H' o=some (.lst vo)->jp H' vo off->jj H H'->Tk rs m left off m'->(left=[]\/m'<=0)->Q (.ref t) H'
theorem zd:FnScope ["runs","many","left","off","year","place","hands","part"] ["runs","many"] (j8 Qr):=by walk_at "s"
theorem GU {left:List T3}{m m':Int}(t:Tk rs m left off m'):left.length+off.length<=(jy rs).length:=by
 have h1:=uX t.gl
 have h2:=uX t.go
 rw [<- t.keys,aq]
 rw [fk] at h2
 right
theorem Uc (nb:Nb2 mg) (F:Fun K "taken" "taken" Qr f fd):FnOk P w K mg base CX0 1 f fd ["runs","many"] Yc:=by
 refine F.ok zd (λvs H Q E h=>?_) (λcdv A outer s H vs Q E hr h=>?_)
 ·obtain ⟨p,xs,rs,m,rfl,_⟩:=h
  rfl
 ·obtain ⟨p,xs,rs,m0,rfl,hp,hrw,hg,h9,hm0,k⟩:=h
  refine ⟨_,(j4 (jr 2 zd.nd (qA (qu K) rfl nb.b_list bT (j0 (pv 0) j2)))
   (j4 (jr 3 zd.nd (jC j2))
   (j4 (J4 aX (PW.pt (ZO (V4 K (pv 2)) (QI (jA Yk (pv 1) j5 (jD _))))) (j4 (xF (ZW K b7 mX mY Ua (pv 2)) (qj (n:=3) K rfl (jm (ja (i:=4) zd.nd rfl (aQ rfl)) (jm (ja (i:=5) zd.nd rfl (aQ rfl)) (jm (ja (i:=6) zd.nd rfl (aQ rfl)) qh)))))
   (j4 (jr 7 zd.nd (jc (yi rfl) rfl nb.b_min pY (j0 (pv 6) (j0 (pv 1) j2))))
   (j4 (jP (xP K b7 bf bg jX (pv 3) (j0 (jI (j0 (pv 4) (j0 (pv 5) (j0 (pv 7) j2)))) j2)))
   (j4 (jS (jA yQ (pv 7) (pv 6) (jD _)) (j9 (jP (xP K b7 bf bg jX (pv 2) (j0 (jI (j0 (pv 4) (j0 (pv 5) (j0 (jo qx (pv 6) (pv 7)) j2)))) j2)))) jx)
   (j9 (Qi (i:=1) zd.nd rfl (aQ rfl) (pv 7) Eh)))))))
   (j9 (jk (jI (j0 (pv 2) (j0 (pv 3) j2)))))))),?_⟩
  left
  refine ⟨_,_,rfl,.inl (SqL.of hp),λl H1 hl hl1 s1=>?_⟩
  left
  refine ⟨by show 0<=sizeLine;decide,λo H2 ho ho2 s2=>?_⟩
  have lo:l≠o:=j1 hl1 ho
  left
  refine kC (λσ H3=>∃(m:Int) (vl vo:List V) (left off:List T3) (v4 v5 v6 v7:Option V),σ=[some (.ref p),some (.int m),some (.ref l),some (.ref o),v4,v5,v6,v7]/\H3 l=some (.lst vl)/\jp H3 vl left/\H3 o=some (.lst vo)/\jp H3 vo off/\jj H H3/\Tk rs m0 left off m) muM ?_ ?_ ?_
  ·exact ⟨m0,xs,[],rs,[],_,_,_,_,rfl,s2 _ _ hl1,jp.same hrw (s1.trans s2),ho2,.nil,s1.trans s2,Tk.start hg hm0⟩
  ·rintro σ H3 ⟨m,vl,vo,left,off,v4,v5,v6,v7,rfl,hl3,rl3,ho3,ro3,s3,tk⟩
   have hlen:=GU tk
   have ol:=ro3.length
   have ll:=rl3.length
   left
   refine ⟨_,.inl ⟨vl,SqL.of hl3,rfl⟩,?_⟩
   rcases mZ vl with e | ⟨vi,v,e⟩
   ·subst e
    refine uF ?_
    cases rl3
    left
    refine ⟨by show 2<=sizeLine;decide,λt H4 ht ht4 s4=>?_⟩
    exact k t l o H4 [] vo [] off m hl (s1.free ho) lo ht4 (s4 _ _ hl3) .nil (s4 _ _ ho3) (jp.same ro3 s4) (s3.trans s4) tk (.inl rfl)
   ·rw [nh] at e
    subst e
    refine iteP (by simp) ?_
    left
    refine qr (λhm=>?_) (λhm=>?_)
    ·obtain ⟨li,⟨y,pl,h⟩,rfl,rli,q,rfl,hq⟩:=zt rl3
     have ql:q≠l:=jn hq hl3 (by walk_at "z")
     left
     refine ⟨.inl ⟨rfl,_,SqL.of hl3⟩,l,_,_,rfl,rfl,hl3,(by simp:(vi++[V.ref q])[(vi++[V.ref q]).length-1]? = some (V.ref q)),?_⟩
     rw [List.dropLast_concat]
     have kt4:ji H3 (upd H3 l (.lst vi)):=ji.lst Ext.put hl3
     have hl4:upd H3 l (.lst vi) l=some (.lst vi):=j6
     have ho4:upd H3 l (.lst vi) o=some (.lst vo):=by rw [j7 lo.symm];exact ho3
     have s4:jj H (upd H3 l (.lst vi)):=λc ob hc=>by rw [j7 (j1 hc hl)];exact s3 _ _ hc
     have hq4:=kt4 _ _ hq
     generalize upd H3 l (.lst vi)=H4 at kt4 hl4 ho4 s4 hq4
     refine ⟨q,_,rfl,SqT.of hq4,rfl,?_⟩
     refine ⟨_,_,rfl,_,_,rfl,_,_,rfl,rfl,?_⟩
     left
     refine ⟨_,_,rfl,?_⟩
     left
     refine ⟨.inl ⟨rfl,_,SqL.of ho4⟩,?_⟩
     left
     refine ⟨by show 3<=sizeLine;decide,λq2 H5 hq2 hq25 s5=>?_⟩
     left
     refine ⟨o,vo,_,rfl,rfl,s5 _ _ ho4,jh (),?_⟩
     have oq2:o≠q2:=j1 ho4 hq2
     have kt6:ji H4 (upd H5 o (.lst (vo++[.ref q2]))):=(ji.same s5).trans (ji.lst Ext.put (s5 _ _ ho4))
     have ho6:upd H5 o (.lst (vo++[.ref q2])) o=some (.lst (vo++[.ref q2])):=j6
     have hl6:upd H5 o (.lst (vo++[.ref q2])) l=some (.lst vi):=by rw [j7 lo];exact s5 _ _ hl4
     have hoH:H o=none:=s1.free ho
     have s6:jj H (upd H5 o (.lst (vo++[.ref q2]))):=λc ob hc=>by rw [j7 (j1 hc hoH)];exact s5 _ _ (s4 _ _ hc)
     have hq26:upd H5 o (.lst (vo++[.ref q2])) q2=some (.tup [.int y,.int pl,.int (if m<h then m else h)]):=by rw [j7 oq2.symm];exact hq25
     generalize upd H5 o (.lst (vo++[.ref q2]))=H6 at kt6 ho6 hl6 s6 hq26
     left
     by_cases hmh:m<h
     ·rw [if_pos hmh] at hq26 ⊢
      refine qr (λ_=>?_) (λz=>absurd hmh z)
      left
      refine ⟨.inl ⟨rfl,_,SqL.of hl6⟩,?_⟩
      left
      refine ⟨by show 3<=sizeLine;decide,λq3 H7 hq3 hq37 s7=>?_⟩
      left
      have vil:vi.length<=900:=by
       have:=rli.length
       rw [aq] at hlen
       right
      refine ⟨l,vi,_,rfl,rfl,s7 _ _ hl6,jh (),?_⟩
      have kt8:ji H6 (upd H7 l (.lst (vi++[.ref q3]))):=(ji.same s7).trans (ji.lst Ext.put (s7 _ _ hl6))
      have lq3:l≠q3:=j1 hl6 hq3
      left
      refine ⟨⟨m-m,_,_,li++[(y,pl,h-m)],off++[(y,pl,m)],_,_,_,_,rfl,j6,?_,by rw [j7 lo.symm];exact s7 _ _ ho6,?_,λc ob hc=>by rw [j7 (j1 hc hl)];exact s7 _ _ (s6 _ _ hc),?_⟩,?_⟩
      ·exact jp.snoc (jp.keep rli (kt4.trans (kt6.trans kt8))) ⟨q3,rfl,by rw [j7 lq3.symm];exact hq37⟩
      ·exact jp.snoc (jp.keep ro3 (kt4.trans (kt6.trans kt8))) ⟨q2,rfl,kt8 _ _ hq26⟩
      ·rw [Int.sub_self]
       exact tk.part hm hmh
      ·show (m-m).toNat<m.toNat
       right
     ·rw [if_neg hmh] at hq26 ⊢
      refine qr (λz=>absurd z ()) (λ_=>?_)
      left
      have h1:1<=h:=tk.gl.1 _ (aD _ aB)
      refine ⟨⟨m-h,_,_,li,off++[(y,pl,h)],_,_,_,_,rfl,hl6,?_,ho6,?_,s6,?_⟩,?_⟩
      ·exact jp.keep rli (kt4.trans kt6)
      ·exact jp.snoc (jp.keep ro3 (kt4.trans kt6)) ⟨q2,rfl,hq26⟩
      ·exact tk.whole hm ()
      ·show (m-h).toNat<m.toNat
       right
    ·left
     refine ⟨by show 2<=sizeLine;decide,λt H4 ht ht4 s4=>?_⟩
     exact k t l o H4 _ vo left off m hl (s1.free ho) lo ht4 (s4 _ _ hl3) (jp.same rl3 s4) (s4 _ _ ho3) (jp.same ro3 s4) (s3.trans s4) tk (.inr ())
  ·refine G6 (λσ H Q Q' h q=>?_) (λσ H Q Q' h q=>?_)
   ·obtain ⟨x,e1,b,tr,z⟩:=q
    exact ⟨x,e1,b,tr,h _ _ z⟩
   ·obtain ⟨x,e1,i,j,e2,e3,b,e4,z⟩:=q
    exact ⟨x,e1,i,j,e2,e3,b,e4,h _ _ z⟩
noncomputable def UB:Sp:=λvs H Q _=>∃(p:Addr) (xs:List V) (hs:List T3),vs=[.ref p]/\H p=some (.lst xs)/\jp H xs hs/\hs.length<=900/\∀l H' vl,H l=none->H' l=some (.lst vl)->jp H' vl (grp hs)->jj H H'->Q (.ref l) H'
theorem zi:FnScope ["_law_hands","_law_found","_law_year_here","_law_place","_law_layer"] ["_law_hands"] (j8 ue):=by walk_at "s"
theorem uC {α:Type}{xs:List α}{x:α}:atI (xs++[x]) (-1)=some x:=by
 unfold atI ixN
 rw [if_neg ⋯,aq,ba,if_pos (),mj,show (-1+((xs.length+1:Nat):Int)).toNat=xs.length by right]
 simp
theorem UK {n:Nat}(h:0<n):ixN n (-1)=some (n-1):=by
 unfold ixN
 rw [if_neg ⋯,if_pos ()]
 congr 1
 right
theorem Yj:∀(a b:List Int),tR (a.map cP) (b.map cP)=decide (a=b)
 | [],[]=>rfl
 | [],_::_=>rfl
 | _::_,[]=>rfl
 | x::a,y::b=>by
  rw [aM,aM]
  show (oS (.int x) (.int y) && tR (a.map cP) (b.map cP))=_
  rw [Yj a b,show oS (.int x) (.int y)=(x == y) from rfl]
  by_cases h:x=y <;> by_cases h2:a=b <;> simp [h,h2]
theorem Ud (a b:List Int):oS (.tuple (a.map cP)) (.tuple (b.map cP))=decide (a=b):=Yj a b
theorem Yl (ns:List Int):i0 (.tuple (ns.map cP))=true:=by
 unfold i0
 rw [show nM (.tuple (ns.map cP))=i7 (ns.map cP) from rfl,(Ja ns).1,dI]
 exact decide_eq_true (by show iO (ns.map cP)+1<=64;rw [(Ja ns).2];decide)
theorem UG (hs:List T3) (j:Nat) (h:T3) (e:hs[j]? = some h):grp (hs.take (j+1))=yp (grp (hs.take j)) h:=by
 unfold grp
 rw [bS,e,lO]
 rfl
theorem Vt (acc:List T3) (h:T3):(yp acc h).length<=acc.length+1:=by
 unfold yp
 split
 ·split
  ·rw [aq,nA]
   simp
  ·simp
 ·simp
theorem Yu:∀(hs acc:List T3),(hs.foldl yp acc).length<=acc.length+hs.length
 | [],acc=>ar _
 | h::hs,acc=>by
  rw [mM]
  have:=Yu hs (yp acc h)
  have:=Vt acc h
  rw [bh]
  right
theorem Wq (nb:Nb2 mg) (F:Fun K "_law_runs" "_law_runs" ue f fd):FnOk P w K mg base CX0 1 f fd ["_law_hands"] UB:=by
 refine F.ok zi (λvs H Q E h=>?_) (λcdv A outer s H vs Q E hr h=>?_)
 ·obtain ⟨p,xs,hs,rfl,_⟩:=h
  rfl
 ·obtain ⟨p,xs,hs,rfl,hp,hrw,h9,k⟩:=h
  have hlen:=hrw.length
  refine ⟨_,(j4 (jr 1 zi.nd (jC j2))
   (j4 (qw aX rfl (qc K (pv 0)) (qj (n:=3) K rfl (jm (ja (i:=2) zi.nd rfl (aQ rfl)) (jm (ja (i:=3) zi.nd rfl (aQ rfl)) (jm (ja (i:=4) zi.nd rfl (aQ rfl)) qh)))) (j9 (jS (PW.pt (ZO (jA Yk (jc (jf K) rfl nb.b_len aR (j0 (pv 1) j2)) j5 (jD _)) (QI (jA (Y9 K hr.units) (uA (U8 K) (js (jd K) (pv 1) (vP y7 j5) (λ_ _=>rfl)) kh (ke j5)) (jI (j0 (pv 2) (j0 (pv 3) j2))) (jD _))))) (j9 (xF (jI (j0 (pv 2) (j0 (pv 3) (j0 (jo jT (js (xb K) (js (jd K) (pv 1) (vP y7 j5) (λ_ _=>rfl)) j5 (λ_ _=>rfl)) j5) j2)))) (kz (pv 1) (vP y7 j5) vh))) (j9 (jP (xP K b7 bf bg jX (pv 1) (j0 (jI (j0 (pv 2) (j0 (pv 3) (j0 j5 j2)))) j2)))))))
   (j9 (jk (pv 1))))),?_⟩
  left
  refine ⟨by show 0<=sizeLine;decide,λl H1 hl hl1 s1=>?_⟩
  have pl:p≠l:=j1 hp hl
  left
  refine ⟨⟨_,SqL.of (s1 _ _ hp)⟩,?_⟩
  refine zD (K:=K) (a:=p) (xs:=xs) (λj σ H2=>∃(v2 v3 v4:Option V) (vl:List V),σ=[some (.ref p),some (.ref l),v2,v3,v4]/\H2 l=some (.lst vl)/\jp H2 vl (grp (hs.take j))/\jj H H2) ?_ ?_ ?_ ?_
  ·exact ⟨_,_,_,[],rfl,hl1,.nil,s1⟩
  ·rintro j σ H2 hj ⟨v2,v3,v4,vl,rfl,hl2,r2,s2⟩
   exact SqL.of (s2 _ _ hp)
  ·rintro j v σ H2 hv ⟨v2,v3,v4,vl,rfl,hl2,r2,s2⟩
   obtain ⟨⟨y,pl',la⟩,hr,q,rfl,hq⟩:=jp.get (jp.same hrw s2) hv
   have hj:j<hs.length:=(List.getElem?_eq_some_iff.mp hr).1
   have r2l:=r2.length
   have gl:(grp (hs.take j)).length<=900:=by have:=Yu (hs.take j) [];rw [aK] at this;unfold grp;simp at this;right
   have gs:=UG hs j _ hr
   left
   refine ⟨q,_,rfl,SqT.of hq,rfl,?_⟩
   refine ⟨_,_,rfl,_,_,rfl,_,_,rfl,rfl,?_⟩
   left
   refine ⟨_,_,rfl,.inl (SqL.of hl2),?_⟩
   left
   rcases mZ vl with e | ⟨vi,x,e⟩
   ·subst e
    refine qr (λz=>absurd z (by simp)) (λ_=>?_)
    refine uF ?_
    left
    refine ⟨.inl ⟨rfl,_,SqL.of hl2⟩,?_⟩
    left
    refine ⟨by show 3<=sizeLine;decide,λq2 H3 hq2 hq23 s3=>?_⟩
    left
    refine ⟨l,[],_,rfl,rfl,s3 _ _ hl2,jh (by simp),?_⟩
    have lq:l≠q2:=j1 hl2 hq2
    have e0:grp (hs.take j)=[]:=List.eq_nil_of_length_eq_zero r2l.symm
    rw [gs,e0]
    refine ⟨_,_,_,[.ref q2],rfl,j6,.cons ⟨q2,rfl,by rw [j7 lq.symm];exact hq23⟩ .nil,λc o hc=>by rw [j7 (j1 hc hl)];exact s3 _ _ (s2 _ _ hc)⟩
   ·rw [nh] at e
    subst e
    obtain ⟨gi,⟨y0,p0,m0⟩,eg,ri,q0,rfl,hq0⟩:=zt r2
    refine qr (λ_=>?_) (λz=>absurd (by simp) z)
    left
    refine ⟨_,_,_,_,rfl,rfl,SqL.of hl2,uC,?_⟩
    left
    refine ⟨q0,_,rfl,hq0,λq1 H3 s3 hq1=>?_⟩
    have hq1':H3 q1=some (.tup [.int y0,.int p0]):=hq1
    left
    refine ⟨by show 2<=sizeLine;decide,λq4 H4 hq4 hq44 s4=>?_⟩
    refine ⟨λ_=>False,λ_=>False,.tuple ([y0,p0].map cP),.tuple ([y,pl'].map cP),.tup id (SqT.of (s4 _ _ hq1')) (RepL.of_ints [y0,p0]),.tup id (SqT.of hq44) (RepL.of_ints [y,pl']),Yl _,Yl _,_,rfl,?_⟩
    rw [Ud]
    have hl4:=s4 _ _ (s3 _ _ hl2)
    have hl4':=hl4
    have hq04:=s4 _ _ (s3 _ _ hq0)
    have s04:jj H H4:=s2.trans (s3.trans s4)
    have ri4:=jp.same ri (s3.trans s4)
    have e2:=(zt (jp.same r2 (s3.trans s4)))
    refine qr (λhk=>?_) (λhk=>?_)
    ·injection hk with hk1 hk2
     injection hk2 with hk2 _
     subst hk1 hk2
     left
     refine ⟨_,_,_,_,rfl,rfl,SqL.of hl4,uC,?_⟩
     left
     refine ⟨by show 3<=sizeLine;decide,λq5 H5 hq5 hq55 s5=>?_⟩
     left
     refine ⟨l,_,_,(vi++[V.ref q0]).length-1,rfl,rfl,s5 _ _ hl4,UK (by simp),?_⟩
     have lq:l≠q5:=j1 hl4 hq5
     rw [gs,eg,J0]
     have es:(vi++[V.ref q0]).set ((vi++[V.ref q0]).length-1) (.ref q5)=vi++[.ref q5]:=by simp
     rw [es]
     have kt:ji H4 (upd H5 l (.lst (vi++[.ref q5]))):=(ji.same s5).trans (ji.lst Ext.put (s5 _ _ hl4))
     exact ⟨_,_,_,_,rfl,j6,jp.snoc (jp.keep ri4 kt) ⟨q5,rfl,by rw [j7 lq.symm];exact hq55⟩,λc o hc=>by rw [j7 (j1 hc hl)];exact s5 _ _ (s04 _ _ hc)⟩
    ·left
     refine ⟨.inl ⟨rfl,_,SqL.of hl4⟩,?_⟩
     left
     refine ⟨by show 3<=sizeLine;decide,λq2 H5 hq2 hq25 s5=>?_⟩
     left
     refine ⟨l,_,_,rfl,rfl,s5 _ _ hl4,jh (),?_⟩
     have lq:l≠q2:=j1 hl4 hq2
     have kt:ji H4 (upd H5 l (.lst (vi++[.ref q0]++[.ref q2]))):=(ji.same s5).trans (ji.lst Ext.put (s5 _ _ hl4))
     rw [gs,JB (λr hr z=>hk (by
      rw [eg,iI] at hr
      cases hr
      have z1:y0=y/\p0=pl':=by simpa [xQ] using z
      rw [z1.1,z1.2]))]
     exact ⟨_,_,_,_,rfl,j6,jp.snoc (jp.keep (jp.same r2 (s3.trans s4)) kt) ⟨q2,rfl,by rw [j7 lq.symm];exact hq25⟩,λc o hc=>by rw [j7 (j1 hc hl)];exact s5 _ _ (s04 _ _ hc)⟩
  ·rintro σ H2 ⟨v2,v3,v4,vl,rfl,hl2,r2,s2⟩
   rw [hlen,aY] at r2
   left
   exact k l H2 vl hl hl2 r2 s2
theorem yT.take :∀(n:Nat) {out:List V}{qs:List Q4},yT H out qs->yT H (out.take n) (qs.take n)
 | 0,_,_,_=>.nil
 | _+1,_,_,.nil=>.nil
 | n+1,_,_,.cons a r=>.cons a (yT.take n r)
section
variable {L:List Q4}{dp mv pl:Nat->Int}{fst:Int}{n:Nat}
structure Col (L:List Q4) (dp mv pl:Nat->Int) (fst:Int) (n:Nat):Prop where
 len:L.length=n
 at_:∀i,i<n->L[i]? = some (fst+(i:Int),pl i,mv i,dp (i+1))
 step:∀i,dp (i+1)=dp i+mv i
end
theorem VE (ms:List (Int×Int)) (gd:List Int) (wr:List (Int×T3)) (ts:List T3) (m:Int):Col (xj ms gd wr ts m) (uj ms gd wr ts m (jq 0 0 ms m)) (λi=>(zL ms gd wr ts m (jq 0 0 ms m) i).2.2.1) (λi=>plc ms m (jq 0 0 ms m+(i:Int))) (jq 0 0 ms m) (jq 0 0 ms (m+(gd.length:Int))-jq 0 0 ms m).toNat :=
 ⟨kX _ _ _ _ _,λi hi=>gX hi,λi=>rfl⟩
theorem vN (ns:List (Int×Int)):∃ms:List (Int×Int),ms.Perm ns/\(ms.map (·.1)).Pairwise (· <= ·):=by
 refine ⟨ns.mergeSort (λa b=>decide (a.1<=b.1)),List.mergeSort_perm _ _,?_⟩
 rw [List.pairwise_map]
 exact (List.pairwise_mergeSort (λa b c h1 h2=>by simp at *;right) (λa b=>by simp;right) ns).imp λh=>by simpa using h
theorem zG.good :∀{sk:List (Int×Addr)}{wr:List (Int×T3)},zG H sk wr->(∀z∈sk,∃t,H z.2=some (yt t)/\good t=true)->∀q∈wr,good q.2=true
 | _,_,.nil,_,q,hq=>by cases hq
 | z::r,x::t,.cons ⟨_,h⟩ tl,g,q,hq=>by
  rcases List.mem_cons.mp hq with e | e
  ·subst e
   obtain ⟨u,hu,gu⟩:=g z (aB ..)
   rw [h] at hu
   have:yt q.2=yt u:=aW hu
   have e1:q.2.1=u.1:=by injection this with this;injection this with a b;exact V.int.inj a
   have e2:q.2.2.1=u.2.1:=by injection this with this;injection this with a b;injection b with b c;exact V.int.inj b
   have e3:q.2.2.2=u.2.2:=by injection this with this;injection this with a b;injection b with b c;injection c with c d;exact V.int.inj c
   rw [show q.2=u from AL e1 (AL e2 e3)]
   exact gu
  ·exact zG.good tl (λz hz=>g z (aF _ hz)) q e
theorem UV {wr:List (Int×T3)}{ts:List T3}(h1:∀q∈wr,good q.2=true) (h2:ts.all good=true) (h3:1<=ts.length) (y:Int):good (zu wr ts y)=true:=by
 unfold zu
 cases e:wr.find? λq=>decide (q.1=y) with
 | some q=>exact h1 q (lI e)
 | none =>
  have m0:=eJ y (show (ts.length:Int)≠0 by right)
  have m1:=dw y (show (0:Int)<ts.length by right)
  have hi:(y % (ts.length:Int)).toNat<ts.length:=()
  show good (ts.getD (y % (ts.length:Int)).toNat (0,0,0))=true
  rw [ao,af hi]
  exact List.all_eq_true.mp h2 _ (c8 hi)
theorem Z4 {t:T3}(g:good t=true) (h:Int):chg t h<=9:=by
 unfold good at g
 have:=of_decide_eq_true g
 unfold chg
 split <;> right
theorem wB (ns:List (Int×Int)) (gd:List Int) (wr:List (Int×T3)) (ts:List T3) (m fst:Int):∀i,0<=uj ns gd wr ts m fst i
 | 0=>iJ _
 | i+1=>by
  have:=wB ns gd wr ts m fst i
  show 0<=uj ns gd wr ts m fst i+(if xN ns gd wr ts m (fst+(i:Int)) > - uj ns gd wr ts m fst i then xN ns gd wr ts m (fst+(i:Int)) else-uj ns gd wr ts m fst i)
  split <;> right
noncomputable def QO (ks:List K2) (q:Q4):List K2:=if 0<q.2.2.1 then ks++bJ q.2.2.1.toNat (q.1,q.2.1) else ks.take (ks.length-(- q.2.2.1).toNat)
noncomputable def wA (rows:List Q4):List K2:=rows.foldl QO []
theorem gf {W:List Q4}{i:Nat}(h:W[i]? = some q):wA (W.take (i+1))=QO (wA (W.take i)) q:=by
 unfold wA
 rw [List.take_succ,h,lO]
 rfl
theorem WB (g:yh rs) {r:T3}(h:r∈rs):xQ r∈jy rs:=by
 unfold jy
 rw [List.mem_flatMap]
 have:=g.1 r h
 exact ⟨r,h,List.mem_replicate.mpr ⟨(),rfl⟩⟩
theorem Gn {left:List T3}{m m':Int}(t:Tk rs m left off m') (e:left=[]\/m'<=0):jy left=(jy rs).take ((jy rs).length-m.toNat):=by
 have h1:=t.cnt
 have h2:=t.m0'
 have h3:=congrArg fI t.keys
 rw [aq] at h3
 rcases e with rfl | e
 ·have:jy ([]:List T3)=[]:=rfl
  rw [this] at h3 ⊢
  rw [show (jy rs).length-m.toNat=0 by rw [mO] at h3;right]
  rfl
 ·have e2:(jy rs).length-m.toNat=(jy left).length:=()
  rw [e2,<- t.keys,List.take_left]
theorem Vd {rs:List T3}{r:T3}(g:yh rs) (h1:1<=r.2.2) (h:∀k∈jy rs,k.1<r.1):yh (rs++[r]):=by
 refine ⟨λx hx=>?_,List.pairwise_append.mpr ⟨g.2,dQ _ _,λa ha b hb=>?_⟩⟩
 ·rcases List.mem_append.mp hx with z | z
  ·exact g.1 x z
  ·rw [List.mem_singleton.mp z];exact h1
 ·rw [List.mem_singleton.mp hb]
  exact h _ (WB g ha)
noncomputable def Qp (C CN CP CY:Addr):Sp:=λvs H Q E=>∃(p:Addr) (g:IceG) (l n y:Int) (sk:List (Int×Addr)) (wr:List (Int×T3)),vs=[.ref p,.int l,.int n,.int y]/\IceAt C H p g/\g.lds.length=g.slopes.length/\g.kvs=sk.map kvA/\zG H sk wr/\1<=g.rows.length/\g.rows.length<=1000/\(∀z,good (zu wr g.rows z)=true) /\
 (l<0\/(g.slopes.length:Int)<=l->E (.ref CN) none H)/\(0<=l->l<(g.slopes.length:Int)->n<0\/((g.slopes.getD l.toNat []).length:Int)<=n->E (.ref CP) none H) /\
 (0<=l->l<(g.slopes.length:Int)->0<=n->n<((g.slopes.getD l.toNat []).length:Int)->∃ns ms,V1 g l ns/\(∀q∈ns,0<=q.1)/\(g.slopes.getD l.toNat []).length<=100/\ms.Perm ns/\(ms.map (·.1)).Pairwise (· <= ·)/\(∀H',jj H H'->y<0\/10 ^ 40<y->E (.ref CY) none H')/\(0<=y->y<=10 ^ 40 ->
  ∀L i,L=xj ms (g.slopes.getD l.toNat []) wr g.rows (y+jg ns y-n)->i=(y-jq 0 0 ms (y+jg ns y-n)).toNat->∀o out rs H',H o=none->H' o=some (.lst out)->jp H' out rs->yh rs->jy rs=wA (L.take (i+1))->(jy rs).length<=900->jj H H'->Q (.ref o) H'))
theorem xW:FnScope ["ice","lane","place","year","ahead","onward","runs","when","where","moved","lying"] ["ice","lane","place","year"] (j8 Zd):=by walk_at "s"
theorem Wt (nb:Nb2 mg) (c_parted:CalX P w K mg base 5 "parted" ["ice","lane","place","year"] (XN C CN CP CY)) (c_laid:Cal P w K mg base 1 "laid" ["runs","run"] U6) (c_taken:Cal P w K mg base 1 "taken" ["runs","many"] Yc)
  (F:Fun K "pile" "pile" Zd f fd):FnOk P w K mg base (CX1 P w) 6 f fd ["ice","lane","place","year"] (Qp C CN CP CY):=by
 refine Fun.okX F xW (λvs H Q E h=>?_) (λcdv A outer s H vs Q E hr h=>?_)
 ·obtain ⟨p,g,l,n,y,sk,wr,rfl,_⟩:=h
  rfl
 ·obtain ⟨p,g,l,n,y,sk,wr,rfl,I,hll,ek,hw,hr1,hr2,sg,kN,kP,k⟩:=h
  refine ⟨_,(j4 (xF (xY c_parted (hr.mono ⋯) qL rfl (j0 (pv 0) (j0 (pv 1) (j0 (pv 2) (j0 (pv 3) j2))))) (qj (n:=2) K rfl (jm (ja (i:=4) xW.nd rfl (aQ rfl)) (jm (ja (i:=5) xW.nd rfl (aQ rfl)) qh))))
   (j4 (jr 6 xW.nd (jC j2))
   (j4 (VM (qw aX rfl (qc K (jo vz (pv 4) (uA (ww K) (pv 5) kh (ke j5)))) (qj (n:=4) K rfl (jm (ja (i:=7) xW.nd rfl (aQ rfl)) (jm (ja (i:=8) xW.nd rfl (aQ rfl)) (jm (ja (i:=9) xW.nd rfl (aQ rfl)) (jm (ja (i:=10) xW.nd rfl (aQ rfl)) qh))))) (j9 (jS (jA Yk (pv 9) j5 (jD _)) (j9 (jr 6 xW.nd (je c_laid (hr.mono ⋯) rfl (j0 (pv 6) (j0 (jI (j0 (pv 7) (j0 (pv 8) (j0 (pv 9) j2)))) j2))))) (j9 (jr 6 xW.nd (js (xb K) (je c_taken (hr.mono ⋯) rfl (j0 (pv 6) (j0 (vP y7 (pv 9)) j2))) j5 (λ_ _=>rfl))))))))
   (j9 (jk (pv 6)))))),?_⟩
  left
  refine ⟨p,g,l,n,y,sk,wr,rfl,I,hll,ek,hw,hr1,hr2,kN,kP,λl0 l1 n0 n1=>?_⟩
  obtain ⟨ns,ms,hL,hp0,g100,hp,hs,kY,k⟩:=k l0 l1 n0 n1
  refine ⟨ns,ms,hL,hp0,g100,hp,hs,kY,λy0 y1 t a1 a2 out H1 ht ha1 ha2 ht1 ha11 ha21 r1 s1=>?_⟩
  have k:=k y0 y1
  have hpos:∀q∈ns,0<=q.1/\0<=q.2:=λq hq=>⟨hp0 q hq,(hL.2.2.2.2.2 q hq).1⟩
  have nd:(ns.map (·.1)).Nodup:=hL.2.2.2.1
  have e0:y+jg ns y-(y+jg ns y-n)=n:=()
  have onm:=(zS hp hs nd hpos (y+jg ns y-n) (g.slopes.getD l.toNat []).length y y0).mp (by rw [e0];exact ⟨n0,n1⟩)
  have CL:=VE ms (g.slopes.getD l.toNat []) wr g.rows (y+jg ns y-n)
  have spl:=Ye hp hs nd hpos (y+jg ns y-n) (g.slopes.getD l.toNat []).length ()
  have mv9:∀i,(zL ms (g.slopes.getD l.toNat []) wr g.rows (y+jg ns y-n) (jq 0 0 ms (y+jg ns y-n)) i).2.2.1<=9:=λi=>by
   have h1:=wB ms (g.slopes.getD l.toNat []) wr g.rows (y+jg ns y-n) (jq 0 0 ms (y+jg ns y-n)) i
   have h2:xN ms (g.slopes.getD l.toNat []) wr g.rows (y+jg ns y-n) (jq 0 0 ms (y+jg ns y-n)+(i:Int))<=9:=Z4 (sg _) _
   show (if xN ms (g.slopes.getD l.toNat []) wr g.rows (y+jg ns y-n) (jq 0 0 ms (y+jg ns y-n)+(i:Int)) > - uj ms (g.slopes.getD l.toNat []) wr g.rows (y+jg ns y-n) (jq 0 0 ms (y+jg ns y-n)) i then _ else _)<=9
   split <;> right
  have k:=k _ _ rfl rfl
  generalize uj ms (g.slopes.getD l.toNat []) wr g.rows (y+jg ns y-n) (jq 0 0 ms (y+jg ns y-n))=dp at CL
  generalize y+jg ns y-n=m at *
  generalize hmv:(λi=>(zL ms (g.slopes.getD l.toNat []) wr g.rows m (jq 0 0 ms m) i).2.2.1)=mv at CL
  have mvb:∀i,mv i<=9:=λi=>by rw [<- hmv];exact mv9 i
  generalize (λi:Nat=>plc ms m (jq 0 0 ms m+(i:Int)))=pl at CL
  generalize xj ms (g.slopes.getD l.toNat []) wr g.rows m=L at *
  generalize hfst:jq 0 0 ms m=fst at *
  generalize jq 0 0 ms (m+((g.slopes.getD l.toNat []).length:Int))=gon at *
  generalize hkk:(y-fst).toNat=kk at *
  have hkN:kk<(gon-fst).toNat:=()
  have hol:out.length=(gon-fst).toNat:=(aT r1).trans CL.len
  left
  refine ⟨t,_,rfl,SqT.of ht1,rfl,?_⟩
  refine ⟨_,_,rfl,_,_,rfl,rfl,?_⟩
  left
  refine ⟨aJ _,λr0 H2 hr0 hr02 s2=>?_⟩
  have hr00:H r0=none:=s1.free hr0
  left
  refine ⟨_,_,rfl,SqL.of (s2 _ _ ha21),λa3 H3 ha3 ha33 s3=>?_⟩
  have ha33:H3 a3=some (.lst ((out.drop kk).take 1)):=by rw [ha33];exact congrArg (λz=>some (HO.lst z)) (Y3 (out.drop kk) 1)
  refine ⟨a1,a3,_,_,rfl,rfl,s3 _ _ (s2 _ _ ha11),ha33,by rw [aK,aK,ir];exact dZ (jh ()),λa4 H4 ha4 ha44 s4=>?_⟩
  have eo:out.take kk++(out.drop kk).take 1=out.take (kk+1):=by rw [List.take_add]
  rw [eo] at ha44
  have s14:jj H1 H4:=s2.trans (s3.trans s4)
  have rt:yT H4 (out.take (kk+1)) (L.take (kk+1)):=(yT.take _ r1).keep (ji.same s14)
  have hlt:(out.take (kk+1)).length=kk+1:=by rw [aK];right
  have hr04:=s4 _ _ (s3 _ _ hr02)
  left
  refine ⟨⟨_,SqL.of ha44⟩,?_⟩
  refine zD (K:=K) (a:=a4) (xs:=out.take (kk+1)) (λi σ H6=>∃(x7 x8 x9 x10:Option V) (ra:Addr) (xs:List V) (rs:List T3),σ=[some (.ref p),some (.int l),some (.int n),some (.int y),some (.ref a1),some (.ref a2),some (.ref ra),x7,x8,x9,x10]/\H ra=none/\H6 ra=some (.lst xs)/\jp H6 xs rs/\yh rs/\jy rs=wA ((L.take (kk+1)).take i)/\(∀q∈jy rs,q.1<fst+(i:Int))/\(jy rs).length<=9*i/\jj H4 H6) ?_ ?_ ?_ ?_
  ·exact ⟨_,_,_,_,r0,[],[],rfl,hr00,hr04,.nil,⟨λ_ h=>(by cases h),.nil⟩,rfl,λ_ h=>(by cases h),ar _,jj.refl _⟩
  ·rintro i σ H6 hi ⟨x7,x8,x9,x10,ra,xs,rs,rfl,hra,h6,r6,g6,e6,y6,l6,s6⟩
   exact SqL.of (s6 _ _ ha44)
  ·rintro i v σ H6 hv ⟨x7,x8,x9,x10,ra,xs,rs,rfl,hra,h6,r6,g6,e6,y6,l6,s6⟩
   obtain ⟨q,hq,bq,rfl,hbq⟩:=Paired.get rt hv
   have hi:i<kk+1:=by rw [<- hlt];exact (List.getElem?_eq_some_iff.mp hv).1
   have ek':=gf hq
   rw [<- e6] at ek'
   rw [lS hi,CL.at_ i ()] at hq
   have hq:=aW hq
   subst hq
   have m9:=mvb i
   have xl:xs.length=rs.length:=r6.length
   have gl:=uX g6
   have hbq:H4 bq=some (.tup [.int (fst+(i:Int)),.int (pl i),.int (mv i),.int (dp (i+1))]):=hbq
   unfold QO at ek'
   have ek':wA ((L.take (kk+1)).take (i+1))=if 0<mv i then jy rs++bJ (mv i).toNat (fst+(i:Int),pl i) else (jy rs).take ((jy rs).length-(- mv i).toNat):=ek'
   left
   refine ⟨bq,_,rfl,SqT.of (s6 _ _ hbq),rfl,?_⟩
   refine ⟨_,_,rfl,_,_,rfl,_,_,rfl,_,_,rfl,rfl,?_⟩
   left
   refine qr (λz=>?_) (λz=>?_)
   ·rw [if_pos z] at ek'
    left
    refine ⟨by show 3<=sizeLine;decide,λtq H7 htq htq7 s7=>?_⟩
    left
    refine ⟨ra,xs,.ref tq,rfl,s7 _ _ h6,(),λl8 H8 hl8 hl88 s8=>?_⟩
    have e1:jy (rs++[(fst+(i:Int),pl i,mv i)])=jy rs++bJ (mv i).toNat (fst+(i:Int),pl i):=by
     rw [qp]
     congr 1
     exact aN _
    refine ⟨_,_,_,_,l8,xs++[.ref tq],rs++[(fst+(i:Int),pl i,mv i)],rfl,s1.free (s14.free (s6.free (s7.free hl8))),hl88,?_,Vd g6 z y6,e1.trans ek'.symm,λq hq=>?_,?_,s6.trans (s7.trans s8)⟩
    ·exact jp.snoc (jp.same r6 (s7.trans s8)) ⟨tq,rfl,s8 _ _ htq7⟩
    ·rw [e1] at hq
     rcases List.mem_append.mp hq with h | h
     ·have:=y6 q h
      right
     ·rw [(List.mem_replicate.mp h).2]
      show fst+(i:Int)<_
      right
    ·rw [e1,aq,bX]
     right
   ·rw [if_neg z] at ek'
    left
    refine ⟨ra,xs,rs,- mv i,rfl,h6,r6,g6,(),(),λt9 l9 o9 H9 vl vo left off m' hl9 ho9 lo9 ht9 hl99 rl9 ho99 ro9 s9 tk fin=>?_⟩
    have e1:=(Gn tk fin).trans ek'.symm
    have hsub:∀q∈jy left,q∈jy rs:=λq hq=>by rw [<- tk.keys];exact bL _ hq
    have hle:(jy left).length<=(jy rs).length:=by rw [<- tk.keys,aq];right
    left
    refine ⟨_,_,_,_,l9,vl,left,rfl,s1.free (s14.free (s6.free hl9)),hl99,rl9,tk.gl,e1,λq hq=>?_,(),s6.trans s9⟩
    have:=y6 q (hsub q hq)
    right
  ·rintro σ H6 ⟨x7,x8,x9,x10,ra,xs,rs,rfl,hra,h6,r6,g6,e6,y6,l6,s6⟩
   rw [hlt,tG,Nat.min_self] at e6
   left
   exact k ra xs rs H6 hra h6 r6 g6 e6 () (s1.trans (s14.trans s6))
theorem ScAt.frM {sd:Addr}(S:ScAt H sd c) (f:FrM c.D H H'):ScAt H' sd c:=S.keep (N:=λ_=>False) (λc o h _=>f c o h) (λ_ _ _ z=>z) id S.nD id id id id (λ_ _=>id) id (λ_ _=>id)
theorem FrM.keepT (f:FrM M H H'):ji H H':=λa xs h=>f.at h (by walk_at "w")
theorem FrM.put (f:FrM M H H') (n:H c=none):FrM M H (upd H' c o):=λd u hd=>by
 have:d≠c:=λe=>by rw [e,n] at hd;cases hd
 rw [j7 this]
 exact f d u hd
theorem FrM.no (f:FrM M H H') (n:H' c=none):H c=none:=by
 cases e:H c with
 | none=>rfl
 | some o =>
  rcases f c o e with h | ⟨_,_,_,_,h⟩
  ·rw [n] at h;cases h
  ·rw [n] at h;cases h
theorem Uy {l y:Int}{Q:VK}(S:ScAt H sd c) (LF:LaneF c g l wy da dn) (k:∀H',FrM c.D H H'->Q (.int (y+jg dn y)) H'):Zq [.ref sd,.int l,.int y] H Q E:=by
 have hdm:=az LF.cd
 have ell:c.lds.map (λx=>V.ref x.1)=(c.lds.map (·.1)).map V.ref:=by rw [bZ];rfl
 have eda:(c.lds.map (·.1))[l.toNat]? = some da:=by rw [aA,LF.cd];rfl
 have l10:=LF.l10
 exact ⟨c.D,sd,c.p,c.q,c.sg,c.gl,c.ll,da,c.lds.map (·.1),l,_,dn,rfl,S.sd,(by rw [<- ell];exact S.ll),LF.l0,eda,S.ld _ hdm,LF.D,S.nD,(),LF.nd,λq hq=>by have:=LF.b q hq;right,k⟩
theorem ScAt.gnd {sd:Addr}{l:Int}(S:ScAt H sd c) (LF:LaneF c g l wy da dn):∃ga,atI c.zs l=some (V.ref ga)/\H ga=some (.lst ((jb c.rs wy).map V.int)):=by
 have hzl:c.zs.length=c.ws.length:=(aT S.gi).trans (ah _)
 have hi:l.toNat<c.zs.length:=by rw [hzl];exact (List.getElem?_eq_some_iff.mp LF.way).1
 obtain ⟨gw,hgw,ga,ega,hga⟩:=Paired.get S.gi (af hi)
 rw [aA,LF.way] at hgw
 have hgw:=aW hgw
 subst hgw
 exact ⟨ga,qQ LF.l0 (by rw [af hi,ega]),hga⟩
noncomputable def zJ (R:Int) (n:Nat):List Int:=(aI n).map λp:Nat=>R-(p:Int)
theorem vA (R:Int) (n:Nat):(zJ R n).length=n:=by
 unfold zJ
 rw [ah,bp]
theorem Xf {R:Int}{n p:Nat}(h:p<n):(zJ R n)[p]? = some (R-(p:Int)):=by
 unfold zJ
 rw [aA,dN h]
 rfl
noncomputable def QJ:Sp:=λvs H Q _=>∃(sd:Addr) (c:ScN) (g:IceG) (l y:Int) (wy:List Int) (da:Addr) (dn:List (Int×Int)),vs=[.ref sd,.int l,.int y]/\ScAt H sd c/\LaneF c g l wy da dn /\
 ∀o H',H o=none->H' o=some (.lst ((zJ (y+jg dn y) (jb c.rs wy).length).map V.int))->FrM c.D H H'->Q (.ref o) H'
theorem uT:FnScope ["_law_scene_here","_law_lane","_law_year_here","_law_ride_here"] ["_law_scene_here","_law_lane","_law_year_here"] (j8 zW):=by walk_at "s"
theorem VS (nb:Nb2 mg) (c_law_ride:Cal P w K mg base 1 "_law_ride" ["_law_scene_here","_law_lane","_law_year_here"] Zq)
  (F:Fun K "_law_marks" "_law_marks" zW f fd):FnOk P w K mg base CX0 2 f fd ["_law_scene_here","_law_lane","_law_year_here"] QJ:=by
 refine F.ok uT (λvs H Q E h=>?_) (λcdv A outer s H vs Q E hr h=>?_)
 ·obtain ⟨sd,c,g,l,y,wy,da,dn,rfl,_⟩:=h
  rfl
 ·obtain ⟨sd,c,g,l,y,wy,da,dn,rfl,S,LF,k⟩:=h
  have g30:=LF.g30
  refine ⟨_,(j4 (yI (i:=3) uT.nd rfl (iM rfl) (je c_law_ride (hr.mono ⋯) rfl (j0 (pv 0) (j0 (pv 1) (j0 (pv 2) j2)))))
   (j9 (jk (qa (osc:=(j8 zW)) (ON:=["_law_scene_here","_law_lane","_law_year_here","_law_ride_here"]) (N:=["_law_place","_law_ride_here"]) (own:=1) (caps:=[3]) ⟨rfl,∅,∅,∅,rfl,∅⟩ rfl rfl rfl (qi rfl nb.b_range (j0 (jc (jf K) rfl nb.b_len aR (j0 (js (jd K) (jH (jO hr) (pv 0) jt (λ_ _=>rfl)) (pv 1) (λ_ _=>rfl)) j2)) j2)) (λ_ _ _ _ _=>(ja (i:=0) (show bu (["_law_place","_law_ride_here"]:List Str) by decide +kernel) rfl (aQ rfl))) (λ_ _ _ _ _=>jN) (λ_ _ _ _ _=>(jo qx (pv 1) (pv 0))))))),?_⟩
  left
  simp only [Vg,aN]
  refine Uy S LF λH1 f1=>?_
  have S1:=S.frM f1
  obtain ⟨ga,ega,hga⟩:=S1.gnd LF
  left
  refine ⟨sd,.ref c.gl,rfl,by rw [<- qU c.p c.q c.sg c.gl c.ll];exact qR.k (k:=.inr "grounds") S1.sd,?_⟩
  left
  refine ⟨_,_,_,_,rfl,rfl,SqL.of S1.gl,ega,?_⟩
  left
  refine ⟨ga,_,rfl,.inl (SqL.of hga),?_⟩
  rw [ah]
  left
  refine ⟨(),(),λacc hacc=>?_⟩
  refine qX (lo:=0) (n:=(((jb c.rs wy).length:Nat):Int).toNat) (acc:=acc) (λi σ H2=>∃x:Option V,σ=[x,some (.int (y+jg dn y))]/\H2 acc=some (.lst ((zJ (y+jg dn y) i).map V.int))/\Ext acc H1 H2) ?_ ?_ ?_
  ·exact ⟨none,rfl,j6,Ext.put⟩
  ·rintro i σ H2 hi ⟨x,rfl,h2,e2⟩
   left
   refine ⟨_,h2,by rw [ah,vA];exact jh (),_,rfl,?_,e2.trans Ext.put⟩
   unfold zJ
   rw [j6,cG,aG,aG,eE]
   rfl
  ·rintro σ H2 ⟨x,rfl,h2,e2⟩
   rw [bF] at h2
   left
   exact k acc H2 (f1.no hacc) h2 (f1.trans (FrM.of_same λc o hc=>e2 c o hc (j1 hc hacc)))
noncomputable def JX (t:T3):List Key:=[.inl t.1,.inl t.2.1,.inl t.2.2]
noncomputable def jz (H:Hp) (ps:List (Int×Addr)) (cs:List (Int×List T3)):Prop:=d0 (λ(z:Int×Addr) (q:Int×List T3)=>z.1=q.1/\∃out,H z.2=some (.lst out)/\jp H out q.2) ps cs
noncomputable def qy (G:List Key->List V->Prop) (H:Hp) (ea:Addr) (n:Nat):Prop:=∃kvs:List (List Key×V),H ea=some (.dT kvs)/\kvs.length<=n/\∀k v,jZ kvs k=some v->∃t xs,v=V.ref t/\H t=some (.tup xs)/\G k xs
theorem qy.mono {n m:Nat}(h:qy G H ea n) (l:n<=m):qy G H ea m:=by
 obtain ⟨kvs,h1,h2,h3⟩:=h
 exact ⟨kvs,h1,aH h2 l,h3⟩
theorem qy.keep {n:Nat}(h:qy G H ea n) (t:ji H H') (d:∀kvs,H ea=some (.dT kvs)->H' ea=some (.dT kvs)):qy G H' ea n:=by
 obtain ⟨kvs,h1,h2,h3⟩:=h
 refine ⟨kvs,d _ h1,h2,λk v hv=>?_⟩
 obtain ⟨t',xs,e,h4,g⟩:=h3 k v hv
 exact ⟨t',xs,e,t _ _ h4,g⟩
theorem qy.put {G:List Key->List V->Prop}{H:Hp}{t:Addr}{n:Nat}{kvs:List (List Key×V)}{k:List Key}{xs:List V}(h1:H ea=some (.dT kvs)) (h2:kvs.length<=n) (h3:∀k v,jZ kvs k=some v->∃t xs,v=V.ref t/\H t=some (.tup xs)/\G k xs) (ht:H t=some (.tup xs)) (g:G k xs):qy G (upd H ea (.dT (qC kvs k (.ref t)))) ea (n+1):=by
 have nT:∀{a:Addr} {ys:List V},H a=some (.tup ys)->(upd H ea (.dT (qC kvs k (.ref t)))) a=some (.tup ys):=λh=>by rw [j7 (jn h h1 (by walk_at "z"))];exact h
 refine ⟨_,j6,aH (zO _ _ _) (),λk' v hv=>?_⟩
 rw [UT] at hv
 by_cases e:k'=k
 ·rw [if_pos e] at hv
  cases hv
  subst e
  exact ⟨t,xs,rfl,nT ht,g⟩
 ·rw [if_neg e] at hv
  obtain ⟨t',ys,e',h4,g'⟩:=h3 k' v hv
  exact ⟨t',ys,e',nT h4,g'⟩
theorem jz.keep {ps:List (Int×Addr)}(h:jz H ps cs) (t:ji H H') (l:∀z∈ps,∀out,H z.2=some (.lst out)->H' z.2=some (.lst out)):jz H' ps cs:=pmM h λz hz q ⟨e,out,h1,h2⟩=>⟨e,out,l z hz out h1,jp.keep h2 t⟩
noncomputable def qM (cs:List (Int×List T3)) (m:Int):List T3:=((cs.find? λq=>decide (q.1=m)).map (·.2)).getD []
noncomputable def yW (hs:List T3) (y p w:Int):List T3:=if 0<w then hs++(aI w.toNat).map (λk:Nat=>(y,p,(k:Int))) else hs.take (hs.length-(- w).toNat)
theorem jz.find :∀{ps:List (Int×Addr)}{cs:List (Int×List T3)},jz H ps cs->∀m:Int,(jZ (ps.map kvA) (.inl m)=none/\qM cs m=[])\/∃a out,jZ (ps.map kvA) (.inl m)=some (.ref a)/\H a=some (.lst out)/\jp H out (qM cs m)/\∃q∈cs,q.2=qM cs m
 | _,_,.nil,m=>.inl ⟨rfl,rfl⟩
 | _,_,.cons (a:=z) (b:=q) ⟨e,out,h1,h2⟩ r,m=>by
  by_cases w:z.1=m
  ·refine .inr ⟨z.2,out,?_,h1,?_⟩
   ·rw [aM]
    show jZ (((.inl z.1:Key),V.ref z.2)::_) (.inl m:Key)=_
    rw [w]
    exact xo
   ·have e2:∀l,qM (q::l) m=q.2:=λl=>by
     unfold qM
     rw [ib (by rw [decide_eq_true (e ▸ w)])]
     rfl
    rw [e2]
    exact ⟨h2,q,aB ..,rfl⟩
  ·have e2:∀l,qM (q::l) m=qM l m:=λl=>by
    unfold qM
    rw [ic (by rw [decide_eq_false (λx=>w (e.trans x))];exact au)]
   have e3:∀l:List (Int×Addr),jZ ((z::l).map kvA) (.inl m)=jZ (l.map kvA) (.inl m):=λl=>by
    rw [aM]
    exact jw λx=>w (dW x)
   rw [e2,e3]
   rcases jz.find r m with h | ⟨a,o,g1,g2,g3,q',hq',g4⟩
   ·exact .inl h
   ·exact .inr ⟨a,o,g1,g2,g3,q',aF _ hq',g4⟩
theorem jz.keep2 {H':Hp}{ea pa:Addr}(h:jz H ps cs) (k:∀a u,H a=some u->a≠ea->a≠pa->H' a=some u) (e:∀xs,H ea≠some (.lst xs)/\H ea≠some (.tup xs)) (p:∀xs,H pa≠some (.lst xs)/\H pa≠some (.tup xs)):jz H' ps cs :=
 h.keep (λa xs ha=>k a _ ha (λz=>(e xs).2 (z ▸ ha)) (λz=>(p xs).2 (z ▸ ha))) λz _ out ho=>k _ _ ho (λw=>(e out).1 (w ▸ ho)) (λw=>(p out).1 (w ▸ ho))
theorem jz.none {m:Int}:∀{ps:List (Int×Addr)}{cs:List (Int×List T3)},jz H ps cs->(∀q∈cs,q.1≠m)->jZ (ps.map kvA) (.inl m)=none
 | _,_,.nil,_=>rfl
 | _,_,.cons (a:=z) (b:=q) ⟨e,_⟩ r,n=>by
  rw [aM]
  show jZ (((.inl z.1:Key),V.ref z.2)::_) (.inl m:Key)=_
  rw [jw λx=>n q (aB ..) (e.symm.trans (dW x))]
  exact jz.none r λq' h=>n q' (aF _ h)
theorem jz.snoc :∀{ps:List (Int×Addr)}{cs:List (Int×List T3)}{m:Int}{a:Addr}{out:List V}{hs:List T3},jz H ps cs->H a=some (.lst out)->jp H out hs->jz H (ps++[(m,a)]) (cs++[(m,hs)])
 | _,_,_,_,out,_,.nil,h1,h2=>.cons ⟨rfl,out,h1,h2⟩ .nil
 | _,_,_,_,_,_,.cons h r,h1,h2=>.cons h (jz.snoc r h1 h2)
theorem gR :∀{vs:List V}{ts:List T3}(n:Nat),jp H vs ts->jp H (vs.take n) (ts.take n)
 | _,_,0,_=>.nil
 | _,_,_+1,.nil=>.nil
 | _,_,n+1,.cons h r=>.cons h (gR n r)
theorem Vz (hs:List T3) (y p w:Int) {cnt:Nat}(h1:0<w->cnt=0) (h2:¬0<w->cnt=min hs.length (- w).toNat):(hs++(aI w.toNat).map (λk:Nat=>(y,p,(k:Int)))).take ((hs++(aI w.toNat).map (λk:Nat=>(y,p,(k:Int)))).length-cnt)=yW hs y p w:=by
 unfold yW
 by_cases z:0<w
 ·rw [if_pos z,h1 z,mD,aY]
 ·rw [if_neg z,show w.toNat=0 by right,mP,fh,aN,h2 z]
  congr 1
  right
theorem GW {t:T3}(g:good t=true) (h:Int) : -9<=chg t h:=by
 have g:0<=t.1/\t.1<=100/\0<=t.2.1/\t.2.1<=9/\0<=t.2.2/\t.2.2<=9:=of_decide_eq_true g
 unfold chg
 split <;> right
noncomputable def Xk:Sp:=λvs H Q _=>∃(sd:Addr) (c:ScN) (g:IceG) (l y:Int) (wy:List Int) (da:Addr) (dn:List (Int×Int)) (wr:List (Int×T3)) (pa ea:Addr) (ps:List (Int×Addr)) (cs:List (Int×List T3)) (n:Nat) (G:List Key->List V->Prop),vs=[.ref sd,.int l,.ref pa,.int y,.ref ea]/\ScAt H sd c/\LaneF c g l wy da dn/\zG H c.sk wr/\1<=c.ts.length/\c.ts.length<=1000/\(∀z,good (zu wr c.ts z)=true)/\H pa=some (.dK (ps.map kvA))/\pa≠sd/\(ps.map (·.1)).Nodup/\ps.length<=100/\jz H ps cs/\(∀q∈cs,q.2.length<=800)/\qy G H ea n/\n<=16000000 /\
 (∀q∈cs,¬q.1∈zJ (y+jg dn y) (jb c.rs wy).length->∀h∈q.2,G (JX h) [.str "off",.int y]) /\
 (∀p:Nat,p<(jb c.rs wy).length->∀k:Nat,k<(- chg (zu wr c.ts y) ((jb c.rs wy).getD p 0)).toNat->k<(qM cs (y+jg dn y-(p:Int))).length->∀h,(qM cs (y+jg dn y-(p:Int)))[(qM cs (y+jg dn y-(p:Int))).length-1-k]? = some h->G (JX h) [.str "melt",.int y,.int (p:Int),.int (k:Int)]) /\
 ∀(la:Addr) (ps2:List (Int×Addr)) (H':Hp),H la=none->H' la=some (.dK (ps2.map kvA))->jz H' ps2 ((aI (jb c.rs wy).length).map λp:Nat=>(y+jg dn y-(p:Int),yW (qM cs (y+jg dn y-(p:Int))) y (p:Int) (chg (zu wr c.ts y) ((jb c.rs wy).getD p 0))))->(∀z∈ps2,H z.2=none)->qy G H' ea (n+120000)->Fr3 (λa=>a=ea) (λa=>c.D a\/a=pa) H H'->Q (.ref la) H'
theorem jL:FnScope ["_law_scene_here","_law_lane","_law_piles","_law_year_here","_law_ends","_law_marks_here","_law_later","_law_gone","_law_hand","_law_place","_law_one","_law_hands","_law_many","_law_layer","_law_turn"] ["_law_scene_here","_law_lane","_law_piles","_law_year_here","_law_ends"] (j8 zZ):=by walk_at "s"
theorem Z9 (nb:Nb2 mg) (c_law_marks:Cal P w K mg base 2 "_law_marks" ["_law_scene_here","_law_lane","_law_year_here"] QJ) (c_law_wish:Cal P w K mg base 1 "_law_wish" ["_law_row_here","_law_height"] Uo) (c_law_row:Cal P w K mg base 1 "_law_row" ["_law_scene_here","_law_year_here"] UZ)
  (F:Fun K "_law_year_of" "_law_year_of" zZ f fd):FnOk P w K mg base CX0 3 f fd ["_law_scene_here","_law_lane","_law_piles","_law_year_here","_law_ends"] Xk:=by
 refine F.ok jL (λvs H Q E h=>?_) (λcdv A outer s H vs Q E hr h=>?_)
 ·obtain ⟨sd,c,g,l,y,wy,da,dn,wr,pa,ea,ps,cs,n,G,rfl,_⟩:=h
  rfl
 ·obtain ⟨sd,c,g,l,y,wy,da,dn,wr,pa,ea,ps,cs,n,G,rfl,S,LF,hw,t1,t2,sg,hpa,pasd,nd,p100,P0,c800,E0',hn7,hoff,hmelt,k⟩:=h
  have g30:=LF.g30
  have gAt:=λ{H':Hp} (S':ScAt H' sd c)=>S'.gnd LF
  have nds:∀{H':Hp} {n':Nat} {xs:List V},qy G H' ea n'->H' ea≠some (.lst xs)/\H' ea≠some (.tup xs):=λh=>by
   obtain ⟨kvs,h1,_⟩:=h
   rw [h1]
   exact ⟨(by walk_at "z"),(by walk_at "z")⟩
  have npd:∀{H':Hp} {xs:List V},Rd H' pa (.dK (ps.map kvA))->H' pa≠some (.lst xs)/\H' pa≠some (.tup xs):=λh=>by
   rcases h with h | ⟨o,h⟩ <;> (rw [h];exact ⟨(by walk_at "z"),(by walk_at "z")⟩)
  have eaN:∀{a:Addr} {u:HO},H a=some u->(∀kvs,u≠.dT kvs)->¬a=ea:=λh d w=>by
   obtain ⟨kvs,h1,_⟩:=E0'
   rw [w,h1] at h
   exact d kvs (aW h).symm
  generalize hgd:jb c.rs wy=gd at *
  refine ⟨_,(j4 (jr 5 jL.nd (je c_law_marks (hr.mono ⋯) rfl (j0 (pv 0) (j0 (pv 1) (j0 (pv 3) j2)))))
   (j4 (jr 6 jL.nd yq)
   (j4 (qw aX rfl (k9 (pv 2)) (ja (i:=7) jL.nd rfl (aQ rfl)) (j9 (jS (jA (xS K) (pv 7) (pv 5) (by with_unfolding_all rfl)) (j9 (qw aX rfl (qc K (jH (jO hr) (pv 2) (pv 7) (λ_ _=>rfl))) (ja (i:=8) jL.nd rfl (aQ rfl)) (j9 (zp (jO hr) (pv 4) (pv 8) (jI (j0 jt (j0 (pv 3) j2))) rfl)))) jx)))
   (j4 (qw aX rfl (km K rfl nb.b_enumerate (j0 (pv 5) j2)) (qj (n:=2) K rfl (jm (ja (i:=9) jL.nd rfl (aQ rfl)) (jm (ja (i:=10) jL.nd rfl (aQ rfl)) qh))) (j4 (jr 11 jL.nd (qA (qu K) rfl nb.b_list bT (j0 (gg (jO hr) (pv 2) (pv 10) (jC j2) ⟨rfl,rfl,rfl,rfl⟩) j2)))
   (j4 (jr 12 jL.nd (je c_law_wish (hr.mono ⋯) rfl (j0 (je c_law_row (hr.mono ⋯) rfl (j0 (pv 0) (j0 (pv 3) j2))) (j0 (js (jd K) (js (jd K) (jH (jO hr) (pv 0) jt (λ_ _=>rfl)) (pv 1) (λ_ _=>rfl)) (pv 9) (λ_ _=>rfl)) j2))))
   (j4 (qw aX rfl (qi rfl nb.b_range (j0 (jc (zx rfl) rfl nb.b_max nW (j0 j5 (j0 (pv 12) j2))) j2)) (ja (i:=13) jL.nd rfl (aQ rfl)) (j9 (jP (xP K b7 bf bg jX (pv 11) (j0 (jI (j0 (pv 3) (j0 (pv 9) (j0 (pv 13) j2)))) j2)))))
   (j4 (qw aX rfl (qi rfl nb.b_range (j0 (jc (yi rfl) rfl nb.b_min pY (j0 (jc (jf K) rfl nb.b_len aR (j0 (pv 11) j2)) (j0 (jc (zx rfl) rfl nb.b_max nW (j0 j5 (j0 (jo qx j5 (pv 12)) j2))) j2))) j2)) (ja (i:=14) jL.nd rfl (aQ rfl)) (j9 (zp (jO hr) (pv 4) (ZW K b7 mX mY Ua (pv 11)) (jI (j0 jt (j0 (pv 3) (j0 (pv 9) (j0 (pv 14) j2))))) rfl)))
   (j9 (zp (jO hr) (pv 6) (pv 10) (pv 11) rfl)))))))
   (j9 (jk (pv 6))))))),?_⟩
  left
  refine ⟨sd,c,g,l,y,wy,da,dn,rfl,S,LF,λmk H1 hmk hmk1 f1=>?_⟩
  rw [hgd] at hmk1
  have E1:qy G H1 ea n:=E0'.keep (FrM.keepT f1) λkvs h=>f1.at h (by walk_at "w")
  have hpa1:=f1.rd (.inl hpa)
  have P1:jz H1 ps cs:=P0.keep (FrM.keepT f1) λz _ out h=>f1.at h (by walk_at "w")
  left
  intro la hla
  have hlaH:H la=none:=f1.no hla
  have s2:jj H1 (upd H1 la (.dK [])):=jj.new hla
  have hla2:(upd H1 la (.dK [])) la=some (.dK []):=j6
  have hmk2:=s2 _ _ hmk1
  have E2:qy G (upd H1 la (.dK [])) ea n:=E1.keep (ji.same s2) λkvs h=>s2 _ _ h
  have hpa2:Rd (upd H1 la (.dK [])) pa (.dK (ps.map kvA)):=hpa1.imp (λh=>s2 _ _ h) λ⟨o,h⟩=>⟨o,s2 _ _ h⟩
  have P2:jz (upd H1 la (.dK [])) ps cs:=P1.keep (ji.same s2) λz _ out h=>s2 _ _ h
  have lapa:la≠pa:=λz=>by
   rcases hpa1 with h | ⟨o,h⟩ <;> (rw [<- z,hla] at h;cases h)
  have laea:la≠ea:=λz=>by
   obtain ⟨kvs,h,_⟩:=E1
   rw [<- z,hla] at h
   cases h
  have f02:FrM c.D H (upd H1 la (.dK [])):=f1.put hlaH
  clear s2 E1 P1 hpa1 hmk1
  generalize upd H1 la (.dK [])=H2 at *
  generalize hR:y+jg dn y=R at *
  left
  refine wv (kvs:=ps.map kvA) hpa2 (λo i σ H3=>∃x7 x8:Option V,σ=[some (.ref sd),some (.int l),some (.ref pa),some (.int y),some (.ref ea),some (.ref mk),some (.ref la),x7,x8,none,none,none,none,none,none]/\H3 pa=some (.frz o (.dK (ps.map kvA)))/\qy G H3 ea (n+900*i)/\∀a u,H2 a=some u->a≠ea->a≠pa->H3 a=some u) ?_ ?_ ?_ ?_
  ·intro o H3 f3
   exact ⟨_,_,rfl,f3.1,E2.keep (λa xs h=>f3.at h λz=>(npd hpa2).2 (z ▸ h)) (λkvs h=>f3.at h λz=>by rcases hpa2 with q | ⟨o,q⟩ <;> (rw [<- z,h] at q;cases q)),λa u h n1 n2=>f3.at h n2⟩
  ·rintro o i σ H3 hi ⟨x7,x8,rfl,hpa3,E3,k3⟩
   exact hpa3
  ·rintro o i q σ H3 hq ⟨x7,x8,rfl,hpa3,E3,k3⟩
   rw [aA] at hq
   obtain ⟨z,hz,rfl⟩:=Option.map_eq_some_iff.mp hq
   have hi:i<ps.length:=(List.getElem?_eq_some_iff.mp hz).1
   obtain ⟨q,hqc,eq,out,hout,hrows⟩:=Paired.get P2 hz
   have hq800:=c800 q (az hqc)
   have hol:out.length=q.2.length:=aT hrows
   have hmk3:=k3 _ _ hmk2 (λw=>(nds E2).1 (w ▸ hmk2)) (λw=>(npd hpa2).1 (w ▸ hmk2))
   show uu 7 (V.int z.1) _ _ _
   left
   refine ⟨mk,_,rfl,.inl (SqL.of hmk3),rfl,ym _,?_⟩
   left
   rw [vq]
   refine zo (λhin=>?_) (λhin=>?_)
   ·have hof:=hoff q (az hqc) (by rw [<- eq];exact hin)
    left
    refine ⟨pa,.ref z.2,rfl,by rw [<- vD nd (az hz)];exact .inl ⟨_,.inl z.1,.inr ⟨o,hpa3⟩,rfl,rfl⟩,?_⟩
    have zea:z.2≠ea:=λw=>(nds E2).1 (w ▸ hout)
    have zpa:z.2≠pa:=λw=>(npd hpa2).1 (w ▸ hout)
    refine ⟨z.2,rfl,⟨_,SqL.of (k3 _ _ hout zea zpa)⟩,?_⟩
    refine zD (K:=K) (a:=z.2) (xs:=out) (λj σ H4=>∃x8:Option V,σ=[some (.ref sd),some (.int l),some (.ref pa),some (.int y),some (.ref ea),some (.ref mk),some (.ref la),some (.int z.1),x8,none,none,none,none,none,none]/\H4 pa=some (.frz o (.dK (ps.map kvA)))/\qy G H4 ea (n+900*i+j)/\∀a u,H2 a=some u->a≠ea->a≠pa->H4 a=some u) ?_ ?_ ?_ ?_
    ·exact ⟨_,rfl,hpa3,E3,k3⟩
    ·rintro j σ H4 hj ⟨x8,rfl,hpa4,E4,k4⟩
     exact SqL.of (k4 _ _ hout zea zpa)
    ·rintro j v σ H4 hv ⟨x8,rfl,hpa4,E4,k4⟩
     obtain ⟨h,hh,b,rfl,hb⟩:=Paired.get hrows hv
     have hj:j<out.length:=(List.getElem?_eq_some_iff.mp hv).1
     have hb4:=k4 _ _ hb (λw=>(nds E2).2 (w ▸ hb)) (λw=>(npd hpa2).2 (w ▸ hb))
     left
     refine ⟨by show 2<=sizeLine;decide,λt H5 ht ht5 s5=>?_⟩
     obtain ⟨kvs,e1,e2,e3⟩:=E4.keep (ji.same s5) λkvs h=>s5 _ _ h
     left
     refine ⟨ea,_,rfl,vY.t (k:=JX h) e1 (s5 _ _ hb4) (by rw [bE];right),?_⟩
     refine ⟨_,rfl,?_,qy.put e1 e2 e3 ht5 (hof h (az hh)),λa u ha n1 n2=>by rw [j7 n1];exact s5 _ _ (k4 a u ha n1 n2)⟩
     rw [j7 (jn (s5 _ _ hpa4) e1 (by walk_at "z"))]
     exact s5 _ _ hpa4
    ·rintro σ H4 ⟨x8,rfl,hpa4,E4,k4⟩
     exact ⟨_,_,rfl,hpa4,E4.mono (),k4⟩
   ·exact ⟨_,_,rfl,hpa3,E3.mono (),k3⟩
  rintro o σ H3 ⟨x7,x8,rfl,hpa3,E3,k3⟩
  rw [ah] at E3
  have hla3:=k3 _ _ hla2 laea lapa
  have hmk3:=k3 _ _ hmk2 (λw=>(nds E2).1 (w ▸ hmk2)) (λw=>(npd hpa2).1 (w ▸ hmk2))
  have P3:=P2.keep2 k3 (λxs=>nds E2) (λxs=>npd hpa2)
  have E3:=E3.mono (show n+900*ps.length<=n+90000 by right)
  have f03:Fr3 (λa=>a=ea) (λa=>c.D a\/a=pa) H H3:=λa u ha na=>by
   by_cases w:a=pa
   ·subst w
    rw [hpa] at ha
    cases ha
    exact .inr ⟨.inr rfl,o,_,rfl,hpa3⟩
   ·rcases f02 a u ha with h | ⟨m,ob,kvs,eo,h⟩
    ·exact .inl (k3 a u h na w)
    ·exact .inr ⟨.inl m,ob,kvs,eo,k3 a _ h na w⟩
  have mkea:mk≠ea:=λw=>(nds E3).1 (w ▸ hmk3)
  have mkla:mk≠la:=jn hmk3 hla3 (by walk_at "z")
  have pala:pa≠la:=lapa.symm
  have paea:pa≠ea:=by
   obtain ⟨kvs,h1,_⟩:=E3
   exact jn hpa3 h1 (by walk_at "z")
  have ndl:∀xs,H3 la≠some (.lst xs)/\H3 la≠some (.tup xs):=λxs=>by
   rw [hla3]
   exact ⟨(by walk_at "z"),(by walk_at "z")⟩
  clear E2 P2 hmk2 hla2 hpa2 k3 f02 f1 hla
  left
  refine ⟨⟨_,SqL.of hmk3⟩,?_⟩
  refine kO (K:=K) (a:=mk) (xs:=(zJ R gd.length).map V.int) (λp σ H4=>∃(x9 x10 x11 x12 x13 x14:Option V) (ps2:List (Int×Addr)),σ=[some (.ref sd),some (.int l),some (.ref pa),some (.int y),some (.ref ea),some (.ref mk),some (.ref la),x7,x8,x9,x10,x11,x12,x13,x14]/\H4 la=some (.dK (ps2.map kvA))/\ps2.length=p/\jz H4 ps2 ((aI p).map λp:Nat=>(R-(p:Int),yW (qM cs (R-(p:Int))) y (p:Int) (chg (zu wr c.ts y) (gd.getD p 0))))/\(∀z∈ps2,H z.2=none)/\qy G H4 ea (n+90000+1000*p)/\∀a u,H3 a=some u->a≠ea->a≠la->H4 a=some u) ?_ ?_ ?_ ?_
  ·exact ⟨_,_,_,_,_,_,[],rfl,hla3,rfl,.nil,(λz h=>nomatch h),E3,λa u h _ _=>h⟩
  ·rintro p σ H4 hp' ⟨x9,x10,x11,x12,x13,x14,ps2,rfl,hla4,hl4,P4,n4,E4,k4⟩
   exact SqL.of (k4 _ _ hmk3 mkea mkla)
  ·rintro p v σ H4 t hv' ⟨x9,x10,x11,x12,x13,x14,ps2,rfl,hla4,hl4,P4,n4,E4,k4⟩ ht
   obtain ⟨one,rfl,hone⟩:=yA hv'
   have hpn':p<gd.length:=by have:=(List.getElem?_eq_some_iff.mp hone).1;rw [vA] at this;exact this
   rw [Xf hpn'] at hone
   have hone:=aW hone
   subst hone
   have sT:jj H4 (upd H4 t (.tup [.int (p:Int),.int (R-(p:Int))])):=jj.new ht
   have hla5:=sT _ _ hla4
   have P5:=P4.keep (ji.same sT) λz _ out h=>sT _ _ h
   have E5:=E4.keep (ji.same sT) λkvs h=>sT _ _ h
   have k5:∀a u,H3 a=some u->a≠ea->a≠la->(upd H4 t (.tup [.int (p:Int),.int (R-(p:Int))])) a=some u:=λa u h n1 n2=>sT _ _ (k4 a u h n1 n2)
   left
   refine ⟨t,_,rfl,SqT.of j6,rfl,?_⟩
   refine ⟨_,_,rfl,_,_,rfl,rfl,?_⟩
   left
   clear hla4 P4 E4 k4 ht sT
   generalize upd H4 t (.tup [.int (p:Int),.int (R-(p:Int))])=H5 at *
   have hpa5:=k5 _ _ hpa3 paea pala
   refine ⟨.inl ⟨_,.inr ⟨o,hpa5⟩⟩,?_⟩
   left
   refine ⟨aJ _,λez H6 hez hez6 s6=>?_⟩
   left
   refine ⟨_,.inl ⟨_,.inl (R-(p:Int)),.inr ⟨o,s6 _ _ hpa5⟩,rfl,rfl⟩,?_⟩
   have P3':jz H6 ps cs:=P3.keep2 (ea:=ea) (pa:=la) (λa u h n1 n2=>s6 _ _ (k5 a u h n1 n2)) (λxs=>nds E3) ndl
   obtain ⟨ha,out,ev,hha,hro,ho8⟩:∃(ha:Addr) (out:List V),((jZ (ps.map kvA) (.inl (R-(p:Int)))).getD (V.ref ez)) = .ref ha/\H6 ha=some (.lst out)/\jp H6 out (qM cs (R-(p:Int)))/\(qM cs (R-(p:Int))).length<=800:=by
    rcases jz.find P3' (R-(p:Int)) with ⟨e1,e2⟩ | ⟨a,out,e1,h1,h2,q,hq,eq⟩
    ·exact ⟨ez,[],by rw [e1];rfl,hez6,by rw [e2];exact .nil,by rw [e2];exact aJ _⟩
    ·exact ⟨a,out,by rw [e1];rfl,h1,h2,by rw [<- eq];exact c800 q hq⟩
   rw [ev]
   left
   refine ⟨ha,out,rfl,.inl (SqL.of hha),λhd H7 hhd hhd7 s7=>?_⟩
   have s57:=s6.trans s7
   have hla7:=s57 _ _ hla5
   have P7:=P5.keep (ji.same s57) λz _ out h=>s57 _ _ h
   have E7:=E5.keep (ji.same s57) λkvs h=>s57 _ _ h
   have k7:∀a u,H3 a=some u->a≠ea->a≠la->H7 a=some u:=λa u h n1 n2=>s57 _ _ (k5 a u h n1 n2)
   have r7:=jp.same hro s7
   have f07:Fr3 (λa=>a=ea) (λa=>c.D a\/a=pa) H H7:=λa u ha na=>by
    have w:a≠la:=j1 ha hlaH
    rcases f03 a u ha na with h | ⟨m,ob,kvs,eo,h⟩
    ·exact .inl (k7 a u h na w)
    ·exact .inr ⟨m,ob,kvs,eo,k7 a _ h na w⟩
   have S7:=S.keep f07 (λa xs h=>eaN h (by walk_at "w")) (eaN S.sd (by walk_at "w")) (λz=>z.elim S.nD λw=>pasd w.symm) (eaN S.p (by walk_at "w")) (eaN S.q (by walk_at "w")) (eaN S.gl (by walk_at "w")) (eaN S.ll (by walk_at "w")) (λa ha=>by
    obtain ⟨i,hi⟩:=List.mem_iff_getElem?.mp ha
    obtain ⟨w,_,ga,e,hga⟩:=Paired.get S.gi hi
    cases e
    exact eaN hga (by walk_at "w")) (by rcases S.sg with h | ⟨ob,h⟩ <;> exact eaN h (by walk_at "w")) (λx hx=>by rcases S.ld x hx with h | ⟨ob,h⟩ <;> exact eaN h (by walk_at "w"))
   have hw7:zG H7 c.sk wr:=hw.keep λa xs h=>f07.at h (eaN h (by walk_at "w")) (by walk_at "w")
   obtain ⟨ga,ega,hga⟩:=gAt S7
   left
   refine ⟨sd,c,y,wr,rfl,S7,hw7,t1,t2,λtr htr=>?_⟩
   left
   refine ⟨sd,.ref c.gl,rfl,by rw [<- qU c.p c.q c.sg c.gl c.ll];exact qR.k (k:=.inr "grounds") S7.sd,?_⟩
   left
   refine ⟨_,_,_,_,rfl,rfl,SqL.of S7.gl,ega,?_⟩
   left
   refine ⟨_,_,_,_,rfl,rfl,SqL.of hga,qQ (v:=V.int (gd.getD p 0)) () (by rw [bF,aA,ao,af hpn'];rfl),?_⟩
   left
   refine ⟨tr,_,_,rfl,htr,?_⟩
   left
   have hmp:=hmelt p hpn'
   have hb1:=Z4 (sg y) (gd.getD p 0)
   have hb2:=GW (sg y) (gd.getD p 0)
   clear S7 hw7 htr hga ega hmelt hoff
   generalize hwsh:chg (zu wr c.ts y) (gd.getD p 0)=wsh at *
   generalize hold:qM cs (R-(p:Int))=hs at *
   refine ⟨_,_,rfl,?_⟩
   left
   have hmx:((if wsh > 0 then wsh else 0).toNat)=wsh.toNat:=by split <;> right
   refine ⟨by split <;> right,by split <;> right,?_⟩
   rw [hmx]
   refine xu (λj σ H8=>∃(x13:Option V) (o8:List V),σ=[some (.ref sd),some (.int l),some (.ref pa),some (.int y),some (.ref ea),some (.ref mk),some (.ref la),x7,x8,some (.int (p:Int)),some (.int (R-(p:Int))),some (.ref hd),some (.int wsh),x13,x14]/\H8 hd=some (.lst o8)/\jp H8 o8 (hs++(aI j).map (λk:Nat=>(y,(p:Int),(k:Int))))/\Ext hd H7 H8) ?_ ?_ ?_
   ·exact ⟨_,out,rfl,hhd7,by rw [mP,fh,aN];exact r7,λc o h _=>h⟩
   ·rintro j σ H8 hj ⟨x13',o8,rfl,h8,r8,e8⟩
    have ol:=r8.length
    rw [aq,ah,bp] at ol
    left
    refine ⟨.inl ⟨rfl,_,SqL.of h8⟩,?_⟩
    left
    refine ⟨by show 3<=sizeLine;decide,λq H9 hq hq9 s9=>?_⟩
    rw [eE] at hq9
    left
    refine ⟨hd,o8,_,rfl,rfl,s9 _ _ h8,jh (),?_⟩
    refine ⟨_,o8++[.ref q],rfl,j6,?_,λc u hc nc=>by rw [j7 nc];exact s9 _ _ (e8 c u hc nc)⟩
    rw [cG,aG,<- cj]
    exact d5 (jp.keep (jp.same r8 s9) λa xs z=>by rw [j7 (jn z (s9 _ _ h8) (by walk_at "z"))];exact z) ⟨q,rfl,by rw [j7 (j1 h8 hq).symm];exact hq9⟩
   rintro σ H8 ⟨x13',o8,rfl,h8,r8,e8⟩
   have ol:=r8.length
   have hl2:(hs++(aI wsh.toNat).map (λk:Nat=>(y,(p:Int),(k:Int)))).length=hs.length+wsh.toNat:=by rw [aq,ah,bp]
   rw [hl2] at ol
   have E8:qy G H8 ea (n+90000+1000*p):=E7.keep (λa xs h=>e8 _ _ h (jn h hhd7 (by walk_at "z"))) λkvs h=>e8 _ _ h (jn h hhd7 (by walk_at "z"))
   left
   refine ⟨_,_,rfl,.inl (SqL.of h8),?_⟩
   left
   refine ⟨_,_,rfl,?_⟩
   left
   refine ⟨_,_,rfl,?_⟩
   left
   have hcn:∃cn:Int,(if (if 0-wsh > 0 then 0-wsh else 0)<(o8.length:Int) then (if 0-wsh > 0 then 0-wsh else 0) else (o8.length:Int))=cn/\0<=cn/\cn<=(o8.length:Int)/\(0<wsh->cn.toNat=0)/\(¬0<wsh->cn.toNat=min hs.length (- wsh).toNat):=by
    refine ⟨_,rfl,?_⟩
    by_cases z:0-wsh > 0
    ·rw [if_pos z]
     split <;> (refine ⟨?_,?_,?_,?_⟩ <;> right)
    ·rw [if_neg z]
     split <;> (refine ⟨?_,?_,?_,?_⟩ <;> right)
   obtain ⟨cn,ecn,cn0,cnl,cn1,cn2⟩:=hcn
   rw [ecn]
   refine ⟨(),(),?_⟩
   refine xu (λj σ H10=>∃x14':Option V,σ=[some (.ref sd),some (.int l),some (.ref pa),some (.int y),some (.ref ea),some (.ref mk),some (.ref la),x7,x8,some (.int (p:Int)),some (.int (R-(p:Int))),some (.ref hd),some (.int wsh),x13',x14']/\H10 hd=some (.lst (o8.take (o8.length-j)))/\qy G H10 ea (n+90000+1000*p+j)/\∀a u,H8 a=some u->a≠hd->a≠ea->H10 a=some u) ?_ ?_ ?_
   ·exact ⟨_,rfl,by rw [mD,aY];exact h8,E8,λa u h _ _=>h⟩
   ·rintro j σ H10 hj ⟨x14',rfl,h10,E10,k10⟩
    have hjl:j<o8.length:=()
    have hng:wsh<0:=()
    have hw0:wsh.toNat=0:=()
    rw [hw0] at ol
    rw [hw0,mP,fh,aN] at r8
    obtain ⟨v,hv⟩:∃v,o8[o8.length-1-j]? = some v:=⟨_,af ()⟩
    obtain ⟨h,hh,b,rfl,hb⟩:=jp.get r8 hv
    have hb10:=k10 _ _ hb (jn hb h8 (by walk_at "z")) (λw=>(nds E8).2 (w ▸ hb))
    have hjw:j<(- wsh).toNat/\j<hs.length:=by have:=cn2 ();right
    have hG:=hmp j hjw.1 hjw.2 h (by rw [show hs.length=o8.length by right];exact hh)
    left
    refine ⟨by show 4<=sizeLine;decide,λt4 H11 ht4 ht411 s11=>?_⟩
    rw [eE] at ht411
    have h11:=s11 _ _ h10
    have e1d:(o8.take (o8.length-j)).dropLast=o8.take (o8.length-(j+1)):=by
     rw [List.dropLast_eq_take,aK,tG]
     congr 1
     right
    have e1v:(o8.take (o8.length-j))[(o8.take (o8.length-j)).length-1]? = some (.ref b):=by
     rw [aK,List.getElem?_take,if_pos (),show min (o8.length-j) o8.length-1=o8.length-1-j by right]
     exact hv
    left
    refine ⟨.inl ⟨rfl,_,SqL.of h11⟩,hd,_,_,rfl,rfl,h11,e1v,?_⟩
    rw [e1d]
    have nT:∀{a:Addr} {u:HO},H11 a=some u->(∀xs,u≠.lst xs)->(upd H11 hd (.lst (o8.take (o8.length-(j+1))))) a=some u:=λh d=>by
     rw [j7 (jn h h11 (d _))]
     exact h
    obtain ⟨kvs,e1,e2,e3⟩:=(E10.keep (ji.same s11) λkvs h=>s11 _ _ h).keep (H':=upd H11 hd (.lst (o8.take (o8.length-(j+1))))) (λa xs h=>nT h (by walk_at "w")) λkvs h=>nT h (by walk_at "w")
    refine ⟨ea,_,rfl,vY.t (k:=JX h) e1 (nT (s11 _ _ hb10) (by walk_at "w")) (by rw [bE];right),?_⟩
    refine ⟨_,rfl,?_,qy.put e1 e2 e3 (nT ht411 (by walk_at "w")) hG,λa u ha n1 n2=>by rw [j7 n2,j7 n1];exact s11 _ _ (k10 a u ha n1 n2)⟩
    rw [j7 (jn j6 e1 (by walk_at "z"))]
    exact j6
   rintro σ H10 ⟨x14',rfl,h10,E10,k10⟩
   have hdla:hd≠la:=(j1 (s6 _ _ hla5) hhd).symm
   have hdea:hd≠ea:=by
    obtain ⟨kvs,h,_⟩:=E5
    exact (j1 (s6 _ _ h) hhd).symm
   have up:∀{a:Addr} {u:HO},H5 a=some u->a≠ea->H10 a=some u:=λh n1=>k10 _ _ (e8 _ _ (s57 _ _ h) (j1 (s6 _ _ h) hhd)) (j1 (s6 _ _ h) hhd) n1
   have hla10:=up hla5 laea
   have hdH:H hd=none:=by
    cases e:H hd with
    | none=>rfl
    | some u =>
     rcases f03 hd u e hdea with h | ⟨_,ob,kvs,_,h⟩
     ·rw [s6 _ _ (k5 _ _ h hdea hdla)] at hhd
      cases hhd
     ·rw [s6 _ _ (k5 _ _ h hdea hdla)] at hhd
      cases hhd
   have P10:=P5.keep (H':=H10) (λa xs h=>up h λw=>(nds E5).2 (w ▸ h)) λz _ out h=>up h λw=>(nds E5).1 (w ▸ h)
   have r10:jp H10 (o8.take (o8.length-cn.toNat)) (yW hs y (p:Int) wsh):=by
    rw [<- Vz hs y (p:Int) wsh cn1 cn2,hl2,<- ol]
    exact jp.keep (gR _ r8) λa xs h=>k10 _ _ h (jn h h8 (by walk_at "z")) λw=>(nds E8).2 (w ▸ h)
   left
   refine ⟨la,_,rfl,vY.k (k:=.inl (R-(p:Int))) hla10 (by rw [ah];exact jh ()),?_⟩
   rw [yj _ (jz.none P10 λq hq=>by
    obtain ⟨k',hk',rfl⟩:=List.mem_map.mp hq
    have:=List.mem_range.mp hk'
    show R-(k':Int)≠R-(p:Int)
    right)]
   have nL:∀{a:Addr} {u v:HO},H10 a=some u->(∀kvs,u≠.dK kvs)->(upd H10 la v) a=some u:=λh d=>by
    rw [j7 (jn h hla10 (d _))]
    exact h
   refine ⟨_,_,_,_,_,_,ps2++[(R-(p:Int),hd)],rfl,by rw [j6,aG];rfl,by rw [aq,hl4];rfl,?_,λz hz=>?_,(E10.keep (λa xs h=>nL h (by walk_at "w")) λkvs h=>nL h (by walk_at "w")).mono (),λa u h n1 n2=>by rw [j7 n2];exact up (k5 a u h n1 n2) n1⟩
   ·rw [cG,aG]
    show jz _ _ (_++[(R-(p:Int),yW (qM cs (R-(p:Int))) y (p:Int) (chg (zu wr c.ts y) (gd.getD p 0)))])
    rw [hold,hwsh]
    exact jz.snoc (P10.keep (λa xs h=>nL h (by walk_at "w")) λz _ out h=>nL h (by walk_at "w")) (nL h10 (by walk_at "w")) (jp.keep r10 λa xs h=>nL h (by walk_at "w"))
   ·rcases List.mem_append.mp hz with h | h
    ·exact n4 z h
    ·rw [List.mem_singleton.mp h]
     exact hdH
  ·rintro σ H4 ⟨x9,x10,x11,x12,x13,x14,ps2,rfl,hla4,hl4,P4,n4,E4,k4⟩
   rw [ah,vA] at P4 E4
   left
   exact k la ps2 H4 hlaH hla4 P4 n4 (E4.mono ()) λa u ha na=>by
    have w:a≠la:=j1 ha hlaH
    rcases f03 a u ha na with h | ⟨m,ob,kvs,eo,h⟩
    ·exact .inl (k4 a u h na w)
    ·exact .inr ⟨m,ob,kvs,eo,k4 a _ h na w⟩
noncomputable def qK (dn:List (Int×Int)) (gd:List Int) (wr:List (Int×T3)) (ts:List T3):Nat->List (Int×List T3)
 | 0=>[]
 | i+1=>(aI gd.length).map λp:Nat=>((i:Int)+jg dn (i:Int)-(p:Int),yW (qM (qK dn gd wr ts i) ((i:Int)+jg dn (i:Int)-(p:Int))) (i:Int) (p:Int) (chg (zu wr ts (i:Int)) (gd.getD p 0)))
theorem V9 (dn:List (Int×Int)) (gd:List Int) (wr:List (Int×T3)) (ts:List T3):∀i,(qK dn gd wr ts i).length<=gd.length
 | 0=>aJ _
 | i+1=>by
  show (tj _ _).length<=_
  rw [ah,bp]
  exact ar _
theorem wH (dn:List (Int×Int)) (gd:List Int) (wr:List (Int×T3)) (ts:List T3):∀i,((qK dn gd wr ts i).map (·.1)).Nodup
 | 0=>.nil
 | i+1=>by
  show ((tj _ _).map _).Nodup
  rw [bZ]
  refine pW _ (λa b h=>?_) (rA (n:=gd.length))
  show (i:Int)+jg dn (i:Int)-(a:Int)≠(i:Int)+jg dn (i:Int)-(b:Int)
  right
theorem VF {y p w:Int}(h:w<=9):(yW hs y p w).length<=hs.length+9:=by
 unfold yW
 split
 ·rw [aq,ah,bp]
  right
 ·rw [aK]
  right
theorem XT {cs:List (Int×List T3)}{n:Nat}(h:∀q∈cs,q.2.length<=n) (m:Int):(qM cs m).length<=n:=by
 unfold qM
 cases e:cs.find? λq=>decide (q.1=m) with
 | none=>exact aJ _
 | some q=>exact h q (lI e)
theorem Qx {dn:List (Int×Int)}{gd:List Int}{wr:List (Int×T3)}{ts:List T3}(sg:∀z,good (zu wr ts z)=true):∀i,∀q∈qK dn gd wr ts i,q.2.length<=9*i
 | 0,q,h=>nomatch h
 | i+1,q,h=>by
  obtain ⟨p,_,rfl⟩:=List.mem_map.mp h
  have h1:=VF (hs:=qM (qK dn gd wr ts i) ((i:Int)+jg dn (i:Int)-(p:Int))) (y:=(i:Int)) (p:=(p:Int)) (Z4 (sg (i:Int)) (gd.getD p 0))
  have h2:=XT (Qx (dn:=dn) (gd:=gd) sg i) ((i:Int)+jg dn (i:Int)-(p:Int))
  show (yW _ _ _ _).length<=_
  right
theorem jz.keys :∀{ps:List (Int×Addr)}{cs:List (Int×List T3)},jz H ps cs->ps.map (·.1)=cs.map (·.1)
 | _,_,.nil=>rfl
 | _,_,.cons ⟨e,_⟩ r=>by rw [aM,aM,e,jz.keys r]
noncomputable def El (G:List Key->List V->Prop) (dn:List (Int×Int)) (gd:List Int) (wr:List (Int×T3)) (ts:List T3) (i:Nat):Prop :=
 (∀q∈qK dn gd wr ts i,¬q.1∈zJ ((i:Int)+jg dn (i:Int)) gd.length->∀h∈q.2,G (JX h) [.str "off",.int (i:Int)]) /\
 ∀p:Nat,p<gd.length->∀k:Nat,k<(- chg (zu wr ts (i:Int)) (gd.getD p 0)).toNat->k<(qM (qK dn gd wr ts i) ((i:Int)+jg dn (i:Int)-(p:Int))).length->∀h,(qM (qK dn gd wr ts i) ((i:Int)+jg dn (i:Int)-(p:Int)))[(qM (qK dn gd wr ts i) ((i:Int)+jg dn (i:Int)-(p:Int))).length-1-k]? = some h->G (JX h) [.str "melt",.int (i:Int),.int (p:Int),.int (k:Int)]
noncomputable def zN (H:Hp) (ds:List V) (n:Nat) (W:Nat->List (Int×List T3)) (ok:Addr->Prop):Prop:=ds.length=n/\∀k<n,∃d ps,ds[k]? = some (V.ref d)/\Rd H d (.dK (ps.map kvA))/\jz H ps (W (k+1))/\∀z∈ps,ok z.2
noncomputable def U0:Sp:=λvs H Q _=>∃(sd:Addr) (c:ScN) (g:IceG) (l last:Int) (wy:List Int) (da:Addr) (dn:List (Int×Int)) (wr:List (Int×T3)) (G:List Key->List V->Prop),vs=[.ref sd,.int l,.int last]/\ScAt H sd c/\LaneF c g l wy da dn/\zG H c.sk wr/\1<=c.ts.length/\c.ts.length<=1000/\(∀z,good (zu wr c.ts z)=true) /\ -1<=last/\last<88 /\
 (∀i:Nat,(i:Int)<=last->El G dn (jb c.rs wy) wr c.ts i) /\
 ∀(t fo ea:Addr) (ds:List V) (H':Hp),H t=none->H fo=none->H ea=none->H' t=some (.tup [.ref fo,.ref ea])->H' fo=some (.lst ds)->zN H' ds (last+1).toNat (qK dn (jb c.rs wy) wr c.ts) (λa=>H a=none)->qy G H' ea 16000000->FrM c.D H H'->Q (.ref t) H'
theorem xv:FnScope ["_law_scene_here","_law_lane","_law_last","_law_ends","_law_piles","_law_found","_law_year_here"] ["_law_scene_here","_law_lane","_law_last"] (j8 uc):=by walk_at "s"
theorem Wo (nb:Nb2 mg) (c_law_year_of:Cal P w K mg base 3 "_law_year_of" ["_law_scene_here","_law_lane","_law_piles","_law_year_here","_law_ends"] Xk)
  (F:Fun K "_law_walk" "_law_walk" uc f fd):FnOk P w K mg base CX0 4 f fd ["_law_scene_here","_law_lane","_law_last"] U0:=by
 refine F.ok xv (λvs H Q E h=>?_) (λcdv A outer s H vs Q E hr h=>?_)
 ·obtain ⟨sd,c,g,l,last,wy,da,dn,wr,G,rfl,_⟩:=h
  rfl
 ·obtain ⟨sd,c,g,l,last,wy,da,dn,wr,G,rfl,S,LF,hw,t1,t2,sg,last0,last9,hE,k⟩:=h
  have g30:=LF.g30
  refine ⟨_,(j4 (jr 3 xv.nd Uf)
   (j4 (jr 4 xv.nd yq)
   (j4 (jr 5 xv.nd (jC j2))
   (j4 (qw aX rfl (qi rfl nb.b_range (j0 (jo jT (pv 2) j5) j2)) (ja (i:=6) xv.nd rfl (aQ rfl)) (j4 (jr 4 xv.nd (je c_law_year_of (hr.mono ⋯) rfl (j0 (pv 0) (j0 (pv 1) (j0 (pv 4) (j0 (pv 6) (j0 (pv 3) j2)))))))
   (j9 (jP (xP K b7 bf bg jX (pv 5) (j0 (pv 4) j2))))))
   (j9 (jk (jI (j0 (pv 5) (j0 (pv 3) j2))))))))),?_⟩
  left
  intro ea hea
  have hea1:(upd H ea (.dT [])) ea=some (.dT []):=j6
  have f1:FrM c.D H (upd H ea (.dT [])):=(FrM.of_same (jj.refl H)).put hea
  generalize upd H ea (.dT [])=H1 at *
  left
  intro pa0 hpa0
  have hpa0H:=f1.no hpa0
  have hpa2:(upd H1 pa0 (.dK [])) pa0=some (.dK []):=j6
  have hea2:(upd H1 pa0 (.dK [])) ea=some (.dT []):=by rw [j7 (j1 hea1 hpa0)];exact hea1
  have f2:FrM c.D H (upd H1 pa0 (.dK [])):=f1.put hpa0H
  clear hea1 hpa0 f1
  generalize upd H1 pa0 (.dK [])=H2 at *
  left
  refine ⟨aJ _,λfo H3 hfo hfo3 s3=>?_⟩
  have hfoH:H fo=none:=f2.no hfo
  left
  refine ⟨(),(),?_⟩
  refine xu (λi σ H6=>∃(x6:Option V) (pa:Addr) (ps:List (Int×Addr)) (ds:List V),σ=[some (.ref sd),some (.int l),some (.int last),some (.ref ea),some (.ref pa),some (.ref fo),x6]/\H pa=none/\H6 pa=some (.dK (ps.map kvA))/\jz H6 ps (qK dn (jb c.rs wy) wr c.ts i)/\H6 fo=some (.lst ds)/\zN H6 ds i (qK dn (jb c.rs wy) wr c.ts) (λa=>a≠fo/\H a=none)/\qy G H6 ea (120000*i)/\FrM c.D H H6) ?_ ?_ ?_
  ·refine ⟨_,pa0,[],[],rfl,hpa0H,s3 _ _ hpa2,.nil,hfo3,⟨rfl,λk hk=>nomatch hk⟩,⟨[],s3 _ _ hea2,aJ _,λk v h=>nomatch h⟩,f2.trans (FrM.of_same s3)⟩
  ·clear f2 hfo hfo3 s3 hpa2 hea2
   rintro i σ H6 hi ⟨x6,pa,ps,ds,rfl,hpaH,hpa6,P6,hfo6,D6,E6,f6⟩
   have hil:(i:Int)<=last:=()
   have hi8:i<88:=()
   have S6:=S.frM f6
   have hw6:=hw.keep (FrM.keepT f6)
   have hk:=jz.keys P6
   have hpl:ps.length<=100:=by
    have h1:=congrArg fI hk
    have h2:=V9 dn (jb c.rs wy) wr c.ts i
    rw [ah,ah] at h1
    right
   left
   rw [eE]
   refine ⟨sd,c,g,l,(i:Int),wy,da,dn,wr,pa,ea,ps,_,120000*i,G,rfl,S6,LF,hw6,t1,t2,sg,hpa6,(j1 S.sd hpaH).symm,hk ▸ wH dn (jb c.rs wy) wr c.ts i,hpl,P6,λq hq=>by have:=Qx sg i q hq;right,E6,(),(hE i hil).1,(hE i hil).2,λla ps2 H7 hla hla7 P7 n7 E7 f7=>?_⟩
   have hlaH:=f6.no hla
   have laf:la≠fo:=(j1 hfo6 hla).symm
   have foea:fo≠ea:=by
    obtain ⟨kvs,h,_⟩:=E6
    exact jn hfo6 h (by walk_at "z")
   have nea:∀{a:Addr} {u:HO},H6 a=some u->(∀kvs,u≠.dT kvs)->¬a=ea:=λh d w=>by
    obtain ⟨kvs,h1,_⟩:=E6
    rw [w,h1] at h
    exact d kvs (aW h).symm
   have hfo7:=f7.at hfo6 foea (by walk_at "w")
   have f07:FrM c.D H H7:=λa u ha=>by
    have w1:a≠ea:=j1 ha hea
    have w2:a≠pa:=j1 ha hpaH
    rcases f6 a u ha with h | ⟨m,ob,kvs,eo,h⟩
    ·rcases f7 a u h w1 with h' | ⟨m,ob,kvs,eo,h'⟩
     ·exact .inl h'
     ·exact .inr ⟨m.resolve_right w2,ob,kvs,eo,h'⟩
    ·exact .inr ⟨m,ob,kvs,eo,f7.at h w1 (by walk_at "w")⟩
   have D7:∀k<i,∃d ps,ds[k]? = some (V.ref d)/\Rd H7 d (.dK (ps.map kvA))/\jz H7 ps (qK dn (jb c.rs wy) wr c.ts (k+1))/\∀z∈ps,z.2≠fo/\H z.2=none:=λk hk=>by
    obtain ⟨d,ps',h1,h2,h3,h4⟩:=D6.2 k hk
    refine ⟨d,ps',h1,f7.rd (by rcases h2 with h | ⟨ob,h⟩ <;> exact nea h (by walk_at "w")) h2,h3.keep (λa xs h=>f7.at h (nea h (by walk_at "w")) (by walk_at "w")) λz _ out h=>f7.at h (nea h (by walk_at "w")) (by walk_at "w"),h4⟩
   have n7':∀z∈ps2,z.2≠fo/\H z.2=none:=λz hz=>⟨(j1 hfo6 (n7 z hz)).symm,f6.no (n7 z hz)⟩
   have dsl:=D6.1
   clear D6 f7 hpa6 P6 S6 hw6 hk hpl nea
   left
   refine ⟨.inl ⟨rfl,_,SqL.of hfo7⟩,?_⟩
   left
   refine ⟨_,_,_,rfl,rfl,hfo7,jh (),?_⟩
   have nF:∀{a:Addr} {u v:HO},H7 a=some u->(∀xs,u≠.lst xs)->(upd H7 fo v) a=some u:=λh d=>by
    rw [j7 (jn h hfo7 (d _))]
    exact h
   have pF:∀{v:HO} {ps:List (Int×Addr)} {cs:List (Int×List T3)},jz H7 ps cs->(∀z∈ps,z.2≠fo/\H z.2=none)->jz (upd H7 fo v) ps cs:=λh d=>h.keep (λa xs h=>nF h (by walk_at "w")) λz hz out h=>by rw [j7 (d z hz).1];exact h
   refine ⟨_,la,ps2,ds++[.ref la],rfl,hlaH,nF hla7 (by walk_at "w"),pF P7 n7',j6,⟨by rw [aq,dsl];rfl,λk hk=>?_⟩,(E7.keep (λa xs h=>nF h (by walk_at "w")) λkvs h=>nF h (by walk_at "w")).mono (),f07.put hfoH⟩
   by_cases z:k<i
   ·obtain ⟨d,ps',h1,h2,h3,h4⟩:=D7 k z
    exact ⟨d,ps',by rw [cV ()];exact h1,h2.imp (λh=>nF h (by walk_at "w")) λ⟨ob,h⟩=>⟨ob,nF h (by walk_at "w")⟩,pF h3 h4,h4⟩
   ·have e:k=i:=()
    subst e
    exact ⟨la,ps2,by rw [cO (),dsl,Nat.sub_self];rfl,.inl (nF hla7 (by walk_at "w")),pF P7 n7',n7'⟩
  ·rintro σ H6 ⟨x6,pa,ps,ds,rfl,hpaH,hpa6,P6,hfo6,D6,E6,f6⟩
   left
   refine ⟨by show 2<=sizeLine;decide,λt H7 ht ht7 s7=>?_⟩
   refine k t fo ea ds H7 (f6.no ht) hfoH hea ht7 (s7 _ _ hfo6) ⟨D6.1,λk hk=>?_⟩ ((E6.keep (ji.same s7) λkvs h=>s7 _ _ h).mono ()) (f6.trans (FrM.of_same s7))
   obtain ⟨d,ps',h1,h2,h3,h4⟩:=D6.2 k hk
   exact ⟨d,ps',h1,h2.imp (λh=>s7 _ _ h) λ⟨ob,h⟩=>⟨ob,s7 _ _ h⟩,h3.keep (ji.same s7) λz _ out h=>s7 _ _ h,λz hz=>(h4 z hz).2⟩
theorem XU {R m:Int}{f:Nat->List T3}:∀{n:Nat},qM ((aI n).map λp:Nat=>(R-(p:Int),f p)) m=if 0<=R-m/\R-m<(n:Int) then f (R-m).toNat else []:=λ{n}=>by
 unfold qM
 by_cases z:0<=R-m/\R-m<(n:Int)
 ·rw [if_pos z]
  have e:((aI n).map λp:Nat=>(R-(p:Int),f p)).find? (λq=>decide (q.1=m))=some (m,f (R-m).toNat):=by
   rw [List.find?_map]
   have e2:(aI n).find? ((λq:Int×List T3=>decide (q.1=m)) ∘ λp:Nat=>(R-(p:Int),f p))=some (R-m).toNat:=by
    rw [List.find?_range_eq_some]
    refine ⟨?_,List.mem_range.mpr (),λj hj=>?_⟩
    ·show decide (R-(((R-m).toNat:Nat):Int)=m)=true
     exact decide_eq_true ()
    ·show (!decide (R-(j:Int)=m))=true
     rw [decide_eq_false ()]
     rfl
   rw [e2]
   show some (R-(((R-m).toNat:Nat):Int),_)=_
   rw [show R-(((R-m).toNat:Nat):Int)=m by right]
  rw [e]
  rfl
 ·rw [if_neg z]
  have e:((aI n).map λp:Nat=>(R-(p:Int),f p)).find? (λq=>decide (q.1=m))=none:=by
   rw [List.find?_eq_none]
   intro q hq
   obtain ⟨p,hp,rfl⟩:=List.mem_map.mp hq
   have:=List.mem_range.mp hp
   rw [decide_eq_true_eq]
   show ¬R-(p:Int)=m
   right
  rw [e]
  rfl
theorem Xq (dn:List (Int×Int)) (gd:List Int) (wr:List (Int×T3)) (ts:List T3) (i:Nat) (m:Int):qM (qK dn gd wr ts (i+1)) m=if 0<=(i:Int)+jg dn (i:Int)-m/\(i:Int)+jg dn (i:Int)-m<(gd.length:Int) then yW (qM (qK dn gd wr ts i) m) (i:Int) ((i:Int)+jg dn (i:Int)-m) (xN dn gd wr ts m (i:Int)) else []:=by
 show qM ((aI gd.length).map λp:Nat=>((i:Int)+jg dn (i:Int)-(p:Int),yW (qM (qK dn gd wr ts i) ((i:Int)+jg dn (i:Int)-(p:Int))) (i:Int) (p:Int) (chg (zu wr ts (i:Int)) (gd.getD p 0)))) m=_
 rw [XU (f:=λp:Nat=>yW (qM (qK dn gd wr ts i) ((i:Int)+jg dn (i:Int)-(p:Int))) (i:Int) (p:Int) (chg (zu wr ts (i:Int)) (gd.getD p 0)))]
 by_cases z:0<=(i:Int)+jg dn (i:Int)-m/\(i:Int)+jg dn (i:Int)-m<(gd.length:Int)
 ·rw [if_pos z,if_pos z]
  have e:((((i:Int)+jg dn (i:Int)-m).toNat:Nat):Int)=(i:Int)+jg dn (i:Int)-m:=()
  show yW (qM (qK dn gd wr ts i) ((i:Int)+jg dn (i:Int)-((((i:Int)+jg dn (i:Int)-m).toNat:Nat):Int))) _ ((((i:Int)+jg dn (i:Int)-m).toNat:Nat):Int) _=_
  rw [e,show (i:Int)+jg dn (i:Int)-((i:Int)+jg dn (i:Int)-m)=m by right]
  rfl
 ·rw [if_neg z,if_neg z]
theorem V8 {hs:List T3}{y p w d:Int}{q:Q4}(hd:(hs.length:Int)=d) (h1:q.1=y) (h2:q.2.1=p) (h3:q.2.2.1=if w > - d then w else-d):(yW hs y p w).map xQ=QO (hs.map xQ) q/\((yW hs y p w).length:Int)=d+q.2.2.1:=by
 unfold yW QO
 rw [h1,h2,h3]
 by_cases z:0<w
 ·rw [if_pos z,if_pos (show w > - d by right),if_pos z]
  refine ⟨?_,?_⟩
  ·rw [aG,bZ]
   congr 1
   rw [List.eq_replicate_iff]
   refine ⟨by rw [ah,bp],λb hb=>?_⟩
   obtain ⟨k,_,rfl⟩:=List.mem_map.mp hb
   rfl
  ·rw [aq,ah,bp]
   right
 ·rw [if_neg z]
  by_cases z2:w > - d
  ·rw [if_pos z2,if_neg z,tS,ah,aK]
   exact ⟨rfl,()⟩
  ·rw [if_neg z2,if_neg (show ¬0 < - d by right),tS,ah,aK,show hs.length-(- w).toNat=0 by right,show hs.length-(- - d).toNat=0 by right]
   exact ⟨rfl,()⟩
theorem UD {dn ms:List (Int×Int)}{gd:List Int}(hp:ms.Perm dn) (hs:(ms.map (·.1)).Pairwise (· <= ·)) (nd:(dn.map (·.1)).Nodup) (pos:∀q∈dn,0<=q.1/\0<=q.2) (m:Int) :
  ∀j:Nat,j<=(jq 0 0 ms (m+(gd.length:Int))-jq 0 0 ms m).toNat->(qM (qK dn gd wr ts ((jq 0 0 ms m).toNat+j)) m).map xQ=wA ((xj ms gd wr ts m).take j)/\((qM (qK dn gd wr ts ((jq 0 0 ms m).toNat+j)) m).length:Int)=uj ms gd wr ts m (jq 0 0 ms m) j:=by
 have f0:=zR hp hs pos m
 have sper:=λy=>yy hp y
 intro j
 induction j with
 | zero =>
  intro _
  have e:qM (qK dn gd wr ts ((jq 0 0 ms m).toNat+0)) m=[]:=by
   rw [Nat.add_zero]
   cases h:(jq 0 0 ms m).toNat with
   | zero=>rfl
   | succ i =>
    rw [Xq,if_neg]
    intro z
    have:=(zS hp hs nd pos m (gd.length:Int) (i:Int) ()).mp z
    right
  rw [e]
  exact ⟨rfl,rfl⟩
 | succ j ih =>
  intro hj
  obtain ⟨ih1,ih2⟩:=ih ()
  have ey:(((jq 0 0 ms m).toNat+j:Nat):Int)=jq 0 0 ms m+(j:Int):=()
  have hon:=(zS hp hs nd pos m (gd.length:Int) (((jq 0 0 ms m).toNat+j:Nat):Int) ()).mpr ()
  have eat:=Xq dn gd wr ts ((jq 0 0 ms m).toNat+j) m
  rw [if_pos hon] at eat
  have ew:xN dn gd wr ts m (((jq 0 0 ms m).toNat+j:Nat):Int)=xN ms gd wr ts m (jq 0 0 ms m+(j:Int)):=by
   rw [ey]
   unfold xN plc
   rw [sper]
  have hl:(xj ms gd wr ts m)[j]? = some (zL ms gd wr ts m (jq 0 0 ms m) j):=by
   unfold xj wG
   rw [aA,dN ()]
   rfl
  have hk:=V8 (hs:=qM (qK dn gd wr ts ((jq 0 0 ms m).toNat+j)) m) (y:=(((jq 0 0 ms m).toNat+j:Nat):Int)) (p:=(((jq 0 0 ms m).toNat+j:Nat):Int)+jg dn (((jq 0 0 ms m).toNat+j:Nat):Int)-m) (w:=xN dn gd wr ts m (((jq 0 0 ms m).toNat+j:Nat):Int)) (q:=zL ms gd wr ts m (jq 0 0 ms m) j) ih2 ey.symm (by
   rw [ey,<- sper]
   rfl) (by
   rw [ew]
   rfl)
  rw [gf hl,<- ih1,<- Nat.add_assoc,eat]
  exact hk
theorem k8:fe "ValueError" = some (.type "ValueError"):=∅
theorem YT (K:ag) (hl:PE X l tl) (hK:X.K=K:=by rfl):PIH X tg l (Yg K tl):=by subst hK;exact U2 hl
theorem xJ:FnScope ["_law_e","_law_known"] ["_law_e"] (j8 qP):=by walk_at "s"
noncomputable def wx (b0 b1 b2 b3:Bool):List (Str×Bool):=[("BadYear",b0),("NoLane",b1),("NoPlace",b2),("BadHand",b3),("ValueError",true)]
noncomputable def wN (ws:List (Str×Bool)) (i:Nat):List V:=((ws.take i).filter (·.2)).map λq=>V.str q.1
theorem UX {ws:List (Str×Bool)}{i:Nat}{nm:Str}{b:Bool}(h:ws[i]? = some (nm,b)):wN ws (i+1)=wN ws i++(if b=true then [V.str nm] else []):=by
 unfold wN
 rw [bS,h,dz,cq,aG]
 cases b <;> rfl
theorem Jy (ws:List (Str×Bool)) (i:Nat):(wN ws i).length<=i:=by
 unfold wN
 rw [ah]
 exact aH (bY _ _) (List.length_take_le _ _)
structure RefK (K:ag) (C0 C1 C2 C3 D:Addr) (b0 b1 b2 b3:Bool):Prop where
 ek:ExK K D
 k0:b8 K (.ref D) (.ref C0)=some b0
 k1:b8 K (.ref D) (.ref C1)=some b1
 k2:b8 K (.ref D) (.ref C2)=some b2
 k3:b8 K (.ref D) (.ref C3)=some b3
 k4:b8 K (.ref D) (.type "ValueError")=some true
noncomputable def Q0 (K:ag) (C0 C1 C2 C3:Addr):Addr->aj->List V->Hp->VK->Prop:=λa cls vs H Q=>∃D b0 b1 b2 b3,vs=[.ref a]/\cls = .ref D/\RefK K C0 C1 C2 C3 D b0 b1 b2 b3/\∀t H',H' t=some (.tup (.str "no" :: wN (wx b0 b1 b2 b3) 5))->jj H H'->Q (.ref t) H'
theorem ZU (nb:Nb2 mg) (b_ValueError:mg "ValueError" = none) (e_BadYear:mg "BadYear" = some (.ref C0)) (e_NoLane:mg "NoLane" = some (.ref C1)) (e_NoPlace:mg "NoPlace" = some (.ref C2)) (e_BadHand:mg "BadHand" = some (.ref C3))
  (F:Fun K "_law_refused" "_law_refused" qP f fd):FnH P w K mg base 1 f fd ["_law_e"] (Q0 K C0 C1 C2 C3):=by
 refine F.okH xJ (λcdv A outer s H vs Q a oe cls ae h=>?_)
 obtain ⟨D,b0,b1,b2,b3,rfl,rfl,⟨ek,k0,k1,k2,k3,k4⟩,k⟩:=h
 have hu:Hu (cxH P w K mg base ["_law_e","_law_known"] "_law_refused" (j8 qP) f cdv A outer s H):=Ew ae
 have isx:=VY (X:=cxH P w K mg base ["_law_e","_law_known"] "_law_refused" (j8 qP) f cdv A outer s H) K ek ae.at_ ae.free ae.out (λz=>by cases z) ae.ex
 refine ⟨_,(j4 (jr 1 xJ.nd (jC (j0 (jI (j0 jt (j0 (jc isx rfl nb.b_isinstance bI (j0 (pv 0) (j0 (qH (v:=V.ref _) rfl e_BadYear rfl) j2))) j2))) (j0 (jI (j0 jt (j0 (jc isx rfl nb.b_isinstance bI (j0 (pv 0) (j0 (qH (v:=V.ref _) rfl e_NoLane rfl) j2))) j2))) j2))))
   (j4 (jr 1 xJ.nd (jo vz (pv 1) (jC (j0 (jI (j0 jt (j0 (jc isx rfl nb.b_isinstance bI (j0 (pv 0) (j0 (qH (v:=V.ref _) rfl e_NoPlace rfl) j2))) j2))) (j0 (jI (j0 jt (j0 (jc isx rfl nb.b_isinstance bI (j0 (pv 0) (j0 (qH (v:=V.ref _) rfl e_BadHand rfl) j2))) j2))) j2)))))
   (j4 (jr 1 xJ.nd (jo vz (pv 1) (jC (j0 (jI (j0 jt (j0 (jc isx rfl nb.b_isinstance bI (j0 (pv 0) (j0 (xp (v:=V.ty "ValueError") rfl b_ValueError k8 rfl) j2))) j2))) j2))))
   (j9 (jk (jo UQ (jI (j0 jt j2)) (qA (xK K) rfl nb.b_tuple cJ (j0 (VI (osc:=(j8 qP)) (ON:=["_law_e","_law_known"]) (N:=["_law_name","_law_so"]) (own:=2) (caps:=[]) ⟨rfl,∅,∅,∅,rfl,∅⟩ hu rfl rfl (YT K (pv 1)) (λ_ _ _ _ _ hub=>(Wx (n:=2) K hub (jm (ja (i:=0) (show bu (["_law_name","_law_so"]:List Str) by decide +kernel) rfl (aQ rfl)) (jm (ja (i:=1) (show bu (["_law_name","_law_so"]:List Str) by decide +kernel) rfl (aQ rfl)) qh)))) (λ_ _ _ _ _ hub=>(vp (y8 (pv 1)))) (λ_ _ _ _ _ hub=>(pv 0))) j2)))))))),?_⟩
 left
 refine ⟨_,_,_,rfl,λu h=>h,k0,?_⟩
 left
 refine ⟨by show 2<=sizeLine;decide,λt0 H0 n0 h0 s0=>?_⟩
 left
 refine ⟨_,_,_,rfl,λu h=>h,k1,?_⟩
 left
 refine ⟨by show 2<=sizeLine;decide,λt1 H1 n1 h1 s1=>?_⟩
 left
 refine ⟨by show 2<=sizeLine;decide,λl1 H2 n2 h2 s2=>?_⟩
 left
 refine ⟨_,_,_,rfl,λu h=>h,k2,?_⟩
 left
 refine ⟨by show 2<=sizeLine;decide,λt2 H3 n3 h3 s3=>?_⟩
 left
 refine ⟨_,_,_,rfl,λu h=>h,k3,?_⟩
 left
 refine ⟨by show 2<=sizeLine;decide,λt3 H4 n4 h4 s4=>?_⟩
 left
 refine ⟨by show 2<=sizeLine;decide,λl2 H5 n5 h5 s5=>?_⟩
 refine ⟨l1,l2,_,_,rfl,rfl,s5 _ _ (s4 _ _ (s3 _ _ h2)),h5,by show 4<=sizeLine;decide,λl3 H6 n6 h6 s6=>?_⟩
 left
 refine ⟨_,_,_,rfl,λu h=>h,k4,?_⟩
 left
 refine ⟨by show 2<=sizeLine;decide,λt4 H7 n7 h7 s7=>?_⟩
 left
 refine ⟨by show 1<=sizeLine;decide,λl4 H8 n8 h8 s8=>?_⟩
 refine ⟨l3,l4,_,_,rfl,rfl,s8 _ _ (s7 _ _ h6),h8,by show 5<=sizeLine;decide,λl5 H9 n9 h9 s9=>?_⟩
 left
 refine ⟨by show 1<=sizeLine;decide,λtn H10 n10 h10 s10=>?_⟩
 left
 have up8:∀{p o},H8 p=some o->H10 p=some o:=λh=>s10 _ _ (s9 _ _ h)
 have up3:∀{p o},H3 p=some o->H10 p=some o:=λh=>up8 (s8 _ _ (s7 _ _ (s6 _ _ (s5 _ _ (s4 _ _ h)))))
 have p0:H10 t0=some (.tup [.str "BadYear",.bl b0]):=up3 (s3 _ _ (s2 _ _ (s1 _ _ h0)))
 have p1:H10 t1=some (.tup [.str "NoLane",.bl b1]):=up3 (s3 _ _ (s2 _ _ h1))
 have p2:H10 t2=some (.tup [.str "NoPlace",.bl b2]):=up3 h3
 have p3:H10 t3=some (.tup [.str "BadHand",.bl b3]):=up8 (s8 _ _ (s7 _ _ (s6 _ _ (s5 _ _ h4))))
 have p4:H10 t4=some (.tup [.str "ValueError",.bl true]):=up8 (s8 _ _ h7)
 have p5:H10 l5=some (.lst [.ref t0,.ref t1,.ref t2,.ref t3,.ref t4]):=s10 _ _ h9
 have all:jj H H10:=((((((((((s0.trans s1).trans s2).trans s3).trans s4).trans s5).trans s6).trans s7).trans s8).trans s9).trans s10)
 clear up8 up3 h0 h1 h2 h3 h4 h5 h6 h7 h8 h9 s0 s1 s2 s3 s4 s5 s6 s7 s8 s9 n0 n1 n2 n3 n4 n5 n6 n7 n8 n9
 have pr:∀(i:Nat) (v:V),[V.ref t0,.ref t1,.ref t2,.ref t3,.ref t4][i]? = some v->∃t nm b,v = .ref t/\(wx b0 b1 b2 b3)[i]? = some (nm,b)/\H10 t=some (.tup [.str nm,.bl b]):=λi v hv=>by
  match i,hv with
  | 0,hv=>cases hv;exact ⟨_,_,_,rfl,rfl,p0⟩
  | 1,hv=>cases hv;exact ⟨_,_,_,rfl,rfl,p1⟩
  | 2,hv=>cases hv;exact ⟨_,_,_,rfl,rfl,p2⟩
  | 3,hv=>cases hv;exact ⟨_,_,_,rfl,rfl,p3⟩
  | 4,hv=>cases hv;exact ⟨_,_,_,rfl,rfl,p4⟩
  | n+5,hv=>cases hv
 refine ⟨⟨_,SqL.of p5⟩,λacc hacc=>?_⟩
 refine qz (K:=K) (a:=l5) (acc:=acc) (xs:=[V.ref t0,.ref t1,.ref t2,.ref t3,.ref t4]) (λi σ H'=>∃x y:Option V,σ=[x,y]/\H' acc=some (.lst (wN (wx b0 b1 b2 b3) i))/\Ext acc H10 H') ?_ ?_ ?_ ?_
 ·exact ⟨none,none,rfl,j6,Ext.put⟩
 ·rintro i σ H' hi ⟨x,y,rfl,h3,e3⟩
  exact SqL.of (e3 _ _ p5 (j1 p5 hacc))
 ·rintro i v σ H' hv ⟨x,y,rfl,h3,e3⟩
  obtain ⟨t,nm,b,rfl,hw,ht⟩:=pr i v hv
  have kk:=UX hw
  have hi5:i<5:=(List.getElem?_eq_some_iff.mp hv).1
  have kl:=Jy (wx b0 b1 b2 b3) i
  refine ⟨t,_,rfl,SqT.of (e3 _ _ ht (j1 ht hacc)),rfl,?_⟩
  cases b with
  | false =>
   rw [if_neg au,aN] at kk
   refine ⟨_,_,rfl,_,_,rfl,rfl,_,rfl,_,rfl,?_⟩
   dsimp only
   rw [if_neg au]
   exact ⟨_,_,rfl,by rw [kk];exact h3,e3⟩
  | true =>
   rw [if_pos rfl] at kk
   refine ⟨_,_,rfl,_,_,rfl,rfl,_,rfl,_,rfl,?_⟩
   dsimp only
   rw [if_pos rfl]
   refine ⟨_,rfl,_,h3,bV kl (by show i<16777216;right),_,_,rfl,?_,e3.trans Ext.put⟩
   rw [j6,kk]
 ·rintro σ H' ⟨x,y,rfl,h3,e3⟩
  refine ⟨acc,_,rfl,SqL.of h3,λtt H11 n11 h11 s11=>?_⟩
  have z:Ext acc H10 H11:=e3.trans (Ext.of_same s11)
  refine ⟨tn,tt,_,_,rfl,rfl,z _ _ h10 (j1 h10 hacc),h11,by have:=Jy (wx b0 b1 b2 b3) 5;show 1+(wN (wx b0 b1 b2 b3) 5).length<=16777216;right,λtf H12 s12 h12=>?_⟩
  refine k tf H12 h12 λb o hb=>s12 _ _ (z _ _ (all _ _ hb) (j1 (all _ _ hb) hacc))
noncomputable def noT (w:Str):List V:=[.str "no",.str w,.str "ValueError"]
noncomputable def uJ (c:ScN) (l n y:Int):Option Str :=
 if 0<=l/\l<(c.ws.length:Int) then (if 0<=n/\n<((jb c.rs (c.ws.getD l.toNat [])).length:Int) then (if 0<=y/\y<=10 ^ 40 then none else some "BadYear") else some "NoPlace") else some "NoLane"
noncomputable def GA:Sp:=λvs H Q _=>∃(sd:Addr) (c:ScN) (l n y:Int),vs=[.ref sd,.int l,.int n,.int y]/\ScAt H sd c/\(uJ c l n y=none->Q .non H)/\∀w t H',uJ c l n y=some w->H t=none->H' t=some (.tup (noT w))->jj H H'->Q (.ref t) H'
theorem wX:FnScope ["_law_scene_here","_law_lane","_law_place","_law_year_here"] ["_law_scene_here","_law_lane","_law_place","_law_year_here"] (j8 zC):=by walk_at "s"
theorem Es (nb:Nb2 mg) (F:Fun K "_law_due_spot" "_law_due_spot" zC f fd):FnOk P w K mg base CX0 1 f fd ["_law_scene_here","_law_lane","_law_place","_law_year_here"] GA:=by
 refine F.ok wX (λvs H Q E h=>?_) (λcdv A outer s H vs Q E hr h=>?_)
 ·obtain ⟨sd,c,l,n,y,rfl,_⟩:=h
  rfl
 ·obtain ⟨sd,c,l,n,y,rfl,S,k,kn⟩:=h
  have hzl:c.zs.length=c.ws.length:=(aT S.gi).trans (ah _)
  have hgd:qR H sd (.str "grounds") (some (.ref c.gl)):=by rw [<- qU c.p c.q c.sg c.gl c.ll];exact qR.k (k:=.inr "grounds") S.sd
  have kl:¬(0<=l/\l<(c.ws.length:Int))->∀t H',H t=none->H' t=some (.tup (noT "NoLane"))->jj H H'->Q (.ref t) H':=λz t H'=>kn _ t H' (by unfold uJ;rw [if_neg z])
  refine ⟨_,(j4 (jS (x4 (qY qq yQ j5 (pv 1) (jc (jf K) rfl nb.b_len aR (j0 (jH (jO hr) (pv 0) jt (λ_ _=>rfl)) j2)))) (j9 (jk (jI (j0 jt (j0 jt (j0 jt j2)))))) jx)
   (j4 (jS (x4 (qY qq yQ j5 (pv 2) (jc (jf K) rfl nb.b_len aR (j0 (js (jd K) (jH (jO hr) (pv 0) jt (λ_ _=>rfl)) (pv 1) (λ_ _=>rfl)) j2)))) (j9 (jk (jI (j0 jt (j0 jt (j0 jt j2)))))) jx)
   (j4 (jS (x4 (qY qq qq j5 (pv 3) (jo uk j5 j5))) (j9 (jk (jI (j0 jt (j0 jt (j0 jt j2)))))) jx)
   (j9 (jk ul))))),?_⟩
  left
  refine qr (λh0=>?_) (λh0=>?_)
  ·left
   refine ⟨sd,.ref c.gl,rfl,hgd,?_⟩
   left
   refine ⟨c.gl,_,rfl,.inl (SqL.of S.gl),?_⟩
   rw [hzl]
   left
   refine zo (λh1=>?_) (λh1=>?_)
   ·left
    refine ⟨by show 3<=sizeLine;decide,λt H3 ht ht3 s3=>?_⟩
    exact kl (λz=>h1 z.2) t H3 ht ht3 s3
   ·clear kl
    have hi:l.toNat<c.zs.length:=()
    obtain ⟨gw,hgw,ga,ega,hga⟩:=Paired.get S.gi (af hi)
    rw [aA] at hgw
    obtain ⟨wy,hwy,rfl⟩:=Option.map_eq_some_iff.mp hgw
    have ew:c.ws.getD l.toNat []=wy:=by rw [ao,hwy];rfl
    have kp:¬(0<=n/\n<((jb c.rs wy).length:Int))->∀t H',H t=none->H' t=some (.tup (noT "NoPlace"))->jj H H'->Q (.ref t) H':=λz t H'=>kn _ t H' (by unfold uJ;rw [ew,if_pos ⟨h0,h1⟩,if_neg z])
    left
    refine qr (λn0=>?_) (λn0=>?_)
    ·left
     refine ⟨sd,.ref c.gl,rfl,hgd,?_⟩
     left
     refine ⟨_,_,_,_,rfl,rfl,SqL.of S.gl,qQ h0 (v:=V.ref ga) (by rw [af hi,ega]),?_⟩
     left
     refine ⟨ga,_,rfl,.inl (SqL.of hga),?_⟩
     rw [ah]
     left
     refine zo (λn1=>?_) (λn1=>?_)
     ·left
      refine ⟨by show 3<=sizeLine;decide,λt H3 ht ht3 s3=>?_⟩
      exact kp (λz=>n1 z.2) t H3 ht ht3 s3
     ·clear kp
      have ky:¬(0<=y/\y<=10 ^ 40)->∀t H',H t=none->H' t=some (.tup (noT "BadYear"))->jj H H'->Q (.ref t) H':=λz t H'=>kn _ t H' (by unfold uJ;rw [ew,if_pos ⟨h0,h1⟩,if_pos ⟨n0,n1⟩,if_neg z])
      left
      refine qr (λy0=>?_) (λy0=>?_)
      ·left
       refine zo (λy1=>?_) (λy1=>?_)
       ·left
        refine ⟨by show 3<=sizeLine;decide,λt H3 ht ht3 s3=>?_⟩
        exact ky (λz=>y1 z.2) t H3 ht ht3 s3
       ·left
        exact k (by unfold uJ;rw [ew,if_pos ⟨h0,h1⟩,if_pos ⟨n0,n1⟩,if_pos ⟨y0,y1⟩])
      ·left
       refine ⟨by show 3<=sizeLine;decide,λt H3 ht ht3 s3=>?_⟩
       exact ky (λz=>y0 z.1) t H3 ht ht3 s3
    ·left
     refine ⟨by show 3<=sizeLine;decide,λt H3 ht ht3 s3=>?_⟩
     exact kp (λz=>n0 z.1) t H3 ht ht3 s3
  ·left
   refine ⟨by show 3<=sizeLine;decide,λt H3 ht ht3 s3=>?_⟩
   exact kl (λz=>h0 z.1) t H3 ht ht3 s3
noncomputable def UY:Sp:=λvs H Q _=>∃(L b sd:Addr) (c:ScN) (y:Int),vs=[.ref b,.ref sd,.int y]/\jU L H b/\ScAt H sd c/\ScOk b c/\1<=c.ws.length/\c.ws.length<=6/\(∀w∈c.ws,1<=(jb c.rs w).length/\(jb c.rs w).length<=30) /\
 ∀(l n y':Int) (t:Addr) (H':Hp),jU L H' b->Ext b H H'->H t=none->H' t=some (.tup [.int l,.int n,.int y'])->Q (.ref t) H'
theorem qf:FnScope ["_law_box_here","_law_scene_here","_law_year_here","_law_lane","_law_place","_law_pick"] ["_law_box_here","_law_scene_here","_law_year_here"] (j8 zm):=by walk_at "s"
theorem WF (nb:Nb2 mg) (c_law_take:Cal P w K mg base 2 "_law_take" ["_law_box_here","_law_size"] xH) (c_law_odd:Cal P w K mg base 3 "_law_odd" ["_law_box_here"] GF) (c_law_spot:Cal P w K mg base 3 "_law_spot" ["_law_box_here","_law_scene_here"] Uk)
  (F:Fun K "_law_bent_spot" "_law_bent_spot" zm f fd):FnOk P w K mg base CX0 4 f fd ["_law_box_here","_law_scene_here","_law_year_here"] UY:=by
 refine F.ok qf (λvs H Q E h=>?_) (λcdv A outer s H vs Q E hr h=>?_)
 ·obtain ⟨L,b,sd,c,y,rfl,_⟩:=h
  rfl
 ·obtain ⟨L,b,sd,c,y,rfl,B,S,O,hw1,hw6,hg,k⟩:=h
  have hzl:c.zs.length=c.ws.length:=(aT S.gi).trans (ah _)
  have QT:∀{z a b c:Int},0<=z->z<3->∃n,atI [V.int a,V.int b,V.int c] z=some (V.int n):=λ{z a b c} h0 h1=>by
   have:z=0\/z=1\/z=2:=()
   rcases this with rfl | rfl | rfl
   ·exact ⟨a,rfl⟩
   ·exact ⟨b,rfl⟩
   ·exact ⟨c,rfl⟩
  have hgd:∀{H':Hp},ScAt H' sd c->qR H' sd (.str "grounds") (some (.ref c.gl)):=λS'=>by rw [<- qU c.p c.q c.sg c.gl c.ll];exact qR.k (k:=.inr "grounds") S'.sd
  refine ⟨_,(j4 (xF (je c_law_spot (hr.mono ⋯) rfl (j0 (pv 0) (j0 (pv 1) j2))) (qj (n:=2) K rfl (jm (ja (i:=3) qf.nd rfl (aQ rfl)) (jm (ja (i:=4) qf.nd rfl (aQ rfl)) qh))))
   (j4 (jr 5 qf.nd (je c_law_take (hr.mono ⋯) rfl (j0 (pv 0) (j0 j5 j2))))
   (yK (jS (PW.pt (Ju (jA zy (pv 5) j5 (jD _)) (hV (jA zy (pv 5) j5 (jD _))))) (j9 (jr 3 qf.nd (js (jd K) (jC (j0 (jo qx j5 j5) (j0 (jc (jf K) rfl nb.b_len aR (j0 (jH (jO hr) (pv 1) jt (λ_ _=>rfl)) j2)) (j0 (je c_law_odd (hr.mono ⋯) rfl (j0 (pv 0) j2)) j2)))) (je c_law_take (hr.mono ⋯) rfl (j0 (pv 0) (j0 j5 j2))) (λ_ _=>rfl)))) jx)
   (yK (jS (PW.pt (Ju (jA zy (pv 5) j5 (jD _)) (Ju (jA zy (pv 5) j5 (jD _)) (hV (jA zy (pv 5) j5 (jD _)))))) (j9 (jr 4 qf.nd (js (jd K) (jC (j0 (jo qx j5 j5) (j0 (jc (jf K) rfl nb.b_len aR (j0 (js (jd K) (jH (jO hr) (pv 1) jt (λ_ _=>rfl)) (jc (yi rfl) rfl nb.b_min pY (j0 (jc (zx rfl) rfl nb.b_max nW (j0 (pv 3) (j0 j5 j2))) (j0 (jo qx (jc (jf K) rfl nb.b_len aR (j0 (jH (jO hr) (pv 1) jt (λ_ _=>rfl)) j2)) j5) j2))) (λ_ _=>rfl)) j2)) (j0 j5 j2)))) (je c_law_take (hr.mono ⋯) rfl (j0 (pv 0) (j0 j5 j2))) (λ_ _=>rfl)))) jx)
   (yK (jS (PW.pt (Ju (jA zy (pv 5) j5 (jD _)) (hV (jA zy (pv 5) j5 (jD _))))) (j9 (jr 2 qf.nd (js (jd K) (jC (j0 (jo qx j5 j5) (j0 (jo jT (jo uk j5 j5) j5) (j0 (jo uk j5 j5) j2)))) (je c_law_take (hr.mono ⋯) rfl (j0 (pv 0) (j0 j5 j2))) (λ_ _=>rfl)))) jx)
   (j9 (jk (jI (j0 (pv 3) (j0 (pv 4) (j0 (pv 2) j2))))))))))),?_⟩
  left
  refine ⟨L,b,sd,c,rfl,B,S,O,hw1,hw6,hg,λln n wy t H1 ln0 ln1 hwy n0 n1 B1 X1 ht ht1=>?_⟩
  left
  refine ⟨t,_,rfl,SqT.of ht1,rfl,?_⟩
  refine ⟨_,_,rfl,_,_,rfl,rfl,?_⟩
  left
  refine ⟨L,b,_,rfl,B1,⟨⋯,⋯⟩,λpk H2 pk0 pk1 B2 X2=>?_⟩
  have S1:=S.ext O B X1
  have S2:=S1.ext O B1 X2
  have X2':=X1.trans X2
  clear B1 X1 X2 S1 ht1
  left
  refine ⟨λσ H3=>∃l:Int,σ=[some (.ref b),some (.ref sd),some (.int y),some (.int l),some (.int n),some (.int pk)]/\jU L H3 b/\Ext b H H3/\ScAt H3 sd c,?_,?_⟩
  ·have fin:∃l:Int,[some (V.ref b),some (.ref sd),some (.int y),some (.int ln),some (.int n),some (.int pk)]=[some (.ref b),some (.ref sd),some (.int y),some (.int l),some (.int n),some (.int pk)]/\jU L H2 b/\Ext b H H2/\ScAt H2 sd c:=⟨ln,rfl,B2,X2',S2⟩
   left
   refine qr (λ_=>?_) (λ_=>?_)
   rotate_left
   left
   refine qr (λ_=>?_) (λ_=>fin)
   all_goals
    left
    refine ⟨sd,.ref c.gl,rfl,hgd S2,?_⟩
    left
    refine ⟨c.gl,_,rfl,.inl (SqL.of S2.gl),?_⟩
    left
    refine ⟨L,b,rfl,B2,λz H3 B3 X3=>?_⟩
    left
    refine ⟨by show 3<=sizeLine;decide,λlq H4 hlq hlq4 s4=>?_⟩
    left
    refine ⟨L,b,_,rfl,B3.same s4,⟨⋯,⋯⟩,λv H5 v0 v1 B5 X5=>?_⟩
    obtain ⟨m,hm⟩:=QT (a:=0-1) (b:=(c.zs.length:Int)) (c:=z) v0 v1
    refine ⟨_,_,_,_,rfl,rfl,SqL.of (X5 _ _ hlq4 (B3.ne hlq)),hm,?_⟩
    exact ⟨m,rfl,B5,(X2'.trans X3).trans ((Ext.of_same s4).trans X5),((S2.ext O B2 X3).same s4).ext O (B3.same s4) X5⟩
  rintro σ H3 ⟨l,rfl,B3,X3,S3⟩
  clear B2 X2' S2
  refine ⟨λσ H3=>∃l n:Int,σ=[some (.ref b),some (.ref sd),some (.int y),some (.int l),some (.int n),some (.int pk)]/\jU L H3 b/\Ext b H H3/\ScAt H3 sd c,?_,?_⟩
  ·have fin:∃l' n':Int,[some (V.ref b),some (.ref sd),some (.int y),some (.int l),some (.int n),some (.int pk)]=[some (.ref b),some (.ref sd),some (.int y),some (.int l'),some (.int n'),some (.int pk)]/\jU L H3 b/\Ext b H H3/\ScAt H3 sd c:=⟨l,n,rfl,B3,X3,S3⟩
   left
   refine qr (λ_=>?_) (λ_=>?_)
   rotate_left
   left
   refine qr (λ_=>?_) (λ_=>?_)
   rotate_left
   left
   refine qr (λ_=>?_) (λ_=>fin)
   all_goals
    left
    refine ⟨sd,.ref c.gl,rfl,hgd S3,?_⟩
    left
    refine ⟨_,_,rfl,?_⟩
    left
    refine ⟨sd,.ref c.gl,rfl,hgd S3,?_⟩
    left
    refine ⟨c.gl,_,rfl,.inl (SqL.of S3.gl),?_⟩
    left
    refine ⟨_,_,rfl,?_⟩
    obtain ⟨ix,eix,x0,x1⟩:∃ix:Int,(if (c.zs.length:Int)-1<if 0 > l then 0 else l then (c.zs.length:Int)-1 else if 0 > l then 0 else l)=ix/\0<=ix/\ix<(c.zs.length:Int):=⟨_,rfl,by split <;> split <;> right,by split <;> split <;> right⟩
    rw [eix]
    have hi:ix.toNat<c.zs.length:=()
    obtain ⟨gw,hgw,ga,ega,hga⟩:=Paired.get S3.gi (af hi)
    refine ⟨_,_,_,_,rfl,rfl,SqL.of S3.gl,qQ x0 (v:=V.ref ga) (by rw [af hi,ega]),?_⟩
    left
    refine ⟨ga,_,rfl,.inl (SqL.of hga),?_⟩
    left
    refine ⟨by show 3<=sizeLine;decide,λlq H4 hlq hlq4 s4=>?_⟩
    left
    refine ⟨L,b,_,rfl,B3.same s4,⟨⋯,⋯⟩,λv H5 v0 v1 B5 X5=>?_⟩
    obtain ⟨m,hm⟩:=QT (a:=0-1) (b:=((gw.map V.int).length:Int)) (c:=31) v0 v1
    refine ⟨_,_,_,_,rfl,rfl,SqL.of (X5 _ _ hlq4 (B3.ne hlq)),hm,?_⟩
    exact ⟨l,m,rfl,B5,X3.trans ((Ext.of_same s4).trans X5),(S3.same s4).ext O (B3.same s4) X5⟩
  rintro σ H3 ⟨l,n,rfl,B3,X3,S3⟩
  refine ⟨λσ H3=>∃l n y:Int,σ=[some (.ref b),some (.ref sd),some (.int y),some (.int l),some (.int n),some (.int pk)]/\jU L H3 b/\Ext b H H3,?_,?_⟩
  ·have fin:∃l' n' y':Int,[some (V.ref b),some (.ref sd),some (.int y),some (.int l),some (.int n),some (.int pk)]=[some (.ref b),some (.ref sd),some (.int y'),some (.int l'),some (.int n'),some (.int pk)]/\jU L H3 b/\Ext b H H3:=⟨l,n,y,rfl,B3,X3⟩
   left
   refine qr (λ_=>?_) (λ_=>?_)
   rotate_left
   left
   refine qr (λ_=>?_) (λ_=>fin)
   all_goals
    left
    refine ⟨by show 3<=sizeLine;decide,λlq H4 hlq hlq4 s4=>?_⟩
    left
    refine ⟨L,b,_,rfl,B3.same s4,⟨⋯,⋯⟩,λv H5 v0 v1 B5 X5=>?_⟩
    obtain ⟨m,hm⟩:=QT (a:=0-1) (b:=10 ^ (40:Int).toNat+1) (c:=10 ^ (40:Int).toNat) v0 v1
    refine ⟨_,_,_,_,rfl,rfl,SqL.of (X5 _ _ hlq4 (B3.ne hlq)),hm,?_⟩
    exact ⟨l,n,m,rfl,B5,X3.trans ((Ext.of_same s4).trans X5)⟩
  rintro σ H4 ⟨l,n,y',rfl,B4,X4⟩
  left
  refine ⟨by show 3<=sizeLine;decide,λt' H5 ht5 ht55 s5=>?_⟩
  have tb:t'≠b:=B4.ne ht5
  exact k l n y' t' H5 (B4.same s5) (X4.trans (Ext.of_same s5)) (X4.free ht5 tb) ht55
noncomputable def JM (C:Addr):Sp:=λvs H Q _=>∃(p:Addr) (g:IceG) (l n y:Int) (sk:List (Int×Addr)) (wr:List (Int×T3)),vs=[.ref p,.int l,.int n,.int y]/\IceAt C H p g/\g.lds.length=g.slopes.length/\g.kvs=sk.map kvA/\zG H sk wr/\1<=g.rows.length/\g.rows.length<=1000/\(∀z,good (zu wr g.rows z)=true)/\(l<0\/(g.slopes.length:Int)<=l->∀t H',H' t=some (.tup (noT "NoLane"))->jj H H'->Q (.ref t) H') /\
 (0<=l->l<(g.slopes.length:Int)->n<0\/((g.slopes.getD l.toNat []).length:Int)<=n->∀t H',H' t=some (.tup (noT "NoPlace"))->jj H H'->Q (.ref t) H') /\
 (0<=l->l<(g.slopes.length:Int)->0<=n->n<((g.slopes.getD l.toNat []).length:Int)->(y<0\/10 ^ 40<y)/\(∃ns ms:List (Int×Int),V1 g l ns/\(∀q∈ns,0<=q.1)/\(g.slopes.getD l.toNat []).length<=100/\ms.Perm ns/\(ms.map (·.1)).Pairwise (· <= ·))/\∀t H',H' t=some (.tup (noT "BadYear"))->jj H H'->Q (.ref t) H')
theorem qN:FnScope ["_law_ice","_law_lane","_law_place","_law_year_here","_law_found","_law_e"] ["_law_ice","_law_lane","_law_place","_law_year_here"] (j8 zH):=by walk_at "s"
theorem Zk (e_FirnError:mg "FirnError" = some (.ref CF)) (m_NoLane:fc K (.ref CN) (.ref CF)=some true) (m_NoPlace:fc K (.ref CP) (.ref CF)=some true) (m_BadYear:fc K (.ref CY) (.ref CF)=some true)
  (rN:RefK K CY CN CP CB CN false true false false) (rP:RefK K CY CN CP CB CP false false true false) (rY:RefK K CY CN CP CB CY true false false false)
  (c_pile:CalX P w K mg base 6 "pile" ["ice","lane","place","year"] (Qp C CN CP CY)) (c_law_refused:CalH P w K mg base 1 "_law_refused" ["_law_e"] (Q0 K CY CN CP CB))
  (F:Fun K "_law_try_pile" "_law_try_pile" zH f fd):FnOk P w K mg base CX0 7 f fd ["_law_ice","_law_lane","_law_place","_law_year_here"] (JM C):=by
 refine F.ok qN (λvs H Q E h=>?_) (λcdv A outer s H vs Q E hr h=>?_)
 ·obtain ⟨p,g,l,n,y,sk,wr,rfl,_⟩:=h
  rfl
 ·obtain ⟨p,g,l,n,y,sk,wr,rfl,I,hll,ek,hw,hr1,hr2,sg,kN,kP,k⟩:=h
  refine ⟨_,(j4 (jr 4 qN.nd ul)
   (j4 (VT (i:=5) K rfl rfl e_FirnError rfl qN.nd rfl rfl (λpn J=>(j9 (jr 4 qN.nd (xY c_pile (hr.mono ⋯) G8 rfl (j0 (pv 0) (j0 (pv 1) (j0 (pv 2) (j0 (pv 3) j2)))))))) (λa oe pn=>(j9 (jr 4 qN.nd (WO c_law_refused (hr.mono (j:=1) ⋯).dp (hr.mono (j:=1) ⋯).un rfl (aD _ (List.mem_singleton.mpr rfl)) rfl (j0 (pv 5) j2))))))
   (j9 (jk (pv 4))))),?_⟩
  left
  refine ⟨p,g,l,n,y,sk,wr,rfl,I,hll,ek,hw,hr1,hr2,sg,(λhb=>⟨m_NoLane,λa oe eo ha=>?_⟩),(λl0 l1 hb=>⟨m_NoPlace,λa oe eo ha=>?_⟩),λl0 l1 n0 n1=>?_⟩
  ·left
   refine ⟨_,eo,CN,_,_,_,_,rfl,rfl,rN,λt H2 ht s2=>?_⟩
   show Wg (Jl 4) _ _ _
   left
   exact kN hb t H2 ht s2
  ·left
   refine ⟨_,eo,CP,_,_,_,_,rfl,rfl,rP,λt H2 ht s2=>?_⟩
   show Wg (Jl 4) _ _ _
   left
   exact kP l0 l1 hb t H2 ht s2
  ·obtain ⟨hy,⟨ns,ms,hL,hp0,g100,hp,hs⟩,k⟩:=k l0 l1 n0 n1
   refine ⟨ns,ms,hL,hp0,g100,hp,hs,(λH1 s1 hb=>⟨m_BadYear,λa oe eo ha=>?_⟩),λy0 y1=>absurd hy ()⟩
   left
   refine ⟨_,eo,CY,_,_,_,_,rfl,rfl,rY,λt H2 ht s2=>?_⟩
   show Wg (Jl 4) _ _ _
   left
   exact k t H2 ht (s1.trans s2)
theorem xC {w:Str}(h:PyData.strOk w=true):i0 (.tuple [.str "no",.str w,.str "ValueError"])=true:=by
 simp [i0,nM,i7,PyData.depth,iO]
 exact ⟨∅,h,∅⟩
theorem Gk {l n y:Int}{w:Str}(h:uJ c l n y=some w):PyData.strOk w=true:=by
 unfold uJ at h
 split at h
 ·split at h
  ·split at h
   ·cases h
   ·cases h;decide +kernel
  ·cases h;decide +kernel
 ·cases h;decide +kernel
theorem vF {H:Hp}{t:Addr}{w:Str}(h:H t=some (.tup (noT w))):Dat H (.ref t) (.tuple [.str "no",.str w,.str "ValueError"]):=.tup h (.cons (.str _) (.cons (.str _) (.cons (.str _) .nil)))
theorem YZ {c:ScN}{l n y:Int}(l0:0<=l) (l1:l<(c.ws.length:Int)) (hw:c.ws[l.toNat]? = some wy) (n0:0<=n) (n1:n<((jb c.rs wy).length:Int)):uJ c l n y=if 0<=y/\y<=10 ^ 40 then none else some ("BadYear" : Str):=by
 have ew:c.ws.getD l.toNat []=wy:=by rw [ao,hw];rfl
 unfold uJ
 rw [ew,if_pos ⟨l0,l1⟩,if_pos ⟨n0,n1⟩]
theorem Z3 {c:ScN}{l n y:Int}(l0:0<=l) (l1:l<(c.ws.length:Int)) (hw:c.ws[l.toNat]? = some wy) (hn:n<0\/((jb c.rs wy).length:Int)<=n):uJ c l n y=some ("NoPlace" : Str):=by
 have ew:c.ws.getD l.toNat []=wy:=by rw [ao,hw];rfl
 unfold uJ
 rw [ew,if_pos ⟨l0,l1⟩,if_neg ()]
theorem Va {c:ScN}{l n y:Int}(h:l<0\/(c.ws.length:Int)<=l):uJ c l n y=some ("NoLane" : Str):=by
 unfold uJ
 rw [if_neg ()]
noncomputable def G1 (q:T3):PyData:=.tuple [.int q.1,.int q.2.1,.int q.2.2]
theorem jp.dat :∀{out:List V}{qs:List T3},jp H out qs->DatL H out (qs.map G1)
 | _,_,.nil=>.nil
 | _,_,.cons ⟨b,e,h⟩ r=>by
  subst e
  exact .cons (.tup h (.cons (.int _) (.cons (.int _) (.cons (.int _) .nil)))) (jp.dat r)
theorem GV (qs:List T3) (h:qs.length<=1000):zB 3 (.list (qs.map G1))=true:=by
 refine YU (by rw [ah];exact h) ?_
 rw [bP]
 intro x hx
 obtain ⟨q,_,rfl⟩:=List.mem_map.mp hx
 rfl
theorem zN.fr {n:Nat}{ok:Addr->Prop}(D:zN H ds n W ok) (f:FrM M H H'):zN H' ds n W ok:=⟨D.1,λk hk=>by
 obtain ⟨d,ps,h1,h2,h3,h4⟩:=D.2 k hk
 exact ⟨d,ps,h1,f.rd h2,h3.keep (FrM.keepT f) λz _ out h=>f.at h (by walk_at "w"),h4⟩⟩
theorem zN.ext {b:Addr}{n:Nat}{ok:Addr->Prop}(D:zN H ds n W ok) (B:jU L H b) (X:Ext b H H') (nb:∀a,ok a->a≠b):zN H' ds n W ok:=⟨D.1,λk hk=>by
 obtain ⟨d,ps,h1,h2,h3,h4⟩:=D.2 k hk
 refine ⟨d,ps,h1,?_,h3.keep (xw B X) λz hz out h=>X _ _ h (nb _ (h4 z hz)),h4⟩
 obtain ⟨ns,a,r,c,e,hb,_⟩:=B
 rcases h2 with h | ⟨ob,h⟩
 ·exact .inl (X _ _ h (jn h hb (by walk_at "z")))
 ·exact .inr ⟨ob,X _ _ h (jn h hb (by walk_at "z"))⟩⟩
theorem Vc {gd:List Int}{i n:Nat}(h:n<gd.length):(qK dn gd wr ts (i+1))[n]? = some ((i:Int)+jg dn (i:Int)-(n:Int),qM (qK dn gd wr ts (i+1)) ((i:Int)+jg dn (i:Int)-(n:Int))):=by
 have e:qM (qK dn gd wr ts (i+1)) ((i:Int)+jg dn (i:Int)-(n:Int))=_:=XU (R:=(i:Int)+jg dn (i:Int)) (m:=(i:Int)+jg dn (i:Int)-(n:Int)) (n:=gd.length) (f:=λp:Nat=>yW (qM (qK dn gd wr ts i) ((i:Int)+jg dn (i:Int)-(p:Int))) (i:Int) (p:Int) (chg (zu wr ts (i:Int)) (gd.getD p 0)))
 rw [e,if_pos (),show ((i:Int)+jg dn (i:Int)-((i:Int)+jg dn (i:Int)-(n:Int))).toNat=n by right]
 show ((aI gd.length).map _)[n]? = _
 rw [aA,dN h]
 rfl
theorem x3:FnScope ["_law_script","_law_box_here","_law_scene_here","_law_ice","_law_lane","_law_last","_law_found","_law_ends","_law_year_here","_law_place","_law_one","_law_due","_law_told"] ["_law_script"] (j8 vS):=by walk_at "s"
theorem ET (nb:Nb2 mg)
  (c_law_box:Cal P w K mg base 1 "_law_box" ["_law_script"] (VP K)) (c_law_take:Cal P w K mg base 2 "_law_take" ["_law_box_here","_law_size"] xH) (c_law_scene:Cal P w K mg base 5 "_law_scene" ["_law_box_here"] Y6) (c_law_made:Cal P w K mg base 10 "_law_made" ["_law_scene_here"] (UP C Pt))
  (c_law_walk:Cal P w K mg base 4 "_law_walk" ["_law_scene_here","_law_lane","_law_last"] U0) (c_law_marks:Cal P w K mg base 2 "_law_marks" ["_law_scene_here","_law_lane","_law_year_here"] QJ) (c_law_runs:Cal P w K mg base 1 "_law_runs" ["_law_hands"] UB)
  (c_law_bent_spot:Cal P w K mg base 4 "_law_bent_spot" ["_law_box_here","_law_scene_here","_law_year_here"] UY) (c_law_due_spot:Cal P w K mg base 1 "_law_due_spot" ["_law_scene_here","_law_lane","_law_place","_law_year_here"] GA) (c_law_try_pile:Cal P w K mg base 7 "_law_try_pile" ["_law_ice","_law_lane","_law_place","_law_year_here"] (JM C))
  (c_law_alike:Cal P w K mg base 4 "_law_alike" ["_law_found","_law_due"] (WE 3)) (c_pile:CalX P w K mg base 6 "pile" ["ice","lane","place","year"] (Qp C CN CP CY))
  (F:Fun K "law" "law" vS f fd):FnOk P w K mg base CX0 11 f fd ["_law_script"] (Zv K Pt):=by
 refine F.ok x3 (λvs H Q E h=>?_) (λcdv A outer s H vs Q E hr h=>?_)
 ·obtain ⟨a,ns,rfl,_⟩:=h
  rfl
 ·obtain ⟨a,ns,rfl,hS,h63,hPt,k⟩:=h
  have T0:qJ H Pt:=.inl hPt
  refine ⟨_,(j4 (yI (i:=1) x3.nd rfl (iM rfl) (je c_law_box (hr.mono ⋯) rfl (j0 (pv 0) j2)))
   (j4 (jr 2 x3.nd (je c_law_scene (hr.mono ⋯) rfl (j0 (pv 1) j2)))
   (j4 (jr 3 x3.nd (je c_law_made (hr.mono ⋯) rfl (j0 (pv 2) j2)))
   (j4 (jr 4 x3.nd (je c_law_take (hr.mono ⋯) rfl (j0 (pv 1) (j0 (jc (jf K) rfl nb.b_len aR (j0 (jH (jO hr) (pv 2) jt (λ_ _=>rfl)) j2)) j2))))
   (j4 (yI (i:=5) x3.nd rfl (iM rfl) (js (jd K) (jC (j0 (je c_law_take (hr.mono ⋯) rfl (j0 (pv 1) (j0 j5 j2))) (j0 j5 j2))) (je c_law_take (hr.mono ⋯) rfl (j0 (pv 1) (j0 j5 j2))) (λ_ _=>rfl)))
   (j4 (xF (je c_law_walk (hr.mono ⋯) rfl (j0 (pv 2) (j0 (pv 4) (j0 (pv 5) j2)))) (qj (n:=2) K rfl (jm (ja (i:=6) x3.nd rfl (aQ rfl)) (jm (ja (i:=7) x3.nd rfl (aQ rfl)) qh))))
   (yK (qw aX rfl (qc K (jo vz (jC (j0 (pv 5) (j0 j5 j2))) (qa (osc:=(j8 vS)) (ON:=["_law_script","_law_box_here","_law_scene_here","_law_ice","_law_lane","_law_last","_law_found","_law_ends","_law_year_here","_law_place","_law_one","_law_due","_law_told"]) (N:=["_law_turn","_law_box_here","_law_last"]) (own:=1) (caps:=[1,5]) ⟨rfl,∅,∅,∅,rfl,∅⟩ rfl rfl rfl (qi rfl nb.b_range (j0 j5 j2)) (λ_ _ _ _ _=>(ja (i:=0) (show bu (["_law_turn","_law_box_here","_law_last"]:List Str) by decide +kernel) rfl (aQ rfl))) (λ_ _ _ _ _=>jN) (λ_ _ _ _ _=>(je c_law_take (hr.mono ⋯) rfl (j0 (pv 1) (j0 (jo jT (pv 2) j5) j2))))))) (ja (i:=8) x3.nd rfl (aQ rfl)) (j9 (qw aX rfl (km K rfl nb.b_enumerate (j0 (je c_law_marks (hr.mono ⋯) rfl (j0 (pv 2) (j0 (pv 4) (j0 (pv 8) j2)))) j2)) (qj (n:=2) K rfl (jm (ja (i:=9) x3.nd rfl (aQ rfl)) (jm (ja (i:=10) x3.nd rfl (aQ rfl)) qh))) (j4 (jr 11 x3.nd (je c_law_runs (hr.mono ⋯) rfl (j0 (jH (jO hr) (js (jd K) (pv 6) (pv 8) (λ_ _=>rfl)) (pv 10) (λ_ _=>rfl)) j2)))
   (j4 (jr 12 x3.nd (je c_pile.cal (hr.mono ⋯) rfl (j0 (pv 3) (j0 (pv 4) (j0 (pv 9) (j0 (pv 8) j2))))))
   (j4 (jS (x4 (y8 (je c_law_alike (hr.mono ⋯) rfl (j0 (pv 12) (j0 (pv 11) j2))))) (j9 (jk XM)) jx)
   (j9 (jP (xP K b7 bf bg jX (pv 12) (j0 (jI (j0 j5 (j0 j5 (j0 j5 j2)))) j2))))))))))
   (j4 (xF (je c_law_bent_spot (hr.mono ⋯) rfl (j0 (pv 1) (j0 (pv 2) (j0 j5 j2)))) (qj (n:=3) K rfl (jm (ja (i:=4) x3.nd rfl (aQ rfl)) (jm (ja (i:=9) x3.nd rfl (aQ rfl)) (jm (ja (i:=8) x3.nd rfl (aQ rfl)) qh)))))
   (j4 (jr 11 x3.nd (je c_law_due_spot (hr.mono ⋯) rfl (j0 (pv 2) (j0 (pv 4) (j0 (pv 9) (j0 (pv 8) j2))))))
   (j9 (jk (A0 (xV Ql (pv 11) ul (jD _)) (yu (xV (Y9 K hr.units) (je c_law_try_pile (hr.mono ⋯) rfl (j0 (pv 3) (j0 (pv 4) (j0 (pv 9) (j0 (pv 8) j2))))) (pv 11) (jD _))))))))))))))),?_⟩
  left
  refine ⟨a,ns,rfl,hS,λL b H1 hb B1 s1=>?_⟩
  have T1:=T0.same s1
  left
  refine ⟨L,b,rfl,B1,λsd H2 c B2 X2 S2 O=>?_⟩
  have T2:=Gp B1 X2 T1
  left
  refine ⟨sd,b,c,rfl,S2,O,T2,λp H3 g I3 F3 R3 T3 er et es ek el ld ny nd=>?_⟩
  have W3:Lw C L b sd p c g H2 H3:=Lw.start S2 O B2 T2 I3 F3 R3
  have kk:Lk c g:=⟨er,et,es,ek,el,ld,ny,nd⟩
  clear I3 R3 T3 er et es ek el ld ny nd
  have hw1:1<=c.ws.length:=by
   rw [O.ro.length]
   exact JL (qk O.gr.ok) O.l1
  have hw6:c.ws.length<=6:=by rw [O.ro.length];exact O.gr.heads
  have hg30:∀w∈c.ws,1<=(jb c.rs w).length/\(jb c.rs w).length<=30:=λw hw=>⟨kK O.gr O.ro hw,(wO (O.gr.good O.l1 O.l8)).2.2.2 c.ws O.ro w hw⟩
  have hll:g.lds.length=g.slopes.length:=by rw [kk.ll,O.ldl,kk.sl,ah]
  have t1:=O.t1
  have t2:=O.t2
  obtain ⟨wr,hwr⟩:=zG.of W3.S.sk
  have wgood:=hwr.good W3.S.sk
  have sgood:=λy=>UV wgood O.tg t1 y
  have hsz:c.ys.length=c.ts.length:=aT W3.S.r3
  have hzl:c.zs.length=c.ws.length:=(aT W3.S.gi).trans (ah _)
  have hsl:g.slopes.length=c.ws.length:=by rw [kk.sl,ah]
  have hgd:∀{H':Hp},ScAt H' sd c->qR H' sd (.str "grounds") (some (.ref c.gl)):=λS'=>by rw [<- qU c.p c.q c.sg c.gl c.ll];exact qR.k (k:=.inr "grounds") S'.sd
  have pileC:∀(H3:Hp) (l n y:Int) (wy:List Int) (da:Addr) (dn ms:List (Int×Int)) (Q':VK),Lw C L b sd p c g H2 H3->zG H3 c.sk wr->LaneF c g l wy da dn->ms.Perm dn->(ms.map (·.1)).Pairwise (· <= ·)->0<=n->n<((jb c.rs wy).length:Int)->0<=y->y<=10 ^ 40->(∀o out rs H4,H3 o=none->H4 o=some (.lst out)->jp H4 out rs->yh rs->jy rs=wA ((xj ms (jb c.rs wy) wr c.ts (y+jg dn y-n)).take ((y-jq 0 0 ms (y+jg dn y-n)).toNat+1))->(jy rs).length<=900->jj H3 H4->Q' (.ref o) H4)->Qp C CN CP CY [.ref p,.int l,.int n,.int y] H3 Q' E0:=λH3 l n y wy da dn ms Q' W' hw' LF hp hs n0 n1 y0 y1 kq=>by
   have g30:=LF.g30
   have l0:=LF.l0
   have l1:=LF.l1
   refine ⟨p,g,l,n,y,c.sk,wr,rfl,W'.I,hll,kk.kv,hw',by rw [kk.rows];exact t1,by rw [kk.rows];right,by rw [kk.rows];exact sgood,(λhb=>absurd hb ()),(λ_ _ hb=>absurd hb (by rw [LF.sl];right)),λ_ _ _ _=>⟨dn,ms,LF.at_,(λq hq=>(LF.pos q hq).1),by rw [LF.sl];right,hp,hs,(λH' _ hb=>absurd hb ()),λ_ _ L' i eL ei=>?_⟩⟩
   rw [LF.sl,kk.rows] at eL
   subst eL ei
   exact kq
  left
  refine ⟨sd,.ref c.gl,rfl,hgd W3.S,?_⟩
  left
  refine ⟨c.gl,_,rfl,.inl (SqL.of W3.S.gl),?_⟩
  rw [hzl]
  left
  refine ⟨L,b,_,rfl,W3.B,⟨(),()⟩,λln H4 ln0 ln1 B4 X4=>?_⟩
  have W4:=W3.take B4 X4
  have hw4:=hwr.keep (xw W3.B X4)
  clear W3 hwr
  obtain ⟨wy,da,dn,LF⟩:=kk.lane O ln0 ()
  obtain ⟨ms,hp,hs⟩:=vN dn
  have g30:=LF.g30
  have g1:=LF.g1
  left
  refine ⟨L,b,_,rfl,W4.B,⟨⋯,⋯⟩,λl1' H5 l10 l11 B5 X5=>?_⟩
  have W5:=W4.take B5 X5
  have hw5:=hw4.keep (xw W4.B X5)
  left
  refine ⟨by show 2<=sizeLine;decide,λlst H6 hl6 hlst6 s6=>?_⟩
  have W6:=W5.same s6
  have hw6':=hw5.keep (ji.same s6)
  have lstb:=W5.B.ne hl6
  left
  refine ⟨L,b,_,rfl,W6.B,⟨⋯,⋯⟩,λpk H7 pk0 pk1 B7 X7=>?_⟩
  have W7:=W6.take B7 X7
  have hw7:=hw6'.keep (xw W6.B X7)
  have hl7:=X7 _ _ hlst6 lstb
  obtain ⟨last,hlast,last0,last1⟩:∃last:Int,atI [V.int l1',V.int 30] pk=some (V.int last)/\0<=last/\last<45:=by
   have:pk=0\/pk=1:=()
   rcases this with rfl | rfl
   ·exact ⟨l1',rfl,(),()⟩
   ·exact ⟨30,rfl,(),()⟩
  left
  refine ⟨_,_,_,_,rfl,rfl,SqL.of hl7,hlast,?_⟩
  clear W4 hw4 W5 hw5 W6 hw6' hlast hl7 hlst6 hl6 lstb
  left
  refine ⟨sd,c,g,ln,last,wy,da,dn,wr,λ_ _=>True,rfl,W7.S,LF,hw7,t1,(),sgood,(),(),(λi _=>⟨λ_ _ _ _ _=>trivial,λ_ _ _ _ _ _ _=>trivial⟩),λt fo ea ds H8 ht hfo hea ht8 hfo8 D8 _ f8=>?_⟩
  have W8:=W7.fr f8
  have hw8:=hw7.keep (FrM.keepT f8)
  have fob:=W7.B.ne hfo
  have okb:∀a,H7 a=none->a≠b:=λa h=>W7.B.ne h
  clear hw7
  left
  refine ⟨t,_,rfl,SqT.of ht8,rfl,?_⟩
  refine ⟨_,_,rfl,_,_,rfl,rfl,?_⟩
  left
  refine ⟨λσ H9=>∃v4 v5 v6 v7 v8 v9 v10 v11 v12:Option V,σ=[some (.ref a),some (.ref b),some (.ref sd),some (.ref p),v4,v5,v6,v7,v8,v9,v10,v11,v12]/\Lw C L b sd p c g H2 H9/\zG H9 c.sk wr,?_,?_⟩
  ·left
   refine ⟨by show 2<=sizeLine;decide,λla2 H9 hla2 hla29 s9=>?_⟩
   have W9:=W8.same s9
   have hw9:=hw8.keep (ji.same s9)
   have D9:=D8.fr (FrM.of_same (M:=c.D) s9)
   have hfo9:=s9 _ _ hfo8
   have la2b:=W8.B.ne hla2
   clear W8 hw8 D8 hfo8
   left
   refine ⟨⋯,⋯,λacc hacc=>?_⟩
   have na1:=W9.B.ne hacc
   have na2:=W9.B.neL hacc
   refine qX (lo:=0) (n:=(4:Int).toNat) (acc:=acc) (λi σ H3=>∃(x:Option V) (dr:List Int),σ=[x,some (.ref b),some (.int last)]/\jU L H3 b/\H3 acc=some (.lst (dr.map V.int))/\dr.length=i/\(∀x∈dr,0<=x/\x<=last)/\Ext b H9 H3) ?_ ?_ ?_
   ·exact ⟨none,[],rfl,W9.B.put na1 na2,j6,rfl,(by intro x hx;cases hx),Ext.new hacc⟩
   ·rintro i σ H3 hi ⟨x,dr,rfl,B3,h3,hl3,hb3,e3⟩
    left
    refine ⟨L,b,_,rfl,B3,⟨(),()⟩,λv H4 p4 q4 B4 X4=>?_⟩
    have h4:=X4 _ _ h3 na1
    refine ⟨_,h4,by rw [ah];exact jh (),_,dr++[v],rfl,B4.put na1 na2,by rw [j6,aG];rfl,by rw [aq,hl3];rfl,λx hx=>?_,λc o hc n=>?_⟩
    ·rcases List.mem_append.mp hx with hx | hx
     ·exact hb3 x hx
     ·have:x=v:=by simpa using hx
      right
    ·rw [j7 (j1 hc hacc)]
     exact X4 _ _ (e3 c o hc n) n
   rintro σ H10 ⟨x,dr,rfl,B10,h10,hl10,hb10,X10⟩
   have W10:=W9.take B10 X10
   have hw10:=hw9.keep (xw W9.B X10)
   have D10:=D9.ext W9.B X10 okb
   have hfo10:=X10 _ _ hfo9 fob
   have hla210:=X10 _ _ hla29 la2b
   clear W9 hw9 D9 hfo9 hla29
   have hl10':dr.length=4:=hl10
   left
   refine ⟨la2,acc,_,_,rfl,rfl,hla210,h10,by rw [ah,hl10'];show 2+4<=sizeLine;decide,λyl H11 hyl hyl11 s11=>?_⟩
   have hyl11:H11 yl=some (.lst ((last::0::dr).map V.int)):=hyl11
   have hys:∀y∈last::0::dr,0<=y/\y<=last:=λy hy=>by
    rcases List.mem_cons.mp hy with rfl | hy
    ·right
    ·rcases List.mem_cons.mp hy with rfl | hy
     ·right
     ·exact hb10 y hy
   have W11:=W10.same s11
   have hw11:=hw10.keep (ji.same s11)
   have D11:=D10.fr (FrM.of_same (M:=c.D) s11)
   have hfo11:=s11 _ _ hfo10
   clear W10 hw10 D10 hfo10 hla210 h10 hb10
   left
   refine ⟨⟨_,SqL.of hyl11⟩,?_⟩
   refine zD (K:=K) (a:=yl) (xs:=(last::0::dr).map V.int) (λi σ H12=>∃v8 v9 v10 v11 v12:Option V,σ=[some (.ref a),some (.ref b),some (.ref sd),some (.ref p),some (.int ln),some (.int last),some (.ref fo),some (.ref ea),v8,v9,v10,v11,v12]/\FrM c.D H11 H12) ?_ ?_ ?_ ?_
   ·exact ⟨_,_,_,_,_,rfl,FrM.of_same (jj.refl _)⟩
   ·rintro i σ H12 hi ⟨v8,v9,v10,v11,v12,rfl,f12⟩
    exact SqL.of (f12.at hyl11 (by walk_at "w"))
   ·rintro i v σ H12 hv ⟨v8,v9,v10,v11,v12,rfl,f12⟩
    obtain ⟨y,rfl,hy⟩:=yA hv
    obtain ⟨y0,y1⟩:=hys y (az hy)
    obtain ⟨yn,rfl⟩:∃yn:Nat,y=(yn:Int):=⟨y.toNat,()⟩
    have W12:=W11.fr f12
    left
    refine ⟨sd,c,g,ln,(yn:Int),wy,da,dn,rfl,W12.S,LF,λmk H13 hmk hmk13 f13=>?_⟩
    left
    refine ⟨⟨_,SqL.of hmk13⟩,?_⟩
    refine kO (K:=K) (a:=mk) (xs:=(zJ ((yn:Int)+jg dn (yn:Int)) (jb c.rs wy).length).map V.int) (λq σ H14=>∃v9 v10 v11 v12:Option V,σ=[some (.ref a),some (.ref b),some (.ref sd),some (.ref p),some (.int ln),some (.int last),some (.ref fo),some (.ref ea),some (.int (yn:Int)),v9,v10,v11,v12]/\FrM c.D H13 H14) ?_ ?_ ?_ ?_
    ·exact ⟨_,_,_,_,rfl,FrM.of_same (jj.refl _)⟩
    ·rintro n σ H14 hn ⟨v9,v10,v11,v12,rfl,f14⟩
     exact SqL.of (f14.at hmk13 (by walk_at "w"))
    ·rintro n v σ H14 t hv' ⟨v9,v10,v11,v12,rfl,f14⟩ ht
     obtain ⟨one,rfl,hone⟩:=yA hv'
     have hn:n<(jb c.rs wy).length:=by have:=(List.getElem?_eq_some_iff.mp hone).1;rw [vA] at this;exact this
     rw [Xf hn] at hone
     have hone:=aW hone
     subst hone
     have sT:jj H14 (upd H14 t (.tup [.int (n:Int),.int ((yn:Int)+jg dn (yn:Int)-(n:Int))])):=jj.new ht
     have f1315:=f14.trans (FrM.of_same (M:=c.D) sT)
     have f15:=(f12.trans f13).trans f1315
     left
     refine ⟨t,_,rfl,SqT.of j6,rfl,?_⟩
     refine ⟨_,_,rfl,_,_,rfl,rfl,?_⟩
     left
     clear f14 sT ht
     generalize upd H14 t (.tup [.int (n:Int),.int ((yn:Int)+jg dn (yn:Int)-(n:Int))])=H15 at *
     have W15:=W11.fr f15
     have hw15:=hw11.keep (FrM.keepT f15)
     have hfo15:=f15.at hfo11 (by walk_at "w")
     obtain ⟨d,ps,hds,hd,P15,_⟩:=(D11.fr f15).2 yn ()
     have hkeys:=jz.keys P15
     have hnd:(ps.map (·.1)).Nodup:=hkeys ▸ wH dn (jb c.rs wy) wr c.ts (yn+1)
     have hpl:ps.length=(jb c.rs wy).length:=by
      have h1:=congrArg fI hkeys
      rw [ah,ah] at h1
      rw [h1]
      show ((aI _).map _).length=_
      rw [ah,bp]
     obtain ⟨z,hz⟩:∃z,ps[n]? = some z:=⟨_,af ()⟩
     obtain ⟨q,hq,ez,out,hout,hrows⟩:=Paired.get P15 hz
     rw [Vc hn] at hq
     have hq:=aW hq
     subst hq
     have hval:jZ (ps.map kvA) (.inl ((yn:Int)+jg dn (yn:Int)-(n:Int)))=some (.ref z.2):=by
      rw [<- show z.1=(yn:Int)+jg dn (yn:Int)-(n:Int) from ez]
      exact vD hnd (az hz)
     have hlen:=XT (Qx (dn:=dn) (gd:=jb c.rs wy) sgood (yn+1)) ((yn:Int)+jg dn (yn:Int)-(n:Int))
     have e0:(yn:Int)+jg dn (yn:Int)-((yn:Int)+jg dn (yn:Int)-(n:Int))=(n:Int):=()
     have hon:=(zS hp hs LF.nd LF.pos ((yn:Int)+jg dn (yn:Int)-(n:Int)) ((jb c.rs wy).length:Int) (yn:Int) ()).mp ()
     have he0:=zR hp hs LF.pos ((yn:Int)+jg dn (yn:Int)-(n:Int))
     have hcol:=(UD (gd:=jb c.rs wy) (wr:=wr) (ts:=c.ts) hp hs LF.nd LF.pos ((yn:Int)+jg dn (yn:Int)-(n:Int)) (((yn:Int)-jq 0 0 ms ((yn:Int)+jg dn (yn:Int)-(n:Int))).toNat+1) ()).1
     rw [show (jq 0 0 ms ((yn:Int)+jg dn (yn:Int)-(n:Int))).toNat+(((yn:Int)-jq 0 0 ms ((yn:Int)+jg dn (yn:Int)-(n:Int))).toNat+1)=yn+1 by right] at hcol
     refine ⟨_,_,_,_,rfl,rfl,SqL.of hfo15,qQ (v:=V.ref d) () (by rw [bF];exact hds),?_⟩
     left
     refine ⟨d,.ref z.2,rfl,.inl ⟨_,.inl ((yn:Int)+jg dn (yn:Int)-(n:Int)),hd,rfl,hval.symm⟩,?_⟩
     left
     simp only [Vg,aN]
     refine ⟨z.2,out,_,rfl,hout,hrows,aH hlen (show 9*(yn+1)<=900 by right),λlr H16 vl hlr hlr16 rl s16=>?_⟩
     left
     simp only [Vg,aN]
     refine pileC H16 ln (n:Int) (yn:Int) wy da dn ms _ (W15.same s16) (hw15.keep (ji.same s16)) LF hp hs () () () (pZ (show (yn:Int)<=60 by right) ⋯) λo1 out1 rs1 H17 ho1 ho17 r1 g1' e1 k1 s17=>?_
     have erun:=UF (hcol.trans e1.symm) g1'
     rw [erun] at rl
     have hl1:=uX g1'
     have hol1:out1.length=rs1.length:=aT r1
     left
     refine ⟨_,_,.list (rs1.map G1),rfl,.lst ho17 (jp.dat r1),.lst (s17 _ _ hlr16) (jp.dat (jp.same rl s17)),GV _ (),λH18 s18=>?_⟩
     left
     refine ⟨.inl ⟨rfl,_,SqL.of (s18 _ _ ho17)⟩,?_⟩
     left
     refine ⟨by show 3<=sizeLine;decide,λtq H19 htq htq9 s19=>?_⟩
     left
     refine ⟨o1,out1,_,rfl,rfl,s19 _ _ (s18 _ _ ho17),jh (),?_⟩
     exact ⟨_,_,_,_,rfl,(f1315.trans (FrM.of_same (s16.trans (s17.trans (s18.trans s19))))).put (f1315.no (s16.free ho1))⟩
    ·rintro σ H14 ⟨v9,v10,v11,v12,rfl,f14⟩
     exact ⟨_,_,_,_,_,rfl,(f12.trans f13).trans f14⟩
   ·rintro σ H12 ⟨v8,v9,v10,v11,v12,rfl,f12⟩
    exact ⟨_,_,_,_,_,_,_,_,_,rfl,W11.fr f12,hw11.keep (FrM.keepT f12)⟩
  ·rintro σ H9 ⟨v4,v5,v6,v7,v8,v9,v10,v11,v12,rfl,W9,hw9⟩
   left
   refine ⟨L,b,sd,c,3,rfl,W9.B,W9.S,O,hw1,hw6,hg30,λl2 n2 y2 t H10 B10 X10 ht ht0=>?_⟩
   have W10:=W9.take B10 X10
   have hw10:=hw9.keep (xw W9.B X10)
   left
   refine ⟨t,_,rfl,SqT.of ht0,rfl,?_⟩
   refine ⟨_,_,rfl,_,_,rfl,_,_,rfl,rfl,?_⟩
   left
   refine ⟨sd,c,l2,n2,y2,rfl,W10.S,λhd=>?_,λw t3 H11 hd ht3 ht31 s11=>?_⟩
   ·left
    exact k H10
   ·have W11:=W10.same s11
    have hw11:=hw10.keep (ji.same s11)
    have hok:=Gk hd
    left
    simp only [Vg,aN]
    refine ⟨p,g,l2,n2,y2,c.sk,wr,rfl,W11.I,hll,kk.kv,hw11,by rw [kk.rows];exact t1,by rw [kk.rows];right,by rw [kk.rows];exact sgood,(λhb t' H' ht' s'=>?_),(λh0 h1 hb t' H' ht' s'=>?_),λh0 h1 hn0 hn1=>?_⟩
    ·rw [Va (by rw [<- hsl];exact hb)] at hd
     cases hd
     left
     refine ⟨λ_=>False,λ_=>False,_,_,Dat.rep (λ_=>id) (vF ht'),Dat.rep (λ_=>id) (vF (s' _ _ ht31)),xC hok,xC hok,?_⟩
     rw [nX _ (ie (xC hok))]
     exact k H'
    ·obtain ⟨wy2,da2,dn2,LF⟩:=kk.lane O h0 ()
     rw [Z3 h0 () LF.way (by rw [<- LF.sl];exact hb)] at hd
     cases hd
     left
     refine ⟨λ_=>False,λ_=>False,_,_,Dat.rep (λ_=>id) (vF ht'),Dat.rep (λ_=>id) (vF (s' _ _ ht31)),xC hok,xC hok,?_⟩
     rw [nX _ (ie (xC hok))]
     exact k H'
    ·obtain ⟨wy2,da2,dn2,LF2⟩:=kk.lane O h0 ()
     obtain ⟨ms2,hp2,hs2⟩:=vN dn2
     have g302:=LF2.g30
     have hn1':=hn1
     rw [LF2.sl] at hn1'
     rw [YZ h0 () LF2.way hn0 hn1'] at hd
     by_cases hy:0<=y2/\y2<=10 ^ 40
     ·rw [if_pos hy] at hd;cases hd
     ·rw [if_neg hy] at hd
      cases hd
      refine ⟨(),⟨dn2,ms2,LF2.at_,(λq hq=>(LF2.pos q hq).1),by rw [LF2.sl];right,hp2,hs2⟩,λt' H' ht' s'=>?_⟩
      left
      refine ⟨λ_=>False,λ_=>False,_,_,Dat.rep (λ_=>id) (vF ht'),Dat.rep (λ_=>id) (vF (s' _ _ ht31)),xC hok,xC hok,?_⟩
      rw [nX _ (ie (xC hok))]
      exact k H'
end
local macro_rules | `(tactic| walk_at "1")=>`(tactic| exact fun _ _ _ _ _ _ _ hl=>bnd1 hl fun _=>rfl)
local macro_rules | `(tactic| walk_at "2")=>`(tactic| exact fun _ _ _ _ _ _ _ hl=>bnd2 hl fun _ _=>rfl)
local macro_rules | `(tactic| walk_at "3")=>`(tactic| exact fun _ _ _ _ _ _ _ hl=>bnd3 hl fun _ _ _=>rfl)
local macro_rules | `(tactic| walk_at "4")=>`(tactic| exact fun _ _ _ _ _ _ _ hl=>bnd4 hl fun _ _ _ _=>rfl)
local macro_rules | `(tactic| walk_at "5")=>`(tactic| exact fun _ _ _ _ _ _ _ hl=>bnd5 hl fun _ _ _ _ _=>rfl)
local macro_rules | `(tactic| walk_at "6")=>`(tactic| exact fun _ _ _ _ _ _ _ hl=>bnd6 hl fun _ _ _ _ _ _=>rfl)
theorem Ec {l:sx}{K:ag}(X:K.In h) (G:h.Ns mainGlobals mg) (hfa:mg "law" = some (.ref fa))
  
  {C0:Addr}
  {C1:Addr}
  {C2:Addr}
  {C3:Addr}
  {C4:Addr}
  {C5:Addr}
  {C6:Addr}
  {C7:Addr}
  {C8:Addr}
  
  
  
  
  
  
  
  
  
  
  
  (aCI:aS K mainGlobals "Ice" = some (some (.ref CI))) (pgI:fg K CI Str.empty=true) (hdI:fS K CI=true) (poI:lL K CI=true) (saI:bM K (.ref CI) "__setattr__" = some (some (.builtin "object.__setattr__"))) (mkI:mH K CI=true) (kcI:bR K (.ref CI)=true)
  (na0:bM K (.ref CI) "valley" = some none)
  (na1:bM K (.ref CI) "cycle" = some none)
  (na2:bM K (.ref CI) "slopes" = some none)
  (na3:bM K (.ref CI) "years" = some none)
  (na4:bM K (.ref CI) "leaps" = some none)
  (a1:gN K "laid" ZS)
  (a2:gN K "taken" Qr)
  (a3:gN K "leads_on" vX)
  (a4:gN K "is_reach" yJ)
  (a5:gN K "way_down" uq)
  (a6:aS K mainGlobals "lanes" = some (some (.ref f6))) (l6:K.lookup f6=some ⟨oc6,od6,.func (bG "lanes" "lanes" (jV xc) (jM xc) (j8 xc) .none kV6 dc6 pm6 an6 (.ref cL) ct6),sl6⟩) (c6:cC K (.ref cL) "lanes" = true) (k6:bR K (.ref f6)=true) (hdL:PySem.W.codeHdIn K cL 168=true)
  (a7:gN K "way_of" gJ)
  (a8:gN K "count_places" xG)
  (a9:gN K "fits" Qy)
  (a10:gN K "is_valley" zX)
  (a11:gN K "heights" vC)
  (a12:gN K "is_weather" yE)
  (a13:gN K "change" kT)
  (a14:gN K "is_round" yO)
  (a15:gN K "check_round" zY)
  (a16:gN K "check_told" yG)
  (a17:gM K CI "__init__" "Ice.__init__" qO)
  (a18:gM K CI "check_lane" "Ice.check_lane" xL)
  (a19:gM K CI "check_place" "Ice.check_place" xr)
  (a20:gM K CI "length" "Ice.length" y9)
  (a21:gM K CI "height" "Ice.height" y4)
  (a22:gM K CI "sky" "Ice.sky" vW)
  (a23:gM K CI "tell" "Ice.tell" yY)
  (a24:gM K CI "surge" "Ice.surge" yB)
  (a25:gM K CI "surges" "Ice.surges" xT)
  (a26:gN K "check_asked" yc)
  (a27:gN K "ride_by" vB)
  (a28:gN K "earliest" ug)
  (a29:gN K "span" ZJ)
  (a30:gN K "ridden" gL)
  (a31:gN K "life" Z0)
  (a32:gN K "parted" kL)
  (a33:gN K "pile" Zd)
  (a34:gN K "_law_box" wn)
  (a35:gN K "_law_mixed" vt)
  (a36:gN K "_law_take" uf)
  (a37:gN K "_law_whole" yZ)
  (a38:gN K "_law_alike" zf)
  (a42:gN K "_law_odd" uZ)
  (a43:gN K "_law_weather" ya)
  (a44:gN K "_law_round" zT)
  (a45:gN K "_law_ground_drawn" qv)
  (a46:gN K "_law_reaches" xn)
  (a47:gN K "_law_roads" zh)
  (a48:gN K "_law_ground" yw)
  (a49:gN K "_law_year" ub)
  (a50:gN K "_law_scene" ze)
  (a51:gN K "_law_made" ur)
  (a52:gN K "_law_row" wj)
  (a53:gN K "_law_wish" um)
  (a54:gN K "_law_ride" yL)
  (a55:gN K "_law_marks" zW)
  (a56:gN K "_law_year_of" zZ)
  (a57:gN K "_law_walk" uc)
  (a58:gN K "_law_runs" ue)
  (a59:gN K "_law_spot" ua)
  (a60:gN K "_law_refused" qP)
  (a61:gN K "_law_due_spot" zC)
  (a62:gN K "_law_bent_spot" zm)
  (a63:gN K "_law_try_pile" zH)
  (a64:aS K mainGlobals "law" = some (some (.ref f64))) (l64:K.lookup f64=some ⟨oc64,od64,.func (bG "law" "law" (jV vS) (jM vS) (j8 vS) .none kV64 dc64 pm64 an64 cd64 ct64),sl64⟩) (c64:cC K cd64 "law" = true) (k64:bR K (.ref f64)=true)
  (ec0:gE K "BadValley" C0)
  (ec1:gE K "BadRound" C1)
  (ec2:gE K "NoLane" C2)
  (ec3:gE K "BadYear" C3)
  (ec4:gE K "BadWeather" C4)
  (ec5:gE K "BadSurge" C5)
  (ec6:gE K "NoPlace" C6)
  (ec7:gE K "BadHand" C7)
  (ec8:gE K "FirnError" C8)
  (mm28:fc K (.ref C2) (.ref C8)=some true)
  (mm38:fc K (.ref C3) (.ref C8)=some true)
  (mm68:fc K (.ref C6) (.ref C8)=some true)
  (rN:RefK K C3 C2 C6 C7 C2 false true false false)
  (rP:RefK K C3 C2 C6 C7 C6 false false true false)
  (rY:RefK K C3 C2 C6 C7 C3 true false false false)
  (z0:aS K mainGlobals "len" = some none)
  (z1:aS K mainGlobals "range" = some none)
  (z2:aS K mainGlobals "isinstance" = some none)
  (z3:aS K mainGlobals "int" = some none)
  (z4:aS K mainGlobals "bool" = some none)
  (z5:aS K mainGlobals "str" = some none)
  (z6:aS K mainGlobals "list" = some none)
  (z7:aS K mainGlobals "tuple" = some none)
  (z8:aS K mainGlobals "min" = some none)
  (z9:aS K mainGlobals "max" = some none)
  (z10:aS K mainGlobals "all" = some none)
  (z11:aS K mainGlobals "zip" = some none)
  (z12:aS K mainGlobals "enumerate" = some none)
  (z13:aS K mainGlobals "sorted" = some none)
  (z14:aS K mainGlobals "sum" = some none)
  (z15:aS K mainGlobals "dict" = some none)
  (z16:aS K mainGlobals "ValueError" = some none)
  (q0:aS K mainGlobals "MOST_REACHES" = some (some (.int 8 u0)))
  (q1:aS K mainGlobals "MOST_HEIGHTS" = some (some (.int 12 u1)))
  (q2:aS K mainGlobals "GREATEST_HEIGHT" = some (some (.int 99 u2)))
  (q3:aS K mainGlobals "MOST_LANES" = some (some (.int 6 u3)))
  (q4:aS K mainGlobals "LONGEST_LANE" = some (some (.int 30 u4)))
  (q5:aS K mainGlobals "HIGHEST_LINE" = some (some (.int 100 u5)))
  (q6:aS K mainGlobals "MOST_HANDS" = some (some (.int 9 u6)))
  (q7:aS K mainGlobals "MOST_ROWS" = some (some (.int 12 u7)))
  (q8:aS K mainGlobals "LAST_TOLD" = some (some (.int 99 u8)))
  (q9:aS K mainGlobals "LAST_ASKED" = some (some (.int 10000000000000000000000000000000000000000 u9)))
  (q10:aS K mainGlobals "GREATEST_SURGE" = some (some (.int 9 u10)))
  : ∃fd:FuncData,(∀(s:Shared) (v:aj),pG s fd ⟨[v],[]⟩ [("_law_script",v)])/\∀base:Heap,K.In base->base.Ns mainGlobals mg->Bm mg base->FnOk l.prog w K mg base CX0 11 fa fd ["_law_script"] (Zv K 168):=by
 have e:=hfa.symm.trans (bj X G a64)
 cases e
 have nb:Nb2 mg:={ b_len:=bo X G z0,b_range:=bo X G z1,b_isinstance:=bo X G z2,b_int:=bo X G z3,b_bool:=bo X G z4,b_str:=bo X G z5,b_list:=bo X G z6,b_tuple:=bo X G z7,b_min:=bo X G z8,b_max:=bo X G z9,b_all:=bo X G z10,b_zip:=bo X G z11,b_enumerate:=bo X G z12,b_sorted:=bo X G z13,b_sum:=bo X G z14 }
 have b_dict:=bo X G z15
 have b_ValueError:=bo X G z16
 have g_MOST_REACHES:=bj X G q0
 have g_MOST_HEIGHTS:=bj X G q1
 have g_GREATEST_HEIGHT:=bj X G q2
 have g_MOST_LANES:=bj X G q3
 have g_LONGEST_LANE:=bj X G q4
 have g_HIGHEST_LINE:=bj X G q5
 have g_MOST_HANDS:=bj X G q6
 have g_MOST_ROWS:=bj X G q7
 have g_LAST_TOLD:=bj X G q8
 have g_LAST_ASKED:=bj X G q9
 have g_GREATEST_SURGE:=bj X G q10
 have e_BadValley:=bj X G ec0.e
 have x_BadValley:=ec0.x
 have e_BadRound:=bj X G ec1.e
 have x_BadRound:=ec1.x
 have e_NoLane:=bj X G ec2.e
 have x_NoLane:=ec2.x
 have e_BadYear:=bj X G ec3.e
 have x_BadYear:=ec3.x
 have e_BadWeather:=bj X G ec4.e
 have x_BadWeather:=ec4.x
 have e_BadSurge:=bj X G ec5.e
 have x_BadSurge:=ec5.x
 have e_NoPlace:=bj X G ec6.e
 have x_NoPlace:=ec6.x
 have e_BadHand:=bj X G ec7.e
 have e_FirnError:=bj X G ec8.e
 have cl_Ice:Cls K CI:=⟨pgI,hdI,poI,saI⟩
 have T_Ice:IceC K CI:=⟨cl_Ice,na0,na1,na2,na3,na4⟩
 refine ⟨bG "law" "law" (jV vS) (jM vS) (j8 vS) .none kV64 dc64 pm64 an64 cd64 ct64,λs v=>.of_eq rfl,λbase hKb _ hBm=>?_⟩
 have CH:=PySem.W.codeHd_of_K hKb hdL
 have z:Zt l.prog w K mg base:=⟨X,G⟩
 have c_laid:=a1.cal z (by walk_at "2") (Gs nb)
 have c_taken:=a2.cal z (by walk_at "2") (Uc nb)
 have c_leads_on:=a3.cal z (by walk_at "2") (XW)
 have c_is_reach:=a4.cal z (by walk_at "2") (Xw nb g_MOST_HEIGHTS g_GREATEST_HEIGHT c_leads_on)
 have c_way_down:=a5.cal z (by walk_at "2") (Xh nb)
 have c_lanes:Cal l.prog w K mg base 5 "lanes" ["reaches"] (uS K 168):=Cal.mkC (st:=xc) X G a6 l6 c6 k6 (by walk_at "1") (VZ nb c_way_down CH hBm l6 c6)
 have c_way_of:=a7.calX z (by walk_at "2") (V5 nb e_NoLane x_NoLane c_lanes)
 have c_count_places:=a8.cal z (by walk_at "2") (wY nb)
 have c_fits:=a9.cal z (by walk_at "2") (Wf nb g_MOST_LANES g_LONGEST_LANE c_count_places)
 have c_is_valley:=a10.cal z (by walk_at "1") (Qc nb g_MOST_REACHES c_is_reach c_lanes c_fits)
 have c_heights:=a11.calX z (by walk_at "2") (ZP nb c_way_of)
 have c_is_weather:=a12.cal z (by walk_at "1") (Jh g_HIGHEST_LINE g_MOST_HANDS)
 have c_change:=a13.cal z (by walk_at "2") (Vb)
 have c_is_round:=a14.cal z (by walk_at "1") (QM nb.toNb g_MOST_ROWS c_is_weather)
 have c_check_round:=a15.calX z (by walk_at "1") (kA nb e_BadRound x_BadRound c_is_round)
 have c_check_told:=a16.calX z (by walk_at "1") (Jm g_LAST_TOLD e_BadYear x_BadYear)
 have c_Ice:=a17.mak z mkI kcI aCI (by walk_at "3") (wo nb T_Ice e_BadValley x_BadValley c_is_valley c_check_round c_lanes c_heights.cal)
 have c_Ice__check_lane:=a18.calX z (by walk_at "2") (uh nb T_Ice e_NoLane x_NoLane)
 have c_Ice__check_place:=a19.calX z (by walk_at "3") (vK nb T_Ice e_NoPlace x_NoPlace cl_Ice c_Ice__check_lane)
 have c_Ice__length:=a20.calX z (by walk_at "2") (hX nb T_Ice cl_Ice c_Ice__check_lane)
 have c_Ice__height:=a21.calX z (by walk_at "3") (hZ nb T_Ice cl_Ice c_Ice__check_place)
 have c_Ice__sky:=a22.cal z (by walk_at "2") (Xn nb T_Ice)
 have c_Ice__tell:=a23.calX z (by walk_at "3") (Qj nb T_Ice e_BadWeather x_BadWeather c_check_told c_is_weather)
 have c_Ice__surge:=a24.calX z (by walk_at "4") (Jj nb T_Ice cl_Ice g_GREATEST_SURGE e_BadSurge x_BadSurge c_Ice__check_lane c_check_told)
 have c_Ice__surges:=a25.calX z (by walk_at "2") (kJ nb T_Ice cl_Ice c_Ice__check_lane)
 have c_check_asked:=a26.calX z (by walk_at "1") (J6 g_LAST_ASKED e_BadYear x_BadYear)
 have c_ride_by:=a27.cal z (by walk_at "2") (Zm nb)
 have c_earliest:=a28.cal z (by walk_at "2") (XA nb)
 have c_span:=a29.calX z (by walk_at "3") (Wz cl_Ice c_Ice__surges c_Ice__length c_earliest)
 have c_ridden:=a30.calX z (by walk_at "3") (YA cl_Ice c_Ice__surges c_check_asked c_ride_by)
 have c_life:=a31.calX z (by walk_at "3") (Wv nb b_dict cl_Ice c_span c_Ice__surges c_ride_by c_change c_Ice__sky c_Ice__height)
 have c_parted:=a32.calX z (by walk_at "4") (YV cl_Ice c_Ice__check_place c_ridden c_life)
 have c_pile:=a33.calX z (by walk_at "4") (Wt nb c_parted c_laid c_taken)
 have c_law_box:=a34.cal z (by walk_at "1") (EQ nb.toNb)
 have c_law_mixed:=a35.cal z (by walk_at "2") (UW)
 have c_law_take:=a36.cal z (by walk_at "2") (WN nb.toNb c_law_mixed)
 have c_law_whole:=a37.cal z (by walk_at "1") (Ui nb)
 have c_law_alike:=a38.cal z (by walk_at "2") (YQ)
 have c_law_alike:=a38.cal z (by walk_at "2") (wq 0 nb c_law_whole c_law_alike)
 have c_law_alike:=a38.cal z (by walk_at "2") (wq 1 nb c_law_whole c_law_alike)
 have c_law_alike:=a38.cal z (by walk_at "2") (wq 2 nb c_law_whole c_law_alike)
 have c_law_odd:=a42.cal z (by walk_at "1") (GR c_law_take)
 have c_law_weather:=a43.cal z (by walk_at "1") (Zb c_law_take)
 have c_law_round:=a44.cal z (by walk_at "1") (VL nb.toNb c_law_take c_law_weather)
 have c_law_ground_drawn:=a45.cal z (by walk_at "3") (wT nb c_law_take)
 have c_law_reaches:=a46.cal z (by walk_at "1") (ZD nb c_law_take c_law_ground_drawn)
 have c_law_roads:=a47.cal z (by walk_at "1") (VX nb)
 have c_law_ground:=a48.cal z (by walk_at "2") (YE)
 have c_law_year:=a49.cal z (by walk_at "1") (WG c_law_take)
 have c_law_scene:=a50.cal z (by walk_at "1") (Ub nb c_law_take c_law_reaches c_law_round c_law_ground c_law_roads c_law_year c_law_weather)
 have c_law_made:=a51.cal z (by walk_at "1") (Go nb cl_Ice c_Ice c_Ice__tell c_Ice__surge)
 have c_law_row:=a52.cal z (by walk_at "2") (EY nb)
 have c_law_wish:=a53.cal z (by walk_at "2") (G5)
 have c_law_ride:=a54.cal z (by walk_at "3") (WI nb)
 have c_law_marks:=a55.cal z (by walk_at "3") (VS nb c_law_ride)
 have c_law_year_of:=a56.cal z (by walk_at "5") (Z9 nb c_law_marks c_law_wish c_law_row)
 have c_law_walk:=a57.cal z (by walk_at "3") (Wo nb c_law_year_of)
 have c_law_runs:=a58.cal z (by walk_at "1") (Wq nb)
 have c_law_spot:=a59.cal z (by walk_at "2") (WC nb c_law_take)
 have c_law_refused:=a60.calH z (by walk_at "1") (ZU nb b_ValueError e_BadYear e_NoLane e_NoPlace e_BadHand)
 have c_law_due_spot:=a61.cal z (by walk_at "4") (Es nb)
 have c_law_bent_spot:=a62.cal z (by walk_at "3") (WF nb c_law_take c_law_odd c_law_spot)
 have c_law_try_pile:=a63.cal z (by walk_at "4") (Zk e_FirnError mm28 mm68 mm38 rN rP rY c_pile c_law_refused)
 exact ET nb c_law_box c_law_take c_law_scene c_law_made c_law_walk c_law_marks c_law_runs c_law_bent_spot c_law_due_spot c_law_try_pile c_law_alike c_pile (vf (st:=vS) l64 c64 k64)
end K17
end
open PySem PySem.W PyProof.Rows
set_option maxRecDepth 100000 in
set_option maxHeartbeats 0 in
theorem PySem.Challenge.cw_firnfall_k17_piles_by_a_plain_walk_holds : PySem.Challenge.rw_firnfall_k17_piles_by_a_plain_walk.Holds := by
 w_on
 refine holds_law HO.ws λsaid=>?_
 refine holds_open (q:=HO.view) (loose:=HO.loose) (N:=9000) (Xt:=HO.xt) (XP:=XL HO.view [])
  (Yf:=Hook.obs (rg HO.frag.heap_1 HO.asL HO.asE [168])) (Ya:=Hook.val (rg HO.frag.heap_1 HO.asL HO.asE [168])) (YP:=Hook.says (rg HO.frag.heap_1 HO.asL HO.asE [168]))
  HO.left (Hook.of (rg HO.frag.heap_1 HO.asL HO.asE [168])) (Hook.keeps (rg HO.frag.heap_1 HO.asL HO.asE [168]))
  (λs e=>xl_of s (Bool.and_eq_true_iff.mp e).1) XL.keeps rfl rfl rfl
  (λs e=>recFacts_of (Bool.and_eq_true_iff.mp e).2) rfl
  (by first | assumption | decide +kernel) (by decide +kernel) ⟨rfl,rfl,rfl,rfl,rfl,by decide +kernel⟩ ?hw ?hc
 (case hw=>w_witness2)
 k_fill
 refine L2.Wm (l:=PySem.Challenge.rw_firnfall_k17_piles_by_a_plain_walk) 11 170 168 ⟨rfl,⋯,⋯⟩ rfl rfl (λw h Y=>⟨PySem.W.km_in_of Y,PySem.W.km_tabs_of Y 168 (by simp)⟩) (λ_=>by kernel_rfl) (λ_=>by kernel_rfl) ?F
 case F =>
  intro w mg fa h KX G hmg
  refine' K17.Ec KX G hmg ..
  all_goals try first | refine' L2.gN.mk ?_ ?_ ?_ ?_ | refine' L2.gM.mk ?_ ?_ ?_ ?_ ?_ | refine' L2.gE.mk ?_ ?_ ?_ | refine' K17.RefK.mk ⟨?_,?_,?_,?_,?_,?_,?_,?_⟩ ?_ ?_ ?_ ?_ ?_
  all_goals try show _=_
  all_goals try k_is
  all_goals kernel_rfl
